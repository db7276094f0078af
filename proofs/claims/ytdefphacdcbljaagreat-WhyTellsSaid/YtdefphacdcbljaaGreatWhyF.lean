/- THE TEXTS OF WhyC WhyD WhyE WhyF: Does one need another one; how far is a node, told of the levels: the document's. The levels: the document's. The chain, told of the levels: the document's. How far all nodes are: the document's. -/
import Derived.Test.YtdefphacdcbljaaGreatWhyB
import Derived.Test.YtdefphacdcbljaaGreatWhyN
import Derived.Test.YtdefphacdcbljaaGreatLakA
import Derived.Test.YtdefphacdcbljaaGreatNodZ
import Derived.Test.YtdefphacdcbljaaGreatNodS
namespace Go.Proofs.YtdefphacdcbljaaGreat
open Go.RowKit Go.ChangeShapes Go.WideShapes
set_option linter.unusedVariables false
set_option maxRecDepth 100000

theorem hasD_take {l : List Ne} {k : Nat} (h : k < l.length) (a b : Nd) : hasD (l.take (k + 1)) a b = (hasD (l.take k) a b || (decide ((l.getD k zNe).1 = a) && decide ((l.getD k zNe).2 = b))) := by
  rw [Bool.eq_iff_iff, Bool.or_eq_true, Bool.and_eq_true, hasD_iff, hasD_iff, ne_take h, List.mem_append, List.mem_singleton, decide_eq_true_iff, decide_eq_true_iff]
  constructor
  · rintro (h | h)
    · exact .inl h
    · rw [← h]; exact .inr ⟨rfl, rfl⟩
  · rintro (h | ⟨h1, h2⟩)
    · exact .inl h
    · exact .inr (by rw [← h1, ← h2])
theorem hasD_yes {l : List Ne} {k : Nat} (h : k < l.length) {a b : Nd} (h1 : (l.getD k zNe).1 = a) (h2 : (l.getD k zNe).2 = b) : hasD l a b = true :=
  hasD_iff.2 (by rw [← h1, ← h2]; exact ne_mem h)
set_option maxHeartbeats 1600000 in
theorem refhasW_any (V : Value) (l : List Ne) (p v q u : List UInt8) (w : World) (h : Nes w V l) :
    Calls Tryz.prog 35 #[V, .agg #[.string (mkB p), .string (mkB v)], .agg #[.string (mkB q), .string (mkB u)]] w fun e w' => e = .returned (.bool (hasD l (p, v) (q, u))) ∧ Below w.heap.size w w' := by
  obtain ⟨a, c, rfl, h1, h2, -, -⟩ := h.ex
  unfold maxLen at h2
  obtain ⟨W, g, g2, hW, hg, hg2, d0, d1, d2, d3, hb⟩ := boxB2 w (.string (mkB p)) (.string (mkB v)) (.string (mkB q)) (.string (mkB u)) 24
  obtain ⟨n, hn⟩ : ∃ n, l.length = n := ⟨_, rfl⟩
  rw [hn] at h1 h ⊢
  obtain ⟨R, hR⟩ : ∃ R, hasD l (p, v) (q, u) = R := ⟨_, rfl⟩
  rw [hR]
  have ST := Lib.hid h; have HN := Lib.hid hn; have HR := Lib.hid hR; have D0 := Lib.hid d0; have D1 := Lib.hid d1; have D2 := Lib.hid d2; have D3 := Lib.hid d3
  have HBW := Lib.hid hb; have HW := Lib.hid hW; have HG := Lib.hid hg; have HG2 := Lib.hid hg2
  clear h hn hR d0 d1 d2 d3 hb hW hg hg2
  go_enter Tryz.func35, Tryz.ntmps35
  go_upto_region 1 with fail
  rw [HW.out, HG2.out, HG.out]
  go_wp2
  go_loopw [7] (fun i wr => ∃ k : Nat, k ≤ n ∧ i = .int .i64 k ∧ Hid (hasD (l.take k) (p, v) (q, u) = false) ∧ Hid (Below W.heap.size W wr)) (fun i _ => n - (intOf i).toNat)
  case atStart => exact ⟨0, Nat.zero_le _, rfl, Lib.hid rfl, Lib.hid (Below.refl _ _)⟩
  case round =>
    obtain ⟨k, hk, rfl, HA, HB⟩ := hrel
    by_cases hlt : k < n
    · have hkl : k < l.length := by rw [HN.out]; exact hlt
      have hbw : Below w.heap.size w wr := below_step HBW.out HB.out
      obtain ⟨b, off, rfl, -, hc0, hc1, hc2, hc3⟩ := (ST.out.below hbw).at k hkl
      have htk := hasD_take hkl (p, v) (q, u)
      have hye := fun h1 h2 => hasD_yes (a := (p, v)) (b := (q, u)) hkl h1 h2
      rw [HA.out, Bool.false_or] at htk
      rw [HR.out] at hye
      obtain ⟨y, hy⟩ : ∃ y, y = l.getD k zNe := ⟨_, rfl⟩
      rw [← hy] at hc0 hc1 hc2 hc3 htk hye
      obtain ⟨⟨y1, y2⟩, y3, y4⟩ := y
      simp only at hc0 hc1 hc2 hc3 htk hye
      have d0 := cell_keep D0.out HB.out
      have d1 := cell_keep D1.out HB.out
      have d2 := cell_keep D2.out HB.out
      have d3 := cell_keep D3.out HB.out
      have hgd := guard_nd
      have heq := eq_nd y1 y2 p v
      have heq2 := eq_nd y3 y4 q u
      have HTK := Lib.hid htk; have HYE := Lib.hid hye
      have hkb : (k : Int) < (n : Int) := by omega
      clear hy htk hye
      by_cases e1 : (y1, y2) = (p, v)
      · rw [decide_eq_true e1] at heq
        by_cases e2 : (y3, y4) = (q, u)
        · rw [decide_eq_true e2] at heq2
          have hz := HYE.out e1 e2
          subst hz
          clear e1 e2
          go_wp2_with fail
          go_quiet (fail)
          go_wp2
          go_ret
          exact ⟨rfl, below_step hbw (below_q ⟨nq, rfl⟩)⟩
        · rw [decide_eq_false e2] at heq2
          have hz := Lib.hid (show hasD (l.take (k + 1)) (p, v) (q, u) = false by rw [HTK.out, decide_eq_false e2, Bool.and_false])
          clear e1 e2
          go_wp2_with fail
          go_quiet (fail)
          go_wp2
          go_roundw
          case rel => exact ⟨k + 1, by omega, by go_num, hz, Lib.hid (below_step HB.out (below_q ⟨nq, rfl⟩))⟩
          case measure => simp [intOf]; omega
      · rw [decide_eq_false e1] at heq
        have hz := Lib.hid (show hasD (l.take (k + 1)) (p, v) (q, u) = false by rw [HTK.out, decide_eq_false e1, Bool.false_and])
        clear e1
        go_wp2_with fail
        go_quiet (fail)
        go_wp2
        go_roundw
        case rel => exact ⟨k + 1, by omega, by go_num, hz, Lib.hid (below_step HB.out (below_q ⟨nq, rfl⟩))⟩
        case measure => simp [intOf]; omega
    · have e : k = n := by omega
      subst e
      have hA := HA.out
      rw [List.take_of_length_le (by rw [HN.out]; exact Nat.le_refl _), HR.out] at hA
      subst hA
      go_wp2
      go_ret
      exact ⟨rfl, below_step HBW.out HB.out⟩

/-! ### How far -/
set_option maxHeartbeats 1600000 in
theorem refdepthW_any (V : Value) (ls : List (List Nd)) (p v : List UInt8) (w : World) (h : NdL w V ls) (hl : ls.length ≤ 100000) :
    Calls Tryz.prog 15 #[V, .agg #[.string (mkB p), .string (mkB v)]] w fun e w' => e = .returned (.int .i64 (depIn ls (p, v) : Nat)) ∧ Below w.heap.size w w' := by
  obtain ⟨a, c, rfl, h1, h2, -⟩ := h.ex
  unfold maxLen at h2
  obtain ⟨W, g, hW, hg, d0, d1, hb⟩ := boxB1 w (.string (mkB p)) (.string (mkB v)) 24
  obtain ⟨n, hn⟩ : ∃ n, ls.length = n := ⟨_, rfl⟩
  rw [hn] at h1 h hl ⊢
  obtain ⟨R, hR⟩ : ∃ R, depIn ls (p, v) = R := ⟨_, rfl⟩
  rw [hR]
  have ST := Lib.hid h; have HN := Lib.hid hn; have HR := Lib.hid hR; have D0 := Lib.hid d0; have D1 := Lib.hid d1
  have HBW := Lib.hid hb; have HW := Lib.hid hW; have HG := Lib.hid hg
  clear h hn hR d0 d1 hb hW hg
  go_enter Tryz.func15, Tryz.ntmps15
  have en : ∀ (args : Array Value) (w : World), Sem.run Tryz.prog (callFunc 33 args) w = .ok (.enter 33 args) w := fun args w => enters_of Tryz.func33 (by kernel_rfl) rfl args w
  go_upto_region 1 with fail
  rw [HW.out, HG.out]
  go_wp2
  go_loopw [5] (fun i wr => ∃ k : Nat, k ≤ n ∧ i = .int .i64 k ∧ Hid (∀ j, j < k → hasN (ls.getD j []) (p, v) = false) ∧ Hid (Below W.heap.size W wr)) (fun i _ => n - (intOf i).toNat)
  case atStart => exact ⟨0, Nat.zero_le _, rfl, Lib.hid (fun j hj => by omega), Lib.hid (Below.refl _ _)⟩
  case round =>
    obtain ⟨k, hk, rfl, HA, HB⟩ := hrel
    by_cases hlt : k < n
    · have hkl : k < ls.length := by rw [HN.out]; exact hlt
      have hbw : Below w.heap.size w wr := below_step HBW.out HB.out
      obtain ⟨b, off, a', n', c', rfl, hc0, hx⟩ := (ST.out.below hbw).at k hkl
      have d0 := cell_keep D0.out HB.out
      have d1 := cell_keep D1.out HB.out
      obtain ⟨T, hT⟩ : ∃ T, hasN (ls.getD k []) (p, v) = T := ⟨_, rfl⟩
      have hnx : T = false → ∀ j, j < k + 1 → hasN (ls.getD j []) (p, v) = false := fun e j hj => by
        by_cases x : j = k
        · rw [x, hT, e]
        · exact HA.out j (by omega)
      have hfd : T = true → R = k + 1 := fun e => by
        rw [← HR.out]
        exact depIn_at hkl (by rw [hT, e]) HA.out
      have HX := Lib.hid hx; have HT := Lib.hid hT; have HNX := Lib.hid hnx; have HFD := Lib.hid hfd; have HBW2 := Lib.hid hbw
      have hkb : (k : Int) < (n : Int) := by omega
      clear hx hT hnx hfd hbw
      have HLT := Lib.hid hlt; have HC0 := Lib.hid hc0; have D0R := Lib.hid d0; have D1R := Lib.hid d1
      clear hc0 d0 d1
      go_upto_region 4 with fail
      refine rol_run (by kernel_rfl) [[], [], [0, 1], [0, 1, 2], [], [0, 1, 2, 3, 4]] (by kernel_rfl) [12, 13, 14, 15, 16, 17] [[], [], [0, 1], [2], [], [3, 4]] [0, 0, 0, 0, 0, 0] [0, 0, 0, 0, 0, 0] [1000, 1000, 1000, 1000, 1000, 1000] [.val 12 (.slice (some ⟨b, off, none⟩) n c), .val 13 (.int .i64 (k : Int)), .val 14 (.pointer (some ⟨b, off + k, none⟩)), .val 15 (.slice a' n' c'), .val 16 (.agg #[.string (mkB p), .string (mkB v)]), .val 17 (.bool T)] (by kernel_rfl) ?_ (wr.heap.size) (wr.heap.size) rfl (Below.refl _ _) rfl (fun _ => 0) ?_ ?_ ?_
      · intro j hj
        have hj3 : j < 6 := hj
        have hj2 : j = 0 ∨ j = 1 ∨ j = 2 ∨ j = 3 ∨ j = 4 ∨ j = 5 := by omega
        clear hj hj3
        rcases hj2 with rfl | rfl | rfl | rfl | rfl | rfl
        · exact trivial
        · exact trivial
        · exact trivial
        · exact trivial
        · exact trivial
        · exact trivial
      · intro j hj0 hj
        exact absurd hj (Nat.not_lt.2 hj0)
      · intro i hi a wx who hG hF
        have hz : a.tmps.size = 20 := hG.size
        have hi3 : i < 6 := hi
        have hi2 : i = 0 ∨ i = 1 ∨ i = 2 ∨ i = 3 ∨ i = 4 ∨ i = 5 := by omega
        clear hi hi3
        rcases hi2 with rfl | rfl | rfl | rfl | rfl | rfl
        · exact rol_val rfl rfl rfl (by rw [hz]; decide) (ex_move (Or.inl rfl) (eval_slot ((hG.slots 0 (by decide)).trans rfl))) hG.below
        · exact rol_val rfl rfl rfl (by rw [hz]; decide) (ex_move (Or.inl rfl) (eval_slot ((hG.slots 5 (by decide)).trans rfl))) hG.below
        · exact rol_val rfl rfl rfl (by rw [hz]; decide) (ex_index rfl (eval_slot (hF 0 (by decide))) (eval_slot (hF 1 (by decide))) (idx_ndl HLT.out)) hG.below
        · exact rol_val rfl rfl rfl (by rw [hz]; decide) (ex_load rfl (eval_slot (hF 2 (by decide))) (ld_ndsU (cell_keep HC0.out hG.below))) hG.below
        · exact rol_val rfl rfl rfl (by rw [hz]; decide) (ex_load rfl (eval_slot ((hG.slots 3 (by decide)).trans rfl)) (ld_node (cell_keep D0R.out hG.below) (cell_keep D1R.out hG.below))) hG.below
        · refine rol_call rfl rfl rfl (by rw [hz]; decide) (ex_call rfl (by simp [eval_slot (hF 3 (by decide)), eval_slot (hF 4 (by decide))]) en) (refnhas_any _ _ p v wx (HX.out.below hG.below)) ?_ hG.below hG.new
          rintro e w1 ⟨rfl, hd1⟩
          rw [HT.out]
          exact ⟨_, rfl, hd1, .inl rfl⟩
      · intro a wx who hG hF
        have fv17 : a.tmps.getD 17 undef = .bool T := eval_slot (s := 17) (hF 5 (of_decide_eq_true (by kernel_rfl)) (of_decide_eq_true (by kernel_rfl)))
        have hbx := hG.below
        have hnx := hG.new
        rw [hG.frame]
        simp only [List.foldl_cons, List.foldl_nil, List.setIfInBounds_toArray, List.set_cons_zero, List.set_cons_succ]
        generalize a.tmps.getD 12 undef = u12
        generalize a.tmps.getD 13 undef = u13
        generalize a.tmps.getD 14 undef = u14
        generalize a.tmps.getD 15 undef = u15
        generalize a.tmps.getD 16 undef = u16
        rw [fv17]
        clear hF hG fv17
        have HB1 := Lib.hid (below_step HB.out hbx); have HB2 := Lib.hid (below_step HBW2.out hbx)
        clear hbx hnx
        cases T
        · go_wp2
          go_roundw
          case rel => exact ⟨k + 1, by omega, by go_num, Lib.hid (HNX.out rfl), HB1⟩
          case measure => simp [intOf]; omega
        · have hz := HFD.out rfl
          subst hz
          go_wp2
          go_ret
          exact ⟨by go_num, HB2.out⟩
    · have e : k = n := by omega
      subst e
      have hA : depIn ls (p, v) = 0 := depIn_no fun j hj => HA.out j (by rw [← HN.out]; exact hj)
      rw [HR.out] at hA
      subst hA
      go_wp2
      go_ret
      exact ⟨rfl, below_step HBW.out HB.out⟩
end Go.Proofs.YtdefphacdcbljaaGreat

namespace Go.Proofs.YtdefphacdcbljaaGreat
open Go.RowKit Go.ChangeShapes Go.WideShapes
set_option linter.unusedVariables false
set_option maxRecDepth 100000

def lenW : Value → Nat
  | .slice _ n _ => n
  | _ => 0
theorem lenW_slice (a : Option Addr) (n c : Nat) : lenW (.slice a n c) = n := rfl
theorem own_lenW {w : World} {N n : Nat} {e : TypeId} {s : Nat} {v : Value} {xs : List Value} (h : w.ownsRow N e s v n xs) : lenW v = n := by
  rcases h.2 with ⟨rfl, h0⟩ | ⟨g, cap, cur, rfl, -⟩
  · exact h0.symm
  · rfl
theorem nextW_from {l : List Ne} (hm : mayK l = true) {a m : List Nd} {x : Nd} (hx : x ∈ nextW l a m) : ∃ d ∈ l, d.2 = x := by
  obtain ⟨⟨y, _, hy⟩, _⟩ := (nextW_mem hm).1 hx
  exact ⟨(y, x), hy, rfl⟩
theorem nextW_small {l : List Ne} (hm : mayK l = true) (hs : ∀ d ∈ l, smallNe d) (j : Nat) (a m : List Nd) : ∀ x ∈ nextW (l.take j) a m, smallN x := fun x hx => by
  obtain ⟨d, hd, rfl⟩ := nextW_from (mayK_sub hm fun _ h => List.mem_of_mem_take h) hx
  exact (hs d (List.mem_of_mem_take hd)).2
theorem nextW_okT {l : List Ne} (hm : mayK l = true) (j : Nat) (a m : List Nd) : ∀ x ∈ nextW (l.take j) a m, okN x = true :=
  checkN_ok (nextW_check (mayK_sub hm fun _ h => List.mem_of_mem_take h) a m)
theorem ndW_take {l : List Nd} {k : Nat} (h : k < l.length) : l.take (k + 1) = l.take k ++ [l.getD k ([], [])] := by
  rw [List.take_succ_eq_append_getElem h, nd_getD h]
theorem own_zeroW (w : World) : (w.alloc (.cells #[.string (mkB []), .string (mkB [])] 24)).ownsRow w.heap.size 24 2 (.slice (some ⟨w.heap.size, 0, none⟩) 1 1) 1 (ndsC [([], [])]) :=
  ⟨rfl, .inr ⟨w.heap.size, 1, _, rfl, Nat.le_refl _, heap_alloc_new _ _, Nat.le_refl _, by unfold maxLen; omega, rfl, rfl⟩⟩
theorem apartW_new {w : World} {K n : Nat} {e : TypeId} {s : Nat} {x M : Value} {xs : List Value} (h : w.ownsRow K e s x n xs) (hm : ∀ b, M.ownBlock = some b → b < K) : apartW x M := fun b hb e => by
  have h1 := (own_lt h hb).1
  have h2 := hm b e
  omega
theorem apartW_grow {w : World} {K n : Nat} {e : TypeId} {s : Nat} {x M M' : Value} {xs : List Value} (h : w.ownsRow K e s x n xs) (ha : apartW x M) (hn : ∀ b, M'.ownBlock = some b → M.ownBlock = some b ∨ w.heap.size ≤ b) : apartW x M' := fun b hb e => by
  rcases hn b e with h1 | h1
  · exact ha b hb h1
  · have := (own_lt h hb).2
    omega
theorem blk_of_map {A : Option Addr} {n c : Nat} {V : Value} {k : Nat} (h : ∀ b, A.map (·.block) = some b → V.ownBlock = some b ∨ k ≤ b) : ∀ b, (Value.slice A n c).ownBlock = some b → V.ownBlock = some b ∨ k ≤ b := fun b e => h b (by
  cases A with
  | none => cases e
  | some q => simpa [Value.ownBlock] using e)
set_option maxHeartbeats 6400000 in
theorem reflevelsW_any (V : Value) (l : List Ne) (w : World) (h : Nes w V l) (hm : mayK l = true) (hs : ∀ d ∈ l, smallNe d) (hl : l.length ≤ 100000) :
    Calls Tryz.prog 14 #[V] w fun e w' => ∃ v, e = .returned v ∧ NdL w' v (levsW l) ∧ Below w.heap.size w w' := by
  obtain ⟨a, c, rfl, h1, h2, -, -⟩ := h.ex
  unfold maxLen at h2
  obtain ⟨n, hn⟩ : ∃ n, l.length = n := ⟨_, rfl⟩
  rw [hn] at h1 h hl ⊢
  have h0 := own_zeroW w
  have hb0 : Below w.heap.size w (w.alloc (.cells #[.string (mkB []), .string (mkB [])] 24)) := (Below.refl _ _).alloc (Nat.le_refl _) _
  have ST := Lib.hid h; have HN := Lib.hid hn; have HS := Lib.hid hs; have HM := Lib.hid hm; have H0 := Lib.hid h0; have HB0 := Lib.hid hb0
  clear h hn hs hm h0 hb0
  go_enter Tryz.func14, Tryz.ntmps14
  go_wp2
  go_loopw [3, 4, 5] (fun v3 v4 v5 wr => ∃ (k : Nat) (X3 X4 X5 : Value), X3 = v3 ∧ X4 = v4 ∧ X5 = v5 ∧ Hid (LvW wr w.heap.size X3 X4 (levW l k)) ∧ Hid (wr.ownsRow w.heap.size 24 2 X4 (metW l k).length (ndsC (metW l k))) ∧ Hid (wr.ownsRow w.heap.size 24 2 X5 (atW l k).length (ndsC (atW l k))) ∧ Hid (apartW X5 X4) ∧ Hid (Below w.heap.size w wr)) (fun _ v4 v5 _ => 2 * (n - lenW v4) + (if lenW v5 = 0 then 0 else 1))
  case atStart => exact ⟨0, _, _, _, rfl, rfl, rfl, Lib.hid (LvW.nil _ _ _), Lib.hid (World.ownsRow_nil _ _ _ _), Lib.hid H0.out, Lib.hid (fun b _ e => by cases e), Lib.hid HB0.out⟩
  case round =>
    obtain ⟨k, X3, X4, X5, rfl, rfl, rfl, HLV, HMT, HAT, HPT, HB⟩ := hrel
    clear H0 HB0
    obtain ⟨a5, c5, rfl, hS5⟩ := ndsO HAT.out
    obtain ⟨a4, c4, rfl, hS4⟩ := ndsO HMT.out
    have hfin := fun e => levW_all HM.out (k := k) e
    have hkn := fun e => atW_le HM.out (k := k) e
    have hle := metW_le HM.out (k + 1)
    have hsu := levW_succ l k
    rw [metW_succ, List.length_append] at hle
    have hms := metW_succ l k
    rw [atW_succ] at hle hsu hms
    have has := atW_succ l k
    have hlv := levW_len l k
    obtain ⟨A, hA⟩ : ∃ A, atW l k = A := ⟨_, rfl⟩
    obtain ⟨M, hM⟩ : ∃ M, metW l k = M := ⟨_, rfl⟩
    obtain ⟨L, hL⟩ : ∃ L, levW l k = L := ⟨_, rfl⟩
    rw [hL] at HLV hfin hsu hlv
    rw [hA] at HAT hS5 hfin hkn hle hsu hms has
    rw [hM] at HMT hS4 hle hsu hms has HLV
    obtain ⟨q, hq⟩ : ∃ q, A.length = q := ⟨_, rfl⟩
    obtain ⟨m, hmm⟩ : ∃ m, M.length = m := ⟨_, rfl⟩
    rw [hA, hq] at HPT
    rw [hM, hmm] at HPT
    rw [hA, hq]
    rw [hM, hmm]
    rw [hq] at HAT hS5
    rw [hmm] at HMT hS4 hle HLV
    have HFIN := Lib.hid hfin; have HSU := Lib.hid hsu; have HMS := Lib.hid hms; have HAS := Lib.hid has; have HLE := Lib.hid hle; have HMM := Lib.hid hmm; have HQ := Lib.hid hq; have S5 := Lib.hid hS5; have S4 := Lib.hid hS4
    have HLK := Lib.hid (show A ≠ [] → L.length ≤ n from fun e => by have h3 := hkn e; have h4 := HN.out; omega)
    have HM5 := Lib.hid (show ∀ b, (Value.slice a4 m c4).ownBlock = some b → b < wr.heap.size from fun b e => (own_lt HMT.out e).2)
    clear hfin hsu hms has hle hmm hq hS5 hS4 hA hM hL hkn hlv
    by_cases hq0 : q = 0
    · subst hq0
      have e : A = [] := List.eq_nil_of_length_eq_zero HQ.out
      have hf := HFIN.out e
      go_wp2
      go_ret
      exact ⟨_, rfl, by rw [← hf]; exact HLV.out.ndl, HB.out⟩
    · have hqp : (0 : Int) < (q : Int) := by omega
      have hAne : A ≠ [] := fun e => by have h3 := HQ.out; rw [e] at h3; exact hq0 h3.symm
      have hLn := HLK.out hAne
      obtain ⟨Wk, hWk⟩ : ∃ v, v = wr := ⟨_, rfl⟩
      subst hWk
      have HLN := Lib.hid hLn
      have hdq : decide (0 < q) = true := decide_eq_true (by omega)
      clear hAne hLn
      go_wp2
      go_loopw [6, 7] (fun v6 i wr => ∃ (j : Nat) (Y : Value), j ≤ n ∧ Y = v6 ∧ i = .int .i64 j ∧ Hid (wr.ownsRow Wk.heap.size 24 2 Y (nextW (l.take j) A M).length (ndsC (nextW (l.take j) A M))) ∧ Hid (Below Wk.heap.size Wk wr)) (fun _ i _ => n - (intOf i).toNat)
      case atStart => exact ⟨0, _, Nat.zero_le _, rfl, rfl, Lib.hid (by rw [nextW_nil]; exact World.ownsRow_nil _ _ _ _), Lib.hid (Below.refl _ _)⟩
      case round =>
        obtain ⟨j, Y, hj, rfl, rfl, HY, HBI⟩ := hrel
        by_cases hlt : j < n
        · have hjl : j < l.length := by rw [HN.out]; exact hlt
          have hbw : Below w.heap.size w wr := below_step HB.out HBI.out
          obtain ⟨b, off, rfl, -, hc0, hc1, hc2, hc3⟩ := (ST.out.below hbw).at j hjl
          have htk := nextW_take hjl A M
          have hsy := HS.out _ (ne_mem hjl)
          have hoy := (mayK_mem HM.out (ne_mem hjl)).1
          obtain ⟨y, hy⟩ : ∃ y, y = l.getD j zNe := ⟨_, rfl⟩
          rw [← hy] at hc0 hc1 hc2 hc3 htk hsy hoy
          obtain ⟨⟨y1, y2⟩, y3, y4⟩ := y
          simp only at hc0 hc1 hc2 hc3 htk hsy hoy
          obtain ⟨T1, hT1⟩ : ∃ T, hasN A (y1, y2) = T := ⟨_, rfl⟩
          obtain ⟨T2, hT2⟩ : ∃ T, hasN M (y3, y4) = T := ⟨_, rfl⟩
          rw [hT1, hT2] at htk
          have HT1 := Lib.hid hT1; have HT2 := Lib.hid hT2; have HTK := Lib.hid htk
          have HA := Lib.hid (S5.out.below HBI.out); have HMD := Lib.hid (S4.out.below HBI.out)
          have hkb : (j : Int) < (n : Int) := by omega
          clear hy htk hT1 hT2 hbw
          cases T1
          · have hz := HTK.out
            rw [Bool.false_and, if_neg Bool.false_ne_true] at hz
            have HZ := Lib.hid hz
            clear hz
            go_wp2_with (go_at_call 33; refine (refnhas_any _ _ _ _ _ HA.out).mono ?_; rintro e w1 ⟨rfl, hb1⟩; rw [HT1.out]; have HY1 := Lib.hid (ownsRow_belowB HY.out hb1); have HB1 := Lib.hid (below_step HBI.out hb1); clear hb1)
            go_roundw
            case rel => exact ⟨j + 1, _, by omega, rfl, by go_num, Lib.hid (by rw [HZ.out]; exact HY1.out), HB1⟩
            case measure => simp [intOf]; omega
          · cases T2
            · have hz := HTK.out
              rw [show (true && !false) = true from rfl, if_pos rfl] at hz
              obtain ⟨aY, cY, rfl, hSY⟩ := ndsO HY.out
              have hsm := nextW_small HM.out HS.out j A M
              have hom := nextW_okT HM.out j A M
              have hyl : (nextW (l.take j) A M).length ≤ n := by
                have h3 := nextW_len (l.take j) A M
                rw [List.length_take] at h3
                omega
              obtain ⟨NX, hNX⟩ : ∃ r, nextW (l.take j) A M = r := ⟨_, rfl⟩
              rw [hNX] at hz hSY hsm hom hyl HY
              obtain ⟨s, hsn⟩ : ∃ s, NX.length = s := ⟨_, rfl⟩
              rw [hsn] at hSY hyl HY
              rw [hNX, hsn]
              have HZ := Lib.hid hz; have SY := Lib.hid hSY; have HSM := Lib.hid hsm; have HOM := Lib.hid hom; have HSY := Lib.hid hsy.2; have HOY := Lib.hid hoy; have HSN := Lib.hid (show NX.length ≤ 1000000 by omega)
              have hWs : Wk.heap.size ≤ wr.heap.size := HBI.out.size
              have HWS := Lib.hid hWs
              clear hz hSY hsm hom hsy hoy hNX hsn HY hWs
              go_wp2_with first
                | (go_at_call 33; refine Calls.mono (refnhas_any _ _ _ _ _ (by first | exact HA.out | exact HMD.out)) ?_; rintro e w1 ⟨rfl, hb1⟩; (first | rw [HT1.out] | rw [HT2.out]); replace HA := Lib.hid (HA.out.below hb1); replace HMD := Lib.hid (HMD.out.below hb1); replace SY := Lib.hid (SY.out.below hb1); replace HBI := Lib.hid (below_step HBI.out hb1); replace HWS := Lib.hid (Nat.le_trans HWS.out hb1.size); replace hc0 := cell_keep hc0 hb1; replace hc1 := cell_keep hc1 hb1; replace hc2 := cell_keep hc2 hb1; replace hc3 := cell_keep hc3 hb1; clear hb1)
                | (go_at_call 34; refine (refnwitho_any _ _ _ _ _ SY.out HSM.out HOM.out HSY.out.1 HSY.out.2 HOY.out HSN.out).mono ?_; rintro e w1 ⟨x1, rfl, ho1, hb1⟩; have HO1 := Lib.hid (row_base ho1 HWS.out); have HB1 := Lib.hid (below_step HBI.out hb1); clear ho1 hb1)
              go_roundw
              case rel => exact ⟨j + 1, _, by omega, rfl, by go_num, Lib.hid (by rw [HZ.out]; exact HO1.out), HB1⟩
              case measure => simp [intOf]; omega
            · have hz := HTK.out
              rw [show (true && !true) = false from rfl, if_neg Bool.false_ne_true] at hz
              have HZ := Lib.hid hz
              clear hz
              go_wp2_with (go_at_call 33; refine Calls.mono (refnhas_any _ _ _ _ _ (by first | exact HA.out | exact HMD.out)) ?_; rintro e w1 ⟨rfl, hb1⟩; (first | rw [HT1.out] | rw [HT2.out]); replace HA := Lib.hid (HA.out.below hb1); replace HMD := Lib.hid (HMD.out.below hb1); replace HY := Lib.hid (ownsRow_belowB HY.out hb1); replace HBI := Lib.hid (below_step HBI.out hb1); replace hc0 := cell_keep hc0 hb1; replace hc1 := cell_keep hc1 hb1; replace hc2 := cell_keep hc2 hb1; replace hc3 := cell_keep hc3 hb1; clear hb1)
              go_roundw
              case rel => exact ⟨j + 1, _, by omega, rfl, by go_num, Lib.hid (by rw [HZ.out]; exact HY.out), HBI⟩
              case measure => simp [intOf]; omega
        · have e : j = n := by omega
          subst e
          obtain ⟨aY, cY, rfl, hSY⟩ := ndsO HY.out
          have hlt := List.take_of_length_le (i := j) (l := l) (by rw [HN.out]; exact Nat.le_refl _)
          rw [hlt] at hSY HY ⊢
          obtain ⟨NX, hNX⟩ : ∃ r, nextW l A M = r := ⟨_, rfl⟩
          have hsu := HSU.out; have hms := HMS.out; have has := HAS.out; have hle := HLE.out
          rw [hNX] at hsu hms has hle hSY HY ⊢
          obtain ⟨q2, hq2⟩ : ∃ r, NX.length = r := ⟨_, rfl⟩
          rw [hq2] at hle hSY HY ⊢
          have SU := Lib.hid hsu; have MS := Lib.hid hms; have AS := Lib.hid has; have Q2 := Lib.hid hq2; have SY := Lib.hid hSY
          have hap := apartW_new HY.out HM5.out
          have hlv := HLV.out.below HBI.out
          have hmt := ownsRow_belowB HMT.out HBI.out
          have hbw : Below w.heap.size w wr := below_step HB.out HBI.out
          have hmn : m + q2 ≤ j := by have h3 := HN.out; omega
          have HAP := Lib.hid hap; have LV := Lib.hid hlv; have MT := Lib.hid hmt; have BW := Lib.hid hbw
          obtain ⟨K0, hK0⟩ : ∃ r, Wk.heap.size = r := ⟨_, rfl⟩
          rw [hK0] at HY
          have HY2 := Lib.hid HY.out; have HK0 := Lib.hid (show w.heap.size ≤ K0 by rw [← hK0]; exact HB.out.size)
          clear hlt hSY hNX hsu hms has hle hq2 hap hlv hmt hbw HSU HMS HAS HLE HPT HFIN HLV HAT HMT S5 S4 HM5 HBI HY hK0 HLK
          go_wp2
          go_loopw [4, 8] (fun v4 i wr2 => ∃ (t : Nat) (Z : Value), t ≤ q2 ∧ Z = v4 ∧ i = .int .i64 t ∧ Hid (wr2.ownsRow w.heap.size 24 2 Z (m + t) (ndsC (M ++ NX.take t))) ∧ Hid (wr2.ownsRow K0 24 2 (.slice aY q2 cY) q2 (ndsC NX)) ∧ Hid (apartW (.slice aY q2 cY) Z) ∧ Hid (LvW wr2 w.heap.size X3 Z L) ∧ Hid (Below w.heap.size w wr2)) (fun _ i _ => q2 - (intOf i).toNat)
          case atStart => exact ⟨0, _, Nat.zero_le _, rfl, rfl, Lib.hid (by rw [List.take_zero, List.append_nil]; exact MT.out), HY2, HAP, LV, BW⟩
          case round =>
            obtain ⟨t, Z, ht, rfl, rfl, HZ, HY, HPY, HLV, HBZ⟩ := hrel
            have hNw : w.heap.size ≤ wr.heap.size := HBZ.out.size
            by_cases hlt : t < q2
            · have htl : t < NX.length := by rw [Q2.out]; exact hlt
              have hnd : Nds wr (.slice aY q2 cY) NX := by
                have h3 := HY.out
                rw [← Q2.out] at h3 ⊢
                obtain ⟨a9, c9, e9, h9⟩ := ndsO h3
                rw [e9]; exact h9
              obtain ⟨b, off, rfl, -, hc0, hc1⟩ := hnd.at t htl
              have htk := ndW_take htl
              obtain ⟨z, hz⟩ : ∃ z, z = NX.getD t ([], []) := ⟨_, rfl⟩
              rw [← hz] at hc0 hc1 htk
              obtain ⟨z1, z2⟩ := z
              simp only at hc0 hc1
              have HTK := Lib.hid htk
              have HLE2 := Lib.hid (show (M ++ NX.take t).length = m + t by rw [List.length_append, HMM.out, List.length_take, Q2.out]; omega)
              have htb : (t : Int) < (q2 : Int) := by omega
              clear hz htk hnd
              go_wp2_with (at_builtin; refine wpList_push_ndW rfl _ _ rfl w.heap.size _ (M ++ NX.take t) (m + t) HLE2.out rfl HZ.out z1 z2 wr.heap.size rfl rfl (by omega) hNw ?_; intro a9 c9 w9 ho9 hg9 hn9; have HO9 := Lib.hid ho9; have HN9 := Lib.hid (blk_of_map (n := m + t + 1) (c := c9) hn9); have HY9 := Lib.hid (row_heap HY.out fun b e => hg9.block b (own_lt HY.out e).2 fun q => HPY.out b e q.symm); have HP9 := Lib.hid (apartW_grow HY.out HPY.out HN9.out); have HL9 := Lib.hid (HLV.out.met HZ.out hg9 HN9.out); have HB9 := Lib.hid (HBZ.out.grown hg9 hNw fun b e => (own_lt HZ.out e).1); clear ho9 hg9 hn9)
              go_roundw
              case rel => exact ⟨t + 1, _, by omega, rfl, by go_num, Lib.hid (by rw [HTK.out, ← List.append_assoc]; exact HO9.out), HY9, HP9, HL9, HB9⟩
              case measure => simp [intOf]; omega
            · have e : t = q2 := by omega
              subst e
              have hlt2 := List.take_of_length_le (i := t) (l := NX) (by rw [Q2.out]; exact Nat.le_refl _)
              rw [hlt2] at HZ
              have hzl := own_lenW HZ.out
              have HMF := Lib.hid (show wr.ownsRow w.heap.size 24 2 Z (metW l (k + 1)).length (ndsC (metW l (k + 1))) by rw [MS.out, List.length_append, HMM.out, Q2.out]; exact HZ.out)
              have HAF := Lib.hid (show wr.ownsRow w.heap.size 24 2 (.slice aY t cY) (atW l (k + 1)).length (ndsC (atW l (k + 1))) by rw [AS.out, Q2.out]; exact row_base HY.out HK0.out)
              have hsu := SU.out
              have HYN := Lib.hid (show wr.ownsRow K0 24 2 (.slice aY t cY) NX.length (ndsC NX) by rw [Q2.out]; exact HY.out)
              clear hlt2 HZ HY
              by_cases ht0 : t = 0
              · subst ht0
                have hNXe : NX = [] := List.eq_nil_of_length_eq_zero Q2.out
                rw [hNXe] at hsu
                have SF := Lib.hid (show levW l (k + 1) = L by rw [hsu]; simp)
                clear hsu hNXe
                go_wp2
                go_roundw
                case rel => exact ⟨k + 1, _, _, _, rfl, rfl, rfl, Lib.hid (by rw [SF.out]; exact HLV.out), HMF, HAF, HPY, HBZ⟩
                case measure => simp [lenW_slice, hzl, hq0]
              · have hdt : decide (0 < t) = true := decide_eq_true (by omega)
                have htp : (0 : Int) < (t : Int) := by omega
                have hNXe : NX.isEmpty = false := by
                  cases hx : NX with
                  | nil => have h3 := Q2.out; rw [hx] at h3; exact absurd h3.symm ht0
                  | cons _ _ => rfl
                rw [hNXe, if_neg Bool.false_ne_true] at hsu
                have SF := Lib.hid hsu
                obtain ⟨xs, hv1, hv2, hv3⟩ := HLV.out
                have HV1 := Lib.hid hv1; have HV2 := Lib.hid hv2; have HV3 := Lib.hid hv3
                have hLn := HLN.out
                clear hsu hNXe hv1 hv2 hv3
                go_wp2_with (at_builtin; refine wpList_push_nl rfl _ _ rfl w.heap.size _ xs L.length rfl HV1.out aY t cY wr.heap.size rfl rfl (by omega) hNw ?_; intro a9 c9 w9 ho9 hg9; have HL9 := Lib.hid (HLV.out.push (l := NX) HYN.out HPY.out HV1.out HV2.out HV3.out hg9 ho9); have HM9 := Lib.hid (row_heap HMF.out fun b e => hg9.block b (own_lt HMF.out e).2 fun q => own_apart HV1.out HMF.out (by decide) b q.symm e); have HA9 := Lib.hid (row_heap HAF.out fun b e => hg9.block b (own_lt HAF.out e).2 fun q => own_apart HV1.out HAF.out (by decide) b q.symm e); have HB9 := Lib.hid (HBZ.out.grown hg9 hNw fun b e => (own_lt HV1.out e).1); clear ho9 hg9)
                go_roundw
                case rel => exact ⟨k + 1, _, _, _, rfl, rfl, rfl, Lib.hid (by rw [SF.out]; exact HL9.out), HM9, HA9, HPY, HB9⟩
                case measure => simp [lenW_slice, hzl, hq0, ht0]; omega
end Go.Proofs.YtdefphacdcbljaaGreat

namespace Go.Proofs.YtdefphacdcbljaaGreat
open Go.RowKit Go.ChangeShapes Go.WideShapes
set_option linter.unusedVariables false
set_option maxRecDepth 100000

theorem own_oneW {w : World} {N : Nat} (hN : N ≤ w.heap.size) (p v : List UInt8) : (w.alloc (.cells #[.string (mkB p), .string (mkB v)] 24)).ownsRow N 24 2 (.slice (some ⟨w.heap.size, 0, none⟩) 1 1) 1 (ndsC [(p, v)]) :=
  ⟨rfl, .inr ⟨w.heap.size, 1, _, rfl, hN, heap_alloc_new _ _, Nat.le_refl _, by unfold maxLen; omega, rfl, rfl⟩⟩
theorem findW_at {l : List Nd} {f : Nd → Bool} {k : Nat} (hk : k < l.length) (h : f (l.getD k ([], [])) = true) (hb : ∀ j, j < k → f (l.getD j ([], [])) = false) : l.find? f = some (l.getD k ([], [])) := by
  rw [dropW_eq hk, List.find?_append, List.find?_eq_none.2 (fun x hx => by
    obtain ⟨j, hj, rfl⟩ := List.mem_iff_getElem.1 hx
    rw [List.length_take] at hj
    have h3 := hb j (by omega)
    rw [nd_getD (by omega)] at h3
    rw [List.getElem_take, h3]; exact Bool.false_ne_true), List.find?_cons, nd_getD hk]
  rw [nd_getD hk] at h
  rw [h]
  simp [List.getD_eq_getElem?_getD, hk]
theorem chainW_no {l : List Ne} (hm : mayK l = true) {k : Nat} {n : Nd} (hn : farW l n = k + 2) : ¬ ∀ j, j < (atW l (k + 1)).length → hasD l ((atW l (k + 1)).getD j ([], [])) n = false := fun h => by
  have h1 := farW_pos hm (n := n) (by omega)
  rw [hn] at h1
  obtain ⟨m, _, h2, h3⟩ := parW_some hm h1
  obtain ⟨j, hj, rfl⟩ := List.mem_iff_getElem.1 h2
  have h4 := h j hj
  rw [nd_getD hj, hasD_iff.2 h3] at h4
  cases h4
theorem chainW_yes {l : List Ne} (hm : mayK l = true) {k : Nat} {n : Nd} {j : Nat} (hj : j < (atW l (k + 1)).length) (h : hasD l ((atW l (k + 1)).getD j ([], [])) n = true) (hb : ∀ i, i < j → hasD l ((atW l (k + 1)).getD i ([], [])) n = false) :
    chW l (k + 2) n = chW l (k + 1) ((atW l (k + 1)).getD j ([], [])) ++ [n] ∧ farW l ((atW l (k + 1)).getD j ([], [])) = k + 1 := by
  refine ⟨?_, farW_at hm (nd_mem hj)⟩
  rw [chW_eq, show parW l (k + 1) n = some ((atW l (k + 1)).getD j ([], [])) from findW_at hj h hb]
set_option maxHeartbeats 6400000 in
theorem refchainW_any (l : List Ne) (hm : mayK l = true) (hl : l.length ≤ 100000) : ∀ (d : Nat) (U V : Value) (p v : List UInt8) (w : World), Nes w U l → NdL w V (levsW l) → farW l (p, v) = d + 1 →
    Calls Tryz.prog 17 #[U, V, .agg #[.string (mkB p), .string (mkB v)]] w fun e w' => ∃ x, e = .returned x ∧ w'.ownsRow w.heap.size 24 2 x (d + 1) (ndsC (chW l (d + 1) (p, v))) ∧ Below w.heap.size w w' := by
  intro d
  induction d with
  | zero =>
    intro U V p v w hU hV hf
    obtain ⟨W, g, hW, hg, d0, d1, hb⟩ := boxB1 w (.string (mkB p)) (.string (mkB v)) 24
    obtain ⟨aU, c, rfl, -⟩ := hU.ex
    obtain ⟨a2, c2, rfl, -⟩ := hV.ex
    obtain ⟨n, hn⟩ : ∃ n, l.length = n := ⟨_, rfl⟩
    obtain ⟨nl, hnl⟩ : ∃ n, (levsW l).length = n := ⟨_, rfl⟩
    have hll : (levsW l).length ≤ 100000 := Nat.le_trans levsW_len hl
    have hdep : ((depIn (levsW l) (p, v) : Nat) : Int) = 1 := by rw [depIn_far hm, hf]; rfl
    rw [hn] at hU ⊢
    rw [hnl] at hV ⊢
    have ST := Lib.hid hU; have SV := Lib.hid hV; have HDEP := Lib.hid hdep; have HLL := Lib.hid hll; have D0 := Lib.hid d0; have D1 := Lib.hid d1; have HBW := Lib.hid hb; have HW := Lib.hid hW; have HG := Lib.hid hg
    clear hU hV hdep hll d0 d1 hb hW hg hn hnl hf
    go_enter Tryz.func17, Tryz.ntmps17
    go_upto_region 1 with fail
    rw [HW.out, HG.out]
    have d0 := D0.out
    have d1 := D1.out
    go_upto_region 3 with (go_at_call 15; refine (refdepthW_any _ _ _ _ _ (SV.out.below HBW.out) HLL.out).mono ?_; rintro e w1 ⟨rfl, hb1⟩; rw [HDEP.out]; have HB1 := Lib.hid (below_step HBW.out hb1); replace d0 := cell_keep d0 hb1; replace d1 := cell_keep d1 hb1; clear hb1)
    go_wp2
    go_ret
    exact ⟨_, rfl, own_oneW HB1.out.size p v, HB1.out.trans (((Below.refl _ _).alloc (Nat.le_refl _) _).mono HB1.out.size)⟩
  | succ k ih =>
    intro U V p v w hU hV hf
    obtain ⟨W, g, hW, hg, d0, d1, hb⟩ := boxB1 w (.string (mkB p)) (.string (mkB v)) 24
    obtain ⟨aU, c, rfl, -⟩ := hU.ex
    obtain ⟨a2, c2, rfl, -⟩ := hV.ex
    have hne : atW l (k + 1) ≠ [] := fun e => by
      have h1 := farW_pos hm (n := (p, v)) (by omega)
      rw [hf, atW_nil hm e] at h1; cases h1
    obtain ⟨hkl, hka⟩ := levsW_at hm hne
    obtain ⟨b2, off2, a', n', c', rfl, hc0, hx⟩ := hV.at k hkl
    rw [hka] at hx
    have hno := chainW_no hm hf
    have hyes := fun j h1 h2 h3 => chainW_yes hm (n := (p, v)) (k := k) (j := j) h1 h2 h3
    have hal := atW_len hm k
    have hnx := (hx.lenE).1
    obtain ⟨A, hA⟩ : ∃ A, atW l (k + 1) = A := ⟨_, rfl⟩
    rw [hA] at hx hno hyes hal hnx
    obtain ⟨n, hn⟩ : ∃ n, l.length = n := ⟨_, rfl⟩
    obtain ⟨nl, hnl⟩ : ∃ n, (levsW l).length = n := ⟨_, rfl⟩
    have hll : (levsW l).length ≤ 100000 := Nat.le_trans levsW_len hl
    have hdep : ((depIn (levsW l) (p, v) : Nat) : Int) = (k : Int) + 2 := by rw [depIn_far hm, hf]; omega
    have hkk : k ≤ 100000 := by omega
    have hn5 : n' ≤ 100000 := by omega
    obtain ⟨CH, hCH⟩ : ∃ r, chW l (k + 1 + 1) (p, v) = r := ⟨_, rfl⟩
    rw [hCH]
    have HCH := Lib.hid hCH
    clear hCH
    rw [hn] at hU hal ⊢
    rw [hnl] at hV hkl ⊢
    have hsub : IntKind.i64.wrap ((k : Int) + 2 - 2) = (k : Int) := by rw [IntKind.wrap_i64]; omega
    have hkb : (k : Int) < (nl : Int) := by omega
    have ST := Lib.hid hU; have SV := Lib.hid hV; have HDEP := Lib.hid hdep; have HLL := Lib.hid hll; have D0 := Lib.hid d0; have D1 := Lib.hid d1; have HBW := Lib.hid hb; have HW := Lib.hid hW; have HG := Lib.hid hg
    have HX := Lib.hid hx; have HNO := Lib.hid hno; have HYES := Lib.hid hyes; have IH := Lib.hid ih; have HAL := Lib.hid (show A.length ≤ 100000 by rw [hn] at hl; omega); have HNX := Lib.hid hnx
    have hc1 := cell_keep hc0 hb
    clear hU hV hdep hll d0 d1 hb hW hg hn hnl hf hx hno hyes hal hnx hA hne hka ih hkl hc0
    have en8 : ∀ (args : Array Value) (w : World), Sem.run Tryz.prog (callFunc 35 args) w = .ok (.enter 35 args) w := fun args w => enters_of Tryz.func35 (by kernel_rfl) rfl args w
    have en9 : ∀ (args : Array Value) (w : World), Sem.run Tryz.prog (callFunc 17 args) w = .ok (.enter 17 args) w := fun args w => enters_of Tryz.func17 (by kernel_rfl) rfl args w
    go_enter Tryz.func17, Tryz.ntmps17
    go_upto_region 1 with fail
    rw [HW.out, HG.out]
    have d0 := D0.out
    have d1 := D1.out
    go_upto_region 4 with (go_at_call 15; refine (refdepthW_any _ _ _ _ _ (SV.out.below HBW.out) HLL.out).mono ?_; rintro e w1 ⟨rfl, hb1⟩; rw [HDEP.out]; have HB1 := Lib.hid (below_step HBW.out hb1); replace d0 := cell_keep d0 hb1; replace d1 := cell_keep d1 hb1; replace hc1 := cell_keep hc1 hb1; clear hb1)
    go_wp2
    have D0W := Lib.hid d0; have D1W := Lib.hid d1
    clear d0 d1 hc1 hsub
    go_loopw [9] (fun i wr => ∃ j : Nat, j ≤ n' ∧ i = .int .i64 j ∧ Hid (∀ t, t < j → hasD l (A.getD t ([], [])) (p, v) = false) ∧ Hid (Below w1.heap.size w1 wr)) (fun i _ => n' - (intOf i).toNat)
    case atStart => exact ⟨0, Nat.zero_le _, rfl, Lib.hid (fun t ht => by omega), Lib.hid (Below.refl _ _)⟩
    case round =>
      obtain ⟨j, hj, rfl, HF, HBI⟩ := hrel
      by_cases hlt : j < n'
      · have hjl : j < A.length := by rw [HNX.out]; exact hlt
        have hbw : Below w.heap.size w wr := below_step HB1.out HBI.out
        obtain ⟨b, off, rfl, -, hz0, hz1⟩ := ((HX.out.below HB1.out).below HBI.out).at j hjl
        obtain ⟨T, hT⟩ : ∃ T, hasD l (A.getD j ([], [])) (p, v) = T := ⟨_, rfl⟩
        have hye := fun e : T = true => HYES.out j hjl (by rw [hT, e]) HF.out
        have hnt : T = false → ∀ t, t < j + 1 → hasD l (A.getD t ([], [])) (p, v) = false := fun e t ht => by
          by_cases x : t = j
          · rw [x, hT, e]
          · exact HF.out t (by omega)
        obtain ⟨z, hz⟩ : ∃ z, z = A.getD j ([], []) := ⟨_, rfl⟩
        rw [← hz] at hz0 hz1 hT hye
        obtain ⟨z1, z2⟩ := z
        simp only at hz0 hz1
        have HLT := Lib.hid hlt; have HT := Lib.hid hT; have HYE := Lib.hid hye; have HNT := Lib.hid hnt; have HBW2 := Lib.hid hbw; have HZ0 := Lib.hid hz0; have HZ1 := Lib.hid hz1
        have D0R := Lib.hid (cell_keep D0W.out HBI.out); have D1R := Lib.hid (cell_keep D1W.out HBI.out)
        have hjb : (j : Int) < (n' : Int) := by omega
        clear hz hT hye hnt hbw hz0 hz1
        go_upto_region 8 with fail
        refine rol_run (by kernel_rfl) [[], [], [], [1, 2], [1, 2, 3], [], [0, 1, 2, 3, 4, 5]] (by kernel_rfl) [28, 29, 30, 31, 32, 33, 34] [[], [], [], [1, 2], [3], [], [0, 4, 5]] [0, 0, 0, 0, 0, 0, 0] [0, 0, 0, 0, 0, 0, 0] [1000, 1000, 1000, 1000, 1000, 1000, 1000] [.val 28 (.slice aU n c), .val 29 (.slice (some ⟨b, off, none⟩) n' c'), .val 30 (.int .i64 (j : Int)), .val 31 (.pointer (some ⟨b, off + j * 2, none⟩)), .val 32 (.agg #[.string (mkB z1), .string (mkB z2)]), .val 33 (.agg #[.string (mkB p), .string (mkB v)]), .val 34 (.bool T)] (by kernel_rfl) ?_ (wr.heap.size) (wr.heap.size) rfl (Below.refl _ _) rfl (fun _ => 0) ?_ ?_ ?_
        · intro j hj
          have hj3 : j < 7 := hj
          have hj2 : j = 0 ∨ j = 1 ∨ j = 2 ∨ j = 3 ∨ j = 4 ∨ j = 5 ∨ j = 6 := by omega
          clear hj hj3
          rcases hj2 with rfl | rfl | rfl | rfl | rfl | rfl | rfl
          · exact trivial
          · exact trivial
          · exact trivial
          · exact trivial
          · exact trivial
          · exact trivial
          · exact trivial
        · intro j hj0 hj
          exact absurd hj (Nat.not_lt.2 hj0)
        · intro i hi a wx who hG hF
          have hz : a.tmps.size = 45 := hG.size
          have hi3 : i < 7 := hi
          have hi2 : i = 0 ∨ i = 1 ∨ i = 2 ∨ i = 3 ∨ i = 4 ∨ i = 5 ∨ i = 6 := by omega
          clear hi hi3
          rcases hi2 with rfl | rfl | rfl | rfl | rfl | rfl | rfl
          · exact rol_val rfl rfl rfl (by rw [hz]; decide) (ex_move (Or.inl rfl) (eval_slot ((hG.slots 0 (by decide)).trans rfl))) hG.below
          · exact rol_val rfl rfl rfl (by rw [hz]; decide) (ex_move (Or.inl rfl) (eval_slot ((hG.slots 8 (by decide)).trans rfl))) hG.below
          · exact rol_val rfl rfl rfl (by rw [hz]; decide) (ex_move (Or.inl rfl) (eval_slot ((hG.slots 9 (by decide)).trans rfl))) hG.below
          · exact rol_val rfl rfl rfl (by rw [hz]; decide) (ex_index rfl (eval_slot (hF 1 (by decide))) (eval_slot (hF 2 (by decide))) (idx_nds HLT.out)) hG.below
          · exact rol_val rfl rfl rfl (by rw [hz]; decide) (ex_load rfl (eval_slot (hF 3 (by decide))) (ld_node (cell_keep HZ0.out hG.below) (cell_keep HZ1.out hG.below))) hG.below
          · exact rol_val rfl rfl rfl (by rw [hz]; decide) (ex_load rfl (eval_slot ((hG.slots 5 (by decide)).trans rfl)) (ld_node (cell_keep D0R.out hG.below) (cell_keep D1R.out hG.below))) hG.below
          · refine rol_call rfl rfl rfl (by rw [hz]; decide) (ex_call rfl (by simp [eval_slot (hF 0 (by decide)), eval_slot (hF 4 (by decide)), eval_slot (hF 5 (by decide))]) en8) (refhasW_any _ _ z1 z2 p v wx ((ST.out.below HBW2.out).below hG.below)) ?_ hG.below hG.new
            rintro e w1 ⟨rfl, hd1⟩
            rw [HT.out]
            exact ⟨_, rfl, hd1, .inl rfl⟩
        · intro a wx who hG hF
          have fv34 : a.tmps.getD 34 undef = .bool T := eval_slot (s := 34) (hF 6 (of_decide_eq_true (by kernel_rfl)) (of_decide_eq_true (by kernel_rfl)))
          have hbx := hG.below
          have hnx := hG.new
          rw [hG.frame]
          simp only [List.foldl_cons, List.foldl_nil, List.setIfInBounds_toArray, List.set_cons_zero, List.set_cons_succ]
          generalize a.tmps.getD 28 undef = u28
          generalize a.tmps.getD 29 undef = u29
          generalize a.tmps.getD 30 undef = u30
          generalize a.tmps.getD 31 undef = u31
          generalize a.tmps.getD 32 undef = u32
          generalize a.tmps.getD 33 undef = u33
          rw [fv34]
          clear hF hG fv34
          replace HBI := Lib.hid (below_step HBI.out hbx)
          replace HBW2 := Lib.hid (below_step HBW2.out hbx)
          replace HZ0 := Lib.hid (cell_keep HZ0.out hbx); replace HZ1 := Lib.hid (cell_keep HZ1.out hbx); replace D0R := Lib.hid (cell_keep D0R.out hbx); replace D1R := Lib.hid (cell_keep D1R.out hbx)
          clear hbx hnx
          cases T
          · go_wp2
            go_roundw
            case rel => exact ⟨j + 1, by omega, by go_num, Lib.hid (HNT.out rfl), HBI⟩
            case measure => simp [intOf]; omega
          · obtain ⟨hch, hfz⟩ := HYE.out rfl
            have kc := fun w7 h7 h8 => IH.out (.slice aU n c) (.slice (some ⟨b2, off2, none⟩) nl c2) z1 z2 w7 h7 h8 hfz
            have HCL := Lib.hid (show (chW l (k + 1) (z1, z2)).length = k + 1 from by
              have h3 := (chain_facts hm (n := (z1, z2)) (by omega)).1
              rw [hfz] at h3; exact h3)
            obtain ⟨C, hC⟩ : ∃ C, chW l (k + 1) (z1, z2) = C := ⟨_, rfl⟩
            rw [hC] at kc HCL hch
            have HCE := Lib.hid (show CH = C ++ [(p, v)] by rw [← HCH.out]; exact hch)
            obtain ⟨W8, hW8⟩ : ∃ r, r = wx := ⟨_, rfl⟩
            subst hW8
            have KC := Lib.hid kc; have HK8 := Lib.hid (show k + 1 + 1 ≤ 2000000 by omega)
            clear hch hfz kc hC
            go_upto_region 9 with fail
            refine rol_run (by kernel_rfl) [[], [], [], [], [2, 3], [2, 3, 4], [0, 1, 2, 3, 4, 5], [], [7], [0, 1, 2, 3, 4, 5, 6, 7, 8], [0, 1, 2, 3, 4, 5, 6, 7, 8, 9]] (by kernel_rfl) [35, 36, 37, 38, 39, 40, 41, 42, 43, 44, 6] [[], [], [], [], [2, 3], [4], [0, 1, 5], [], [7], [6, 8], [9]] [0, 0, 0, 0, 0, 0, 1, 0, 4, 1, 1] [0, 0, 0, 0, 0, 0, 0, 0, 0, 1, 0] [1000, 1000, 1000, 1000, 1000, 1000, 9, 1000, 1000, 1000, 1000] [.val 35 (.slice aU n c), .val 36 (.slice (some ⟨b2, off2, none⟩) nl c2), .val 37 (.slice (some ⟨b, off, none⟩) n' c'), .val 38 (.int .i64 (j : Int)), .val 39 (.pointer (some ⟨b, off + j * 2, none⟩)), .val 40 (.agg #[.string (mkB z1), .string (mkB z2)]), .mem 41 (rowG W8.heap.size 24 2 (k + 1) (ndsC C)), .val 42 (.agg #[.string (mkB p), .string (mkB v)]), .mem 43 (blkG 24 #[.string (mkB p), .string (mkB v)] 1), .mem 44 (rowG W8.heap.size 24 2 (k + 1 + 1) (ndsC (C ++ [(p, v)]))), .mem 6 (rowG W8.heap.size 24 2 (k + 1 + 1) (ndsC (C ++ [(p, v)])))] (by kernel_rfl) ?_ (W8.heap.size) (W8.heap.size) rfl (Below.refl _ _) rfl (fun _ => 0) ?_ ?_ ?_
            · intro j hj
              have hj3 : j < 11 := hj
              have hj2 : j = 0 ∨ j = 1 ∨ j = 2 ∨ j = 3 ∨ j = 4 ∨ j = 5 ∨ j = 6 ∨ j = 7 ∨ j = 8 ∨ j = 9 ∨ j = 10 := by omega
              clear hj hj3
              rcases hj2 with rfl | rfl | rfl | rfl | rfl | rfl | rfl | rfl | rfl | rfl | rfl
              · exact trivial
              · exact trivial
              · exact trivial
              · exact trivial
              · exact trivial
              · exact trivial
              · exact rowG_near
              · exact trivial
              · exact blkG_near
              · exact rowG_near
              · exact rowG_near
            · intro j hj0 hj
              exact absurd hj (Nat.not_lt.2 hj0)
            · intro i hi a wx who hG hF
              have hz : a.tmps.size = 45 := hG.size
              have hi3 : i < 11 := hi
              have hi2 : i = 0 ∨ i = 1 ∨ i = 2 ∨ i = 3 ∨ i = 4 ∨ i = 5 ∨ i = 6 ∨ i = 7 ∨ i = 8 ∨ i = 9 ∨ i = 10 := by omega
              clear hi hi3
              rcases hi2 with rfl | rfl | rfl | rfl | rfl | rfl | rfl | rfl | rfl | rfl | rfl
              · exact rol_val rfl rfl rfl (by rw [hz]; decide) (ex_move (Or.inl rfl) (eval_slot ((hG.slots 0 (by decide)).trans rfl))) hG.below
              · exact rol_val rfl rfl rfl (by rw [hz]; decide) (ex_move (Or.inl rfl) (eval_slot ((hG.slots 1 (by decide)).trans rfl))) hG.below
              · exact rol_val rfl rfl rfl (by rw [hz]; decide) (ex_move (Or.inl rfl) (eval_slot ((hG.slots 8 (by decide)).trans rfl))) hG.below
              · exact rol_val rfl rfl rfl (by rw [hz]; decide) (ex_move (Or.inl rfl) (eval_slot ((hG.slots 9 (by decide)).trans rfl))) hG.below
              · exact rol_val rfl rfl rfl (by rw [hz]; decide) (ex_index rfl (eval_slot (hF 2 (by decide))) (eval_slot (hF 3 (by decide))) (idx_nds HLT.out)) hG.below
              · exact rol_val rfl rfl rfl (by rw [hz]; decide) (ex_load rfl (eval_slot (hF 4 (by decide))) (ld_node (cell_keep HZ0.out hG.below) (cell_keep HZ1.out hG.below))) hG.below
              · refine rol_calls rfl rfl rfl (by rw [hz]; decide) (ex_call rfl (by simp [eval_slot (hF 0 (by decide)), eval_slot (hF 1 (by decide)), eval_slot (hF 5 (by decide))]) en9) (KC.out wx ((ST.out.below HBW2.out).below hG.below) ((SV.out.below HBW2.out).below hG.below)) ?_ hG.below hG.new
                rintro e w1 ⟨u, rfl, hso, hb1⟩
                exact ⟨u, rfl, hb1, .inr (.inl ⟨_, u.ownBlock, rfl, fun b e => own_lt hso e, row_base hso hG.new, rfl⟩)⟩
              · exact rol_val rfl rfl rfl (by rw [hz]; decide) (ex_load rfl (eval_slot ((hG.slots 5 (by decide)).trans rfl)) (ld_node (cell_keep D0R.out hG.below) (cell_keep D1R.out hG.below))) hG.below
              · exact rol_newO rfl rfl rfl (by rw [hz]; decide) (x := .cells #[.string (mkB p), .string (mkB v)] 24) (v := .slice (some ⟨wx.heap.size, 0, none⟩) 1 1) (ex_slice rfl (vs := #[(0, .agg #[.string (mkB p), .string (mkB v)])]) (by simp only [List.map_toArray, List.map_cons, List.map_nil, eval_slot (hF 7 (by decide))]) (by go_simp)) ⟨_, rfl, rfl, heap_alloc_new _ _⟩ hG.below hG.new
              · obtain ⟨v9, ob, hv, hob, b, rfl, rfl, hh⟩ := hF 8 (by decide)
                obtain ⟨v3, ob3, hv3, hob3, hr3, rfl⟩ := hF 6 (by decide)
                exact rol_app_ndW rfl rfl rfl (by rw [hz]; decide) rfl ⟨v3, _, hv3, hob3, hr3, rfl⟩ (eval_slot hv3) (eval_slot hv) (blk_ndsW hh) (by have := HK8.out; omega) hG.below (Nat.le_refl _) hG.new rfl rfl
              · exact rol_move rfl rfl rfl (by rw [hz]; decide) (Or.inr rfl) (hF 9 (by decide)) hG.below
            · intro a wx who hG hF
              obtain ⟨v6, ob6, fv6, fo6, fp6⟩ := hF 10 (of_decide_eq_true (by kernel_rfl)) (of_decide_eq_true (by kernel_rfl))
              replace fv6 : a.tmps.getD 6 undef = v6 := eval_slot (s := 6) fv6
              have hbx := hG.below
              have hnx := hG.new
              rw [hG.frame]
              simp only [List.foldl_cons, List.foldl_nil, List.setIfInBounds_toArray, List.set_cons_zero, List.set_cons_succ]
              generalize a.tmps.getD 35 undef = u35
              generalize a.tmps.getD 36 undef = u36
              generalize a.tmps.getD 37 undef = u37
              generalize a.tmps.getD 38 undef = u38
              generalize a.tmps.getD 39 undef = u39
              generalize a.tmps.getD 40 undef = u40
              generalize a.tmps.getD 41 undef = u41
              generalize a.tmps.getD 42 undef = u42
              generalize a.tmps.getD 43 undef = u43
              generalize a.tmps.getD 44 undef = u44
              rw [fv6]
              clear hF hG fv6
              obtain ⟨hrow, -⟩ := fp6
              have HR := Lib.hid hrow; have HBF := Lib.hid (below_step HBW2.out hbx)
              clear hbx hnx hrow fo6
              go_wp2
              go_ret
              exact ⟨_, rfl, by rw [HCE.out]; exact row_base HR.out HBW2.out.size, HBF.out⟩
      · have e : j = n' := by omega
        subst e
        exact absurd (fun t ht => HF.out t (by rw [← HNX.out]; exact ht)) HNO.out
end Go.Proofs.YtdefphacdcbljaaGreat

namespace Go.Proofs.YtdefphacdcbljaaGreat
open Go.RowKit Go.ChangeShapes Go.WideShapes
set_option linter.unusedVariables false
set_option maxRecDepth 100000

section
variable {wr : World} {ops : Array Oper} {rest : List Oper} {o : Oper} {a : Act} {Q : Exit → Act → World → Prop}
/-- 'l = append(l, m...)', l the call's own. -/
theorem wpList_app_ndW (hgd : o.guard = none) (s x : Operand) (ho : o.op = .call { callee := .builtin .append, args := #[s, x], argTypes := #[31, 31] })
    (base : Nat) (V : Value) (K : List Nd) (n : Nat) (hn : K.length = n) (hs : a.eval s = V) (hown : wr.ownsRow base 24 2 V n (ndsC K)) (A : Option Addr) (m c : Nat) (L : List Nd) (hx : a.eval x = .slice A m c) (hN : Nds wr (.slice A m c) L) (hlen : n + m ≤ 2000000) (hbase : base ≤ wr.heap.size)
    (h : ∀ a' c' w', w'.ownsRow base 24 2 (.slice a' (n + m) c') (n + m) (ndsC (K ++ L)) → wr.grownBy w' V.ownBlock → wpList Tryz.prog ops Q rest (a.put o.dst (.slice a' (n + m) c')) w') :
    wpList Tryz.prog ops Q (o :: rest) a wr := by
  refine wpList_plain hgd fun K' hK' => ?_
  obtain ⟨v', w', hr, h2, h3, -⟩ := run_app_ndW hown hN hlen hbase o.type
  have hm : m = L.length := hN.lenE.1.symm
  have ho2 : w'.ownsRow base 24 2 v' (K ++ L).length (ndsC (K ++ L)) := by rw [List.length_append, hn, ← hm]; exact h2
  obtain ⟨a', c', hv, _⟩ := ndsO ho2
  rw [List.length_append, hn, ← hm] at hv
  subst hv
  have hk := h a' c' w' h2 h3
  unfold Oper.wp
  simp [execOp, ho, resolve, invoke, builtin, hs, hx, hr, Result.andThen]
  exact hK' _ _ hk
end
def dpT (l : List Ne) (s : List Nd) : List Dp := s.map fun n => (n, (farW l n : Int))
theorem dpT_len (l : List Ne) (s : List Nd) : (dpT l s).length = s.length := by unfold dpT; rw [List.length_map]
theorem dpT_snoc (l : List Ne) (s : List Nd) (n : Nd) : dpT l (s ++ [n]) = dpT l s ++ [(n, (farW l n : Int))] := by unfold dpT; rw [List.map_append]; rfl
theorem dpT_all (l : List Ne) : dpT l (allW l) = depW l := rfl
theorem farW_to {l : List Ne} (h : mayK l = true) {n : Nd} (hp : 0 < farW l n) : ∃ d ∈ l, d.2 = n := by
  obtain ⟨k, hk⟩ : ∃ k, farW l n = k + 1 := ⟨farW l n - 1, by omega⟩
  have := farW_pos h hp
  rw [hk] at this
  obtain ⟨d, hd, e⟩ := List.mem_map.1 (atW_to h this)
  exact ⟨d, hd, e⟩
theorem levsW_small {l : List Ne} (h : mayK l = true) (hs : ∀ d ∈ l, smallNe d) : ∀ n ∈ (levsW l).flatten, smallN n := fun n hn => by
  obtain ⟨d, hd, rfl⟩ := farW_to h ((levsW_mem h n).1 hn)
  exact (hs d hd).2
theorem metW_flat {l : List Ne} (h : mayK l = true) : ∀ k, ((List.range k).map fun j => atW l (j + 1)).flatten = metW l k
  | 0 => rfl
  | k + 1 => by rw [List.range_succ, List.map_append, List.flatten_append, metW_flat h k, metW_succ]; simp
theorem flatW_len {l : List Ne} (h : mayK l = true) (j : Nat) : ((levsW l).take j).flatten.length ≤ l.length := by
  obtain ⟨N, hN, h1, -, -⟩ := levsW_is h
  have hs : (levsW l).flatten = ((levsW l).take j).flatten ++ ((levsW l).drop j).flatten := by rw [← List.flatten_append, List.take_append_drop]
  refine Nat.le_trans (m := (levsW l).flatten.length) (by rw [hs, List.length_append]; omega) ?_
  rw [h1, metW_flat h]
  exact metW_le h N
set_option maxHeartbeats 6400000 in
theorem refdepthsW_any (V : Value) (l : List Ne) (w : World) (h : Nes w V l) (hm : mayK l = true) (hs : ∀ d ∈ l, smallNe d) (hl : l.length ≤ 100000) :
    Calls Tryz.prog 12 #[V] w fun e w' => ∃ v, e = .returned v ∧ w'.ownsRow w.heap.size 46 3 v (depW l).length (dpC (depW l)) ∧ Below w.heap.size w w' := by
  obtain ⟨aU, c, rfl, -⟩ := h.ex
  obtain ⟨n, hn⟩ : ∃ n, l.length = n := ⟨_, rfl⟩
  have kl := fun w h => reflevelsW_any (.slice aU n c) l w h hm hs hl
  have hll : (levsW l).length ≤ n := by rw [← hn]; exact levsW_len
  have hfl := fun j => flatW_len hm (l := l) j
  have hft := fun j h => flatW_take (ls := levsW l) (k := j) h
  have hset := levsW_set hm
  have hsm := levsW_small hm hs
  have hok := levsW_ok hm
  have hdp := fun n => depIn_far hm n
  have hal := allW_len hm
  rw [hn] at h ⊢ hl hfl hal
  obtain ⟨L, hL⟩ : ∃ r, levsW l = r := ⟨_, rfl⟩
  rw [hL] at kl hll hfl hft hset hsm hok hdp
  obtain ⟨nl, hnl⟩ : ∃ r, L.length = r := ⟨_, rfl⟩
  rw [hnl] at hll hft
  obtain ⟨S, hS⟩ : ∃ r, allW l = r := ⟨_, rfl⟩
  rw [hS] at hset hal
  have hdw : depW l = dpT l S := by rw [← hS]; rfl
  rw [hdw, dpT_len]
  obtain ⟨q, hq⟩ : ∃ r, S.length = r := ⟨_, rfl⟩
  rw [hq] at hal ⊢
  obtain ⟨N0, hN0⟩ : ∃ r, w.heap.size = r := ⟨_, rfl⟩
  have ST := Lib.hid h; have KL := Lib.hid kl; have HFL := Lib.hid hfl; have HFT := Lib.hid hft; have HSET := Lib.hid hset; have HSM := Lib.hid hsm; have HOK := Lib.hid hok; have HDP := Lib.hid hdp; have HNL := Lib.hid hnl; have HQ := Lib.hid hq; have HLL := Lib.hid (show L.length ≤ 100000 by omega)
  clear h kl hfl hft hset hsm hok hdp hnl hq hL hS hdw hm hs hn hN0
  have en : ∀ (args : Array Value) (w : World), Sem.run Tryz.prog (callFunc 15 args) w = .ok (.enter 15 args) w := fun args w => enters_of Tryz.func15 (by kernel_rfl) rfl args w
  go_enter Tryz.func12, Tryz.ntmps12
  go_upto_region 2 with (go_at_call 14; refine (KL.out _ ST.out).mono ?_; rintro e w1 ⟨v1, rfl, hv1, hb1⟩; obtain ⟨a3, c3, e3, -⟩ := hv1.ex; subst e3; rw [HNL.out] at hv1; rw [HNL.out]; have SL := Lib.hid hv1; have HB1 := Lib.hid hb1; clear hv1 hb1)
  go_wp2
  go_loopw [4, 5] (fun v4 i wr => ∃ (j : Nat) (Z : Value), j ≤ nl ∧ Z = v4 ∧ i = .int .i64 j ∧ Hid (wr.ownsRow w1.heap.size 24 2 Z ((L.take j).flatten).length (ndsC ((L.take j).flatten))) ∧ Hid (Below w1.heap.size w1 wr)) (fun _ i _ => nl - (intOf i).toNat)
  case atStart => exact ⟨0, _, Nat.zero_le _, rfl, rfl, Lib.hid (World.ownsRow_nil _ _ _ _), Lib.hid (Below.refl _ _)⟩
  case round =>
    obtain ⟨j, Z, hj, rfl, rfl, HZ, HBI⟩ := hrel
    have hNw : w1.heap.size ≤ wr.heap.size := HBI.out.size
    by_cases hlt : j < nl
    · have hjl : j < L.length := by rw [HNL.out]; exact hlt
      obtain ⟨b, off, a', n', c', rfl, hc0, hx⟩ := (SL.out.below HBI.out).at j hjl
      have hft := HFT.out j hlt
      have hf1 := HFL.out j
      have hf2 := HFL.out (j + 1)
      have hnx := hx.lenE.1
      obtain ⟨X, hX⟩ : ∃ r, L.getD j [] = r := ⟨_, rfl⟩
      rw [hX] at hft hx hnx
      rw [hft, List.length_append, hnx] at hf2
      obtain ⟨F, hF⟩ : ∃ r, (L.take j).flatten = r := ⟨_, rfl⟩
      rw [hF] at hft hf1 hf2 HZ
      obtain ⟨f, hff⟩ : ∃ r, F.length = r := ⟨_, rfl⟩
      rw [hff] at hf1 hf2 HZ
      have HX := Lib.hid hx; have HFT1 := Lib.hid hft; have HFF := Lib.hid hff; have HNX := Lib.hid hnx
      have hjb : (j : Int) < (nl : Int) := by omega
      clear hx hft hff hnx hX hF
      go_wp2_with (at_builtin; refine wpList_app_ndW rfl _ _ rfl w1.heap.size _ F f HFF.out rfl HZ.out a' n' c' X rfl HX.out (by omega) hNw ?_; intro a9 c9 w9 ho9 hg9; have HO9 := Lib.hid ho9; have HB9 := Lib.hid (HBI.out.grown hg9 hNw fun b e => (own_lt HZ.out e).1); clear ho9 hg9)
      go_roundw
      case rel => exact ⟨j + 1, _, by omega, rfl, by go_num, Lib.hid (by rw [HFT1.out, List.length_append, HFF.out, HNX.out]; exact HO9.out), HB9⟩
      case measure => simp [intOf]; omega
    · have e : j = nl := by omega
      subst e
      have hf1 := HFL.out j
      have htk := List.take_of_length_le (i := j) (l := L) (by rw [HNL.out]; exact Nat.le_refl _)
      rw [htk] at HZ hf1
      have hset := HSET.out; have hsm := HSM.out; have hok := HOK.out
      obtain ⟨FL, hFL⟩ : ∃ r, L.flatten = r := ⟨_, rfl⟩
      rw [hFL] at HZ hf1 hset hsm hok
      obtain ⟨aF, cF, rfl, hF⟩ := ndsO HZ.out
      have HF1 := Lib.hid (show FL.length ≤ 1000000 by omega)
      obtain ⟨nf, hnf⟩ : ∃ r, FL.length = r := ⟨_, rfl⟩
      rw [hnf] at hF ⊢
      have HSF := Lib.hid hF; have HST := Lib.hid hset; have HSO := Lib.hid hsm; have HOO := Lib.hid hok
      clear htk hF hf1 HZ hFL hset hsm hok HSET HSM HOK HFL HFT hnf
      go_upto_region 8 with (go_at_call 30; refine (refnset_any _ _ _ HSF.out HSO.out HOO.out HF1.out).mono ?_; rintro e w3 ⟨aS, cS, rfl, hs3, hb3⟩; rw [HST.out, HQ.out] at hs3; rw [HST.out, HQ.out]; have SS := Lib.hid hs3; have HB3 := Lib.hid (below_step HB1.out (below_step HBI.out hb3)); have SL3 := Lib.hid ((SL.out.below HBI.out).below hb3); clear hs3 hb3)
      go_wp2
      go_loopw [6, 7] (fun v6 i wr => ∃ (u : Value) (k : Nat), u = v6 ∧ k ≤ q ∧ i = .int .i64 k ∧ Hid (wr.ownsRow w3.heap.size 46 3 u k (dpC (dpT l (S.take k)))) ∧ Hid (Below w3.heap.size w3 wr)) (fun _ i _ => q - (intOf i).toNat)
      case atStart => exact ⟨_, 0, rfl, Nat.zero_le _, rfl, Lib.hid (World.ownsRow_nil _ _ _ _), Lib.hid (Below.refl _ _)⟩
      case round =>
        obtain ⟨u9, k, rfl, hk, rfl, HO, HB⟩ := hrel
        by_cases hltk : k < q
        · have hkl : k < S.length := by rw [HQ.out]; exact hltk
          obtain ⟨b, off, rfl, -, hz0, hz1⟩ := SS.out.at k hkl
          have htk := ndW_take hkl
          obtain ⟨z, hz⟩ : ∃ z, z = S.getD k ([], []) := ⟨_, rfl⟩
          rw [← hz] at hz0 hz1 htk
          obtain ⟨z1, z2⟩ := z
          simp only at hz0 hz1
          obtain ⟨fz, hfz⟩ : ∃ r, farW l (z1, z2) = r := ⟨_, rfl⟩
          have hdz := HDP.out (z1, z2)
          rw [hfz] at hdz
          have hDT : dpT l (S.take (k + 1)) = dpT l (S.take k) ++ [((z1, z2), (fz : Int))] := by rw [htk, dpT_snoc, hfz]
          obtain ⟨D, hD⟩ : ∃ r, dpT l (S.take k) = r := ⟨_, rfl⟩
          rw [hD] at hDT HO
          have HDT := Lib.hid hDT; have HDZ := Lib.hid hdz; have HLT := Lib.hid hltk; have HZ0 := Lib.hid hz0; have HZ1 := Lib.hid hz1; have HOWN := Lib.hid HO.out; have HBS := Lib.hid HB.out.size; have HKK := Lib.hid (show k ≤ 100000 by omega)
          have hkb : (k : Int) < (q : Int) := by omega
          clear hz hfz hdz hDT hD htk hz0 hz1 HO
          go_upto_region 12 with fail
          refine rol_run (by kernel_rfl) [[], [], [], [1, 2], [1, 2, 3], [], [], [], [6, 7], [6, 7, 8], [5, 6, 7, 8, 9], [1, 2, 3, 4, 5, 6, 7, 8, 9, 10], [1, 2, 3, 4, 5, 6, 7, 8, 9, 10, 11], [0, 1, 2, 3, 4, 5, 6, 7, 8, 9, 10, 11, 12], [0, 1, 2, 3, 4, 5, 6, 7, 8, 9, 10, 11, 12, 13]] (by kernel_rfl) [30, 31, 32, 33, 34, 35, 36, 37, 38, 39, 40, 41, 42, 43, 6] [[16], [], [], [1, 2], [3], [], [], [], [6, 7], [8], [5, 9], [4, 10], [11], [0, 12, 15], [13]] [0, 0, 0, 0, 0, 0, 0, 0, 0, 0, 0, 0, 5, 1, 1, 1, 0] [0, 0, 0, 0, 0, 0, 0, 0, 0, 0, 0, 0, 0, 1, 0] [1000, 1000, 1000, 1000, 1000, 1000, 1000, 1000, 1000, 1000, 1000, 1000, 1000, 1000, 1000, 13, 14] [.val 30 (u9), .val 31 (.slice (some ⟨b, off, none⟩) q cS), .val 32 (.int .i64 (k : Int)), .val 33 (.pointer (some ⟨b, off + k * 2, none⟩)), .val 34 (.agg #[.string (mkB z1), .string (mkB z2)]), .val 35 (.slice a3 j c3), .val 36 (.slice (some ⟨b, off, none⟩) q cS), .val 37 (.int .i64 (k : Int)), .val 38 (.pointer (some ⟨b, off + k * 2, none⟩)), .val 39 (.agg #[.string (mkB z1), .string (mkB z2)]), .val 40 (.int .i64 (fz : Int)), .val 41 (.agg #[.string (mkB z1), .string (mkB z2), .int .i64 (fz : Int)]), .mem 42 (blkG 46 #[.string (mkB z1), .string (mkB z2), .int .i64 (fz : Int)] 1), .mem 43 (rowG w3.heap.size 46 3 (k + 1) (dpC (D ++ [((z1, z2), (fz : Int))]))), .mem 6 (rowG w3.heap.size 46 3 (k + 1) (dpC (D ++ [((z1, z2), (fz : Int))]))), .mem 6 (rowX u9 (w3.heap.size) 46 3 k (dpC D)), .val 6 (u9)] (by kernel_rfl) ?_ (w3.heap.size) (wr.heap.size) rfl HB.out rfl (fun k => if Value.ownBlock u9 = some k then 1 else 0) ?_ ?_ ?_
          · intro j hj
            have hj3 : j < 17 := hj
            have hj2 : j = 0 ∨ j = 1 ∨ j = 2 ∨ j = 3 ∨ j = 4 ∨ j = 5 ∨ j = 6 ∨ j = 7 ∨ j = 8 ∨ j = 9 ∨ j = 10 ∨ j = 11 ∨ j = 12 ∨ j = 13 ∨ j = 14 ∨ j = 15 ∨ j = 16 := by omega
            clear hj hj3
            rcases hj2 with rfl | rfl | rfl | rfl | rfl | rfl | rfl | rfl | rfl | rfl | rfl | rfl | rfl | rfl | rfl | rfl | rfl
            · exact trivial
            · exact trivial
            · exact trivial
            · exact trivial
            · exact trivial
            · exact trivial
            · exact trivial
            · exact trivial
            · exact trivial
            · exact trivial
            · exact trivial
            · exact trivial
            · exact blkG_near
            · exact rowG_near
            · exact rowG_near
            · exact rowX_near
            · exact trivial
          · intro j hj0 hj
            have hj1 : 15 ≤ j := hj0
            have hj3 : j < 17 := hj
            have hj2 : j = 15 ∨ j = 16 := by omega
            clear hj0 hj hj1 hj3
            rcases hj2 with rfl | rfl
            · exact ⟨_, _, rfl, fun b e => ⟨(own_lt HOWN.out e).2, if_pos e⟩, HOWN.out, rfl⟩
            · exact rfl
          · intro i hi a wx who hG hF
            have hz : a.tmps.size = 45 := hG.size
            have hi3 : i < 15 := hi
            have hi2 : i = 0 ∨ i = 1 ∨ i = 2 ∨ i = 3 ∨ i = 4 ∨ i = 5 ∨ i = 6 ∨ i = 7 ∨ i = 8 ∨ i = 9 ∨ i = 10 ∨ i = 11 ∨ i = 12 ∨ i = 13 ∨ i = 14 := by omega
            clear hi hi3
            rcases hi2 with rfl | rfl | rfl | rfl | rfl | rfl | rfl | rfl | rfl | rfl | rfl | rfl | rfl | rfl | rfl
            · exact rol_val rfl rfl rfl (by rw [hz]; decide) (ex_move (Or.inl rfl) (eval_slot (hF 16 (by decide)))) hG.below
            · exact rol_val rfl rfl rfl (by rw [hz]; decide) (ex_move (Or.inl rfl) (eval_slot ((hG.slots 4 (by decide)).trans rfl))) hG.below
            · exact rol_val rfl rfl rfl (by rw [hz]; decide) (ex_move (Or.inl rfl) (eval_slot ((hG.slots 7 (by decide)).trans rfl))) hG.below
            · exact rol_val rfl rfl rfl (by rw [hz]; decide) (ex_index rfl (eval_slot (hF 1 (by decide))) (eval_slot (hF 2 (by decide))) (idx_nds HLT.out)) hG.below
            · exact rol_val rfl rfl rfl (by rw [hz]; decide) (ex_load rfl (eval_slot (hF 3 (by decide))) (ld_node (cell_keep HZ0.out hG.below) (cell_keep HZ1.out hG.below))) hG.below
            · exact rol_val rfl rfl rfl (by rw [hz]; decide) (ex_move (Or.inl rfl) (eval_slot ((hG.slots 3 (by decide)).trans rfl))) hG.below
            · exact rol_val rfl rfl rfl (by rw [hz]; decide) (ex_move (Or.inl rfl) (eval_slot ((hG.slots 4 (by decide)).trans rfl))) hG.below
            · exact rol_val rfl rfl rfl (by rw [hz]; decide) (ex_move (Or.inl rfl) (eval_slot ((hG.slots 7 (by decide)).trans rfl))) hG.below
            · exact rol_val rfl rfl rfl (by rw [hz]; decide) (ex_index rfl (eval_slot (hF 6 (by decide))) (eval_slot (hF 7 (by decide))) (idx_nds HLT.out)) hG.below
            · exact rol_val rfl rfl rfl (by rw [hz]; decide) (ex_load rfl (eval_slot (hF 8 (by decide))) (ld_node (cell_keep HZ0.out hG.below) (cell_keep HZ1.out hG.below))) hG.below
            · refine rol_call rfl rfl rfl (by rw [hz]; decide) (ex_call rfl (by simp [eval_slot (hF 5 (by decide)), eval_slot (hF 9 (by decide))]) en) (refdepthW_any _ _ z1 z2 wx (SL3.out.below hG.below) HLL.out) ?_ hG.below (Nat.le_trans HBS.out hG.new)
              rintro e w1 ⟨rfl, hd1⟩
              rw [HDZ.out]
              exact ⟨_, rfl, hd1, .inl rfl⟩
            · exact rol_val rfl rfl rfl (by rw [hz]; decide) (ex_build rfl (vs := #[(0, .agg #[.string (mkB z1), .string (mkB z2)]), (1, .int .i64 (fz : Int))]) (by simp only [List.map_toArray, List.map_cons, List.map_nil, eval_slot (hF 4 (by decide)), eval_slot (hF 10 (by decide))]) build_dp) hG.below
            · exact rol_newO rfl rfl rfl (by rw [hz]; decide) (x := .cells #[.string (mkB z1), .string (mkB z2), .int .i64 (fz : Int)] 46) (v := .slice (some ⟨wx.heap.size, 0, none⟩) 1 1) (ex_slice rfl (vs := #[(0, .agg #[.string (mkB z1), .string (mkB z2), .int .i64 (fz : Int)])]) (by simp only [List.map_toArray, List.map_cons, List.map_nil, eval_slot (hF 11 (by decide))]) (by go_simp)) ⟨_, rfl, rfl, heap_alloc_new _ _⟩ hG.below (Nat.le_trans HBS.out hG.new)
            · obtain ⟨v, ob, hv, hob, b, rfl, rfl, hh⟩ := hF 12 (by decide)
              exact rol_app_dp rfl rfl rfl (by rw [hz]; decide) rfl (hF 15 (by decide)) (eval_slot (hF 0 (by decide))) (eval_slot hv) (blkG.dps hh) (by have := HKK.out; omega) hG.below (Nat.le_refl _) (Nat.le_trans HBS.out hG.new) rfl rfl
            · exact rol_move rfl rfl rfl (by rw [hz]; decide) (Or.inr rfl) (hF 13 (by decide)) hG.below
          · intro a wx who hG hF
            obtain ⟨v6, ob6, fv6, fo6, fp6⟩ := hF 14 (of_decide_eq_true (by kernel_rfl)) (of_decide_eq_true (by kernel_rfl))
            replace fv6 : a.tmps.getD 6 undef = v6 := eval_slot (s := 6) fv6
            have hbx := hG.below
            have hnx := hG.new
            rw [hG.frame]
            simp only [List.foldl_cons, List.foldl_nil, List.setIfInBounds_toArray, List.set_cons_zero, List.set_cons_succ]
            generalize a.tmps.getD 30 undef = u30
            generalize a.tmps.getD 31 undef = u31
            generalize a.tmps.getD 32 undef = u32
            generalize a.tmps.getD 33 undef = u33
            generalize a.tmps.getD 34 undef = u34
            generalize a.tmps.getD 35 undef = u35
            generalize a.tmps.getD 36 undef = u36
            generalize a.tmps.getD 37 undef = u37
            generalize a.tmps.getD 38 undef = u38
            generalize a.tmps.getD 39 undef = u39
            generalize a.tmps.getD 40 undef = u40
            generalize a.tmps.getD 41 undef = u41
            generalize a.tmps.getD 42 undef = u42
            generalize a.tmps.getD 43 undef = u43
            rw [fv6]
            clear hF hG fv6
            obtain ⟨hrow, -⟩ := fp6
            have HRW := Lib.hid hrow; have HBN := Lib.hid hbx
            clear fo6 hrow hbx hnx
            go_wp2
            go_roundw
            case rel => exact ⟨_, k + 1, rfl, by omega, by go_num, Lib.hid (by rw [HDT.out]; exact HRW.out), HBN⟩
            case measure => simp [intOf]; omega
        · have e : k = q := by omega
          subst e
          have htk := List.take_of_length_le (i := k) (l := S) (by rw [HQ.out]; exact Nat.le_refl _)
          rw [htk] at HO
          go_wp2
          go_ret
          exact ⟨_, rfl, row_base HO.out HB3.out.size, below_step HB3.out HB.out⟩
end Go.Proofs.YtdefphacdcbljaaGreat
