/- THE TEXTS OF WhyH WhyY: Does a list come ahead of another one of its length, from the end on: the law's. Numbers of 8 bits that come in; whether the root is among those that need a node. -/
import Derived.Test.YtdefphacdcbljaaWhyK
namespace Go.Proofs.Ytdefphacdcbljaa
open Go.RowKit Go.ChangeShapes Go.WideShapes
set_option linter.unusedVariables false
set_option maxRecDepth 100000

set_option maxHeartbeats 3200000 in
theorem lower_any (U V : Value) (A B : List Nd) (w : World) (hU : Nds w U A) (hV : Nds w V B) (hl : A.length = B.length) (sa : ∀ n ∈ A, smallN n ∧ okN n = true) (sb : ∀ n ∈ B, smallN n ∧ okN n = true) (hn : A.length ≤ 100000) :
    Calls Try.prog 13 #[U, V] w fun e w' => e = .returned (.bool (lowerW A B)) ∧ Below w.heap.size w w' := by
  obtain ⟨aU, cU, rfl, -⟩ := hU.ex
  obtain ⟨aV, cV, rfl, -⟩ := hV.ex
  rw [← hl] at hV ⊢
  obtain ⟨n, hnn⟩ : ∃ n, A.length = n := ⟨_, rfl⟩
  have hself := fun e : A = B => show lowerW A B = false by rw [e]; exact lowerW_self B
  have hat := fun i h1 h2 h3 h4 => lowerW_at (a := A) (b := B) (i := i) h1 h2 h3 h4
  obtain ⟨R, hR⟩ : ∃ R, lowerW A B = R := ⟨_, rfl⟩
  rw [hR] at hself hat ⊢
  rw [hnn] at hU hV hn ⊢
  have hs0 : IntKind.i64.wrap ((n : Int) - 1) = (n : Int) - 1 := IntWalk.i64_in _ (by omega)
  have hst : A.drop n = B.drop n := by rw [List.drop_of_length_le (by omega), List.drop_of_length_le (by omega)]
  have SU := Lib.hid hU; have SV := Lib.hid hV; have HL := Lib.hid (show B.length = n by omega); have HN := Lib.hid hnn; have SA := Lib.hid sa; have SB := Lib.hid sb; have HSE := Lib.hid hself; have HAT := Lib.hid hat; have HST := Lib.hid hst
  clear hU hV hl hnn sa sb hself hat hR hst
  have en : ∀ (args : Array Value) (w : World), Sem.run Try.prog (callFunc 26 args) w = .ok (.enter 26 args) w := fun args w => enters_of Try.func26 (by kernel_rfl) rfl args w
  go_enter Try.func13, Try.ntmps13
  go_wp2
  go_loopw [5] (fun i wr => ∃ t : Nat, t ≤ n ∧ i = .int .i64 ((t : Int) - 1) ∧ Hid (A.drop t = B.drop t) ∧ Hid (Below w.heap.size w wr)) (fun i _ => (intOf i + 1).toNat)
  case atStart => exact ⟨n, Nat.le_refl _, rfl, HST, Lib.hid (Below.refl _ _)⟩
  case round =>
    obtain ⟨t, ht, rfl, HD, HB⟩ := hrel
    clear hs0 HST
    cases t with
    | succ j =>
      have e0 : ((j + 1 : Nat) : Int) - 1 = (j : Int) := by omega
      rw [e0]
      have hja : j < A.length := by rw [HN.out]; omega
      have hjb : j < B.length := by rw [HL.out]; omega
      obtain ⟨b1, o1, rfl, -, hc0, hc1⟩ := (SU.out.below HB.out).at j hja
      obtain ⟨b2, o2, rfl, -, hd0, hd1⟩ := (SV.out.below HB.out).at j hjb
      have hsx := SA.out _ (nd_mem hja)
      have hsy := SB.out _ (nd_mem hjb)
      have hr1 := fun h => HAT.out j hja hjb HD.out h
      have hr2 := fun h => dropW_next hja hjb HD.out h
      obtain ⟨x, hx⟩ : ∃ x, x = A.getD j ([], []) := ⟨_, rfl⟩
      obtain ⟨y, hy⟩ : ∃ y, y = B.getD j ([], []) := ⟨_, rfl⟩
      rw [← hx] at hc0 hc1 hsx hr1 hr2
      rw [← hy] at hd0 hd1 hsy hr1 hr2
      obtain ⟨x1, x2⟩ := x
      obtain ⟨y1, y2⟩ := y
      simp only at hc0 hc1 hd0 hd1
      have hgd := guard_nd
      have heq := neq_nd x1 x2 y1 y2
      obtain ⟨O, hO⟩ : ∃ O, decide ((x1, x2) = (y1, y2)) = O := ⟨_, rfl⟩
      rw [hO] at heq
      have HR1 := Lib.hid hr1; have HR2 := Lib.hid hr2; have HO := Lib.hid hO; have HSX := Lib.hid hsx; have HSY := Lib.hid hsy; have HE0 := Lib.hid e0; have HLT := Lib.hid (show j < n by omega)
      have hge : (0 : Int) ≤ (j : Int) := by omega
      have hjn : (j : Int) < (n : Int) := by omega
      have hwj : IntKind.i64.wrap ((j : Int) - 1) = (j : Int) - 1 := IntWalk.i64_in _ (by omega)
      clear hx hy hr1 hr2 hO hsx hsy e0 hja hjb
      cases O
      · simp only [Bool.not_false] at heq
        have hz := HR1.out (of_decide_eq_false HO.out)
        obtain ⟨T, hT⟩ : ∃ T, ltN (x1, x2) (y1, y2) = T := ⟨_, rfl⟩
        rw [hT] at hz
        subst hz
        have HT := Lib.hid hT
        clear hT
        go_wp2_with fail
        go_quiet (fail)
        obtain ⟨W7, hW7⟩ : ∃ r, wr.drewN nq = r := ⟨_, rfl⟩
        have hbq : Below wr.heap.size wr W7 := by rw [← hW7]; exact below_q ⟨nq, rfl⟩
        rw [hW7]
        have HC0 := Lib.hid (cell_keep hc0 hbq); have HC1 := Lib.hid (cell_keep hc1 hbq); have HD0 := Lib.hid (cell_keep hd0 hbq); have HD1 := Lib.hid (cell_keep hd1 hbq)
        have HB7 := Lib.hid (below_step HB.out hbq)
        clear hc0 hc1 hd0 hd1 hbq hW7
        go_upto_region 5 with fail
        refine rol_run (by kernel_rfl) [[], [], [0, 1], [0, 1, 2], [], [], [4, 5], [4, 5, 6], [0, 1, 2, 3, 4, 5, 6, 7], [0, 1, 2, 3, 4, 5, 6, 7, 8]] (by kernel_rfl) [22, 23, 24, 25, 26, 27, 28, 29, 30, 4] [[], [], [0, 1], [2], [], [], [4, 5], [6], [3, 7], [8]] [0, 0, 0, 0, 0, 0, 0, 0, 0, 0] [0, 0, 0, 0, 0, 0, 0, 0, 0, 0] [1000, 1000, 1000, 1000, 1000, 1000, 1000, 1000, 1000, 1000] [.val 22 (.slice (some ⟨b1, o1, none⟩) n cU), .val 23 (.int .i64 (j : Int)), .val 24 (.pointer (some ⟨b1, o1 + j * 2, none⟩)), .val 25 (.agg #[.string (mkB x1), .string (mkB x2)]), .val 26 (.slice (some ⟨b2, o2, none⟩) n cV), .val 27 (.int .i64 (j : Int)), .val 28 (.pointer (some ⟨b2, o2 + j * 2, none⟩)), .val 29 (.agg #[.string (mkB y1), .string (mkB y2)]), .val 30 (.bool R), .val 4 (.bool R)] (by kernel_rfl) ?_ (W7.heap.size) (W7.heap.size) rfl (Below.refl _ _) rfl (fun _ => 0) ?_ ?_ ?_
        · intro j hj
          have hj3 : j < 10 := hj
          have hj2 : j = 0 ∨ j = 1 ∨ j = 2 ∨ j = 3 ∨ j = 4 ∨ j = 5 ∨ j = 6 ∨ j = 7 ∨ j = 8 ∨ j = 9 := by omega
          clear hj hj3
          rcases hj2 with rfl | rfl | rfl | rfl | rfl | rfl | rfl | rfl | rfl | rfl
          · exact trivial
          · exact trivial
          · exact trivial
          · exact trivial
          · exact trivial
          · exact trivial
          · exact trivial
          · exact trivial
          · exact trivial
          · exact trivial
        · intro j hj0 hj
          exact absurd hj (Nat.not_lt.2 hj0)
        · intro i hi a wx who hG hF
          have hz : a.tmps.size = 31 := hG.size
          have hi3 : i < 10 := hi
          have hi2 : i = 0 ∨ i = 1 ∨ i = 2 ∨ i = 3 ∨ i = 4 ∨ i = 5 ∨ i = 6 ∨ i = 7 ∨ i = 8 ∨ i = 9 := by omega
          clear hi hi3
          rcases hi2 with rfl | rfl | rfl | rfl | rfl | rfl | rfl | rfl | rfl | rfl
          · exact rol_val rfl rfl rfl (by rw [hz]; decide) (ex_move (Or.inl rfl) (eval_slot ((hG.slots 0 (by decide)).trans rfl))) hG.below
          · exact rol_val rfl rfl rfl (by rw [hz]; decide) (ex_move (Or.inl rfl) (eval_slot ((hG.slots 5 (by decide)).trans rfl))) hG.below
          · exact rol_val rfl rfl rfl (by rw [hz]; decide) (ex_index rfl (eval_slot (hF 0 (by decide))) (eval_slot (hF 1 (by decide))) (idx_nds HLT.out)) hG.below
          · exact rol_val rfl rfl rfl (by rw [hz]; decide) (ex_load rfl (eval_slot (hF 2 (by decide))) (ld_node (cell_keep HC0.out hG.below) (cell_keep HC1.out hG.below))) hG.below
          · exact rol_val rfl rfl rfl (by rw [hz]; decide) (ex_move (Or.inl rfl) (eval_slot ((hG.slots 1 (by decide)).trans rfl))) hG.below
          · exact rol_val rfl rfl rfl (by rw [hz]; decide) (ex_move (Or.inl rfl) (eval_slot ((hG.slots 5 (by decide)).trans rfl))) hG.below
          · exact rol_val rfl rfl rfl (by rw [hz]; decide) (ex_index rfl (eval_slot (hF 4 (by decide))) (eval_slot (hF 5 (by decide))) (idx_nds HLT.out)) hG.below
          · exact rol_val rfl rfl rfl (by rw [hz]; decide) (ex_load rfl (eval_slot (hF 6 (by decide))) (ld_node (cell_keep HD0.out hG.below) (cell_keep HD1.out hG.below))) hG.below
          · refine rol_call rfl rfl rfl (by rw [hz]; decide) (ex_call rfl (by simp [eval_slot (hF 3 (by decide)), eval_slot (hF 7 (by decide))]) en) (refless_any x1 x2 y1 y2 wx HSX.out.1.1 HSX.out.1.2 HSY.out.1.1 HSY.out.1.2 HSX.out.2 HSY.out.2) ?_ hG.below hG.new
            rintro e w1 ⟨rfl, hd1⟩
            rw [HT.out]
            exact ⟨_, rfl, hd1, .inl rfl⟩
          · exact rol_val rfl rfl rfl (by rw [hz]; decide) (ex_move (Or.inr rfl) (eval_slot (hF 8 (by decide)))) hG.below
        · intro a wx who hG hF
          have fv4 : a.tmps.getD 4 undef = .bool R := eval_slot (s := 4) (hF 9 (of_decide_eq_true (by kernel_rfl)) (of_decide_eq_true (by kernel_rfl)))
          have hbx := hG.below
          have hnx := hG.new
          rw [hG.frame]
          simp only [List.foldl_cons, List.foldl_nil, List.setIfInBounds_toArray, List.set_cons_zero, List.set_cons_succ]
          generalize a.tmps.getD 22 undef = u22
          generalize a.tmps.getD 23 undef = u23
          generalize a.tmps.getD 24 undef = u24
          generalize a.tmps.getD 25 undef = u25
          generalize a.tmps.getD 26 undef = u26
          generalize a.tmps.getD 27 undef = u27
          generalize a.tmps.getD 28 undef = u28
          generalize a.tmps.getD 29 undef = u29
          generalize a.tmps.getD 30 undef = u30
          rw [fv4]
          clear hF hG fv4
          have HB8 := Lib.hid (below_step HB7.out hbx)
          clear hbx hnx
          go_wp2
          go_ret
          exact ⟨rfl, HB8.out⟩
      · simp only [Bool.not_true] at heq
        have HZ := Lib.hid (HR2.out (of_decide_eq_true HO.out))
        go_wp2_with fail
        go_quiet (fail)
        go_wp2
        go_roundw
        case rel => exact ⟨j, by omega, rfl, HZ, Lib.hid (below_step HB.out (below_q ⟨nq, rfl⟩))⟩
        case measure => simp [intOf]
    | zero =>
      have e0 : ((0 : Nat) : Int) - 1 = -1 := rfl
      rw [e0]
      have hz := HSE.out (by have h3 := HD.out; rwa [List.drop_zero, List.drop_zero] at h3)
      subst hz
      go_wp2
      go_ret
      exact ⟨rfl, HB.out⟩
end Go.Proofs.Ytdefphacdcbljaa

namespace Go.Proofs.Ytdefphacdcbljaa
open Go.RowKit
set_option linter.unusedVariables false
set_option maxRecDepth 100000

def fitU8 (z : Int) : Prop := 0 ≤ z ∧ z ≤ 255
structure U8s (w : World) (v : Value) (zs : List Int) : Prop where
  ex : ∃ a c, v = .slice a zs.length c ∧ zs.length ≤ c ∧ c ≤ maxLen ∧ (0 < zs.length → ∃ b off, a = some ⟨b, off, none⟩ ∧ b < w.heap.size ∧ ∀ j, j < zs.length → w.cell? ⟨b, off + j, none⟩ = some (.int .u8 (zs.getD j 0)))
theorem U8s.below {w w' : World} {v : Value} {zs : List Int} (h : U8s w v zs) (hb : Below w.heap.size w w') : U8s w' v zs := by
  obtain ⟨a, c, hv, h1, h2, h3⟩ := h.ex
  refine ⟨a, c, hv, h1, h2, fun hp => ?_⟩
  obtain ⟨b, off, ha, hlt, hc⟩ := h3 hp
  exact ⟨b, off, ha, Nat.lt_of_lt_of_le hlt hb.size, fun j hj => by rw [hb.cell (by exact hlt)]; exact hc j hj⟩
theorem U8s.at {w : World} {a : Option Addr} {n c : Nat} {zs : List Int} (h : U8s w (.slice a n c) zs) (k : Nat) (hk : k < zs.length) : ∃ b off, a = some ⟨b, off, none⟩ ∧ b < w.heap.size ∧ ∀ j, j < zs.length → w.cell? ⟨b, off + j, none⟩ = some (.int .u8 (zs.getD j 0)) := by
  obtain ⟨a', c', hv, _, _, h3⟩ := h.ex
  injection hv with e1 e2 e3
  subst e1
  exact h3 (by omega)
section
open Go.ChangeShapes Go.WideShapes
variable {H : Type} {enc : TypeId × Value → H} {w : World} {base : Nat} {spare : Nat → Bool} {held : Bool}
theorem u8s_open {fuel : Nat} {a : Option Addr} {len cap : Nat} {x : DataW H × List MemPlace} (h : DataW.trod enc Try.prog w base spare held fuel 37 [.slice a len cap] = some x) :
    ∃ l, U8s w (.slice a len cap) l ∧ ∀ e ∈ l, fitU8 e := by
  rcases open_ints Try.underlying37 Try.underlying5 (by kernel_rfl) h with ⟨hcs, _⟩ | ⟨ad, l, c, zs, hcs, _, hl, hm, hz, _, hcell, hwf⟩
  · simp only [List.cons.injEq, Value.slice.injEq, and_true] at hcs
    obtain ⟨rfl, rfl, rfl⟩ := hcs
    exact ⟨[], ⟨none, 0, rfl, Nat.le_refl _, by unfold maxLen; omega, fun h => absurd h (by simp)⟩, fun e he => by cases he⟩
  · simp only [List.cons.injEq, Value.slice.injEq, and_true] at hcs
    obtain ⟨rfl, rfl, rfl⟩ := hcs
    have hlz : len ≤ zs.length := by rw [hz]; split <;> omega
    have e : (zs.take len).length = len := by rw [List.length_take]; omega
    refine ⟨zs.take len, ⟨some ad, cap, by rw [e], by rw [e]; exact hl, hm, fun hp => ?_⟩, fun z hz => ?_⟩
    · rw [e] at hp ⊢
      obtain ⟨b, off, spot⟩ := ad
      have h0 := hcell 0 (by omega)
      have hspot : spot = none := by simpa [Addr.add] using World.cell?_spot h0
      subst hspot
      refine ⟨b, off, rfl, ?_, fun j hj => ?_⟩
      · have := World.block_lt_of_cell? w _ h0
        simpa [Addr.add] using this
      · have h1 := hcell j (by omega)
        rw [addr_add] at h1
        rw [h1]
        congr 2
        simp only [List.getD_eq_getElem?_getD, List.getElem?_take, if_pos hj]
    · have h1 := hwf z (List.mem_of_mem_take hz)
      have h2 : (decide (IntKind.u8.min ≤ z) && decide (z ≤ IntKind.u8.max)) = true := h1
      rw [Bool.and_eq_true, decide_eq_true_eq, decide_eq_true_eq] at h2
      exact h2
end
theorem rootW_take {l : List Ne} {k : Nat} (h : k < l.length) (n : Nd) : decide ((rootN, n) ∈ l.take (k + 1)) = (decide ((rootN, n) ∈ l.take k) || (decide ((l.getD k zNe).2 = n) && decide ((l.getD k zNe).1 = rootN))) := by
  rw [ne_take h, Bool.eq_iff_iff, Bool.or_eq_true, Bool.and_eq_true, decide_eq_true_eq, decide_eq_true_eq, decide_eq_true_eq, decide_eq_true_eq, List.mem_append, List.mem_singleton]
  constructor
  · rintro (a | a)
    · exact .inl a
    · rw [← a]; exact .inr ⟨rfl, rfl⟩
  · rintro (a | ⟨a, b⟩)
    · exact .inl a
    · exact .inr (by rw [← a, ← b])
end Go.Proofs.Ytdefphacdcbljaa
