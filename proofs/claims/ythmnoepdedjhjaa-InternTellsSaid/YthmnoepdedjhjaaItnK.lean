/- THE TEXTS OF ItnC ItnK: A node's number: of the program. Rows of the call's own that grow side by side, and a map beside them: laws at the operations. -/
import Derived.Test.YthmnoepdedjhjaaItnB
import Derived.Test.YthmnoepdedjhjaaNodY
namespace Go.Proofs.Ythmnoepdedjhjaa
open Go.RowKit Go.Maps
set_option maxRecDepth 100000

theorem look_imap {w : World} {b n : Nat} {L : List Nd} {p v : List UInt8} (h : IMap w b n L) (hf : fitsN (p, v)) {I : Nat} {O : Bool} (hi : (if hasN L (p, v) then laN L (p, v) else 0) = I) (ho : hasN L (p, v) = O) :
    Sem.run Try.prog (Instr.lookup 56 (.map (some b)) (.agg #[.string (mkB p), .string (mkB v)]) true) w = .ok (.tuple #[.int .i64 (I : Int), .bool O]) w := by
  obtain ⟨_, D, hown, _, hD⟩ := h
  obtain ⟨h1, h2⟩ := hD _ hf
  obtain ⟨u, ps, hr, hv⟩ := hown.look_ok node_keyed Try.underlying56 (Try.zeroValue3 w) (plainElem_int Try.underlying3 (by decide)) (key_n (p, v) hf.1 hf.2)
  obtain ⟨c, rfl, hc, _⟩ := plainElem_int_inv Try.underlying3 hv
  have hc1 : D.atKey (litN (p, v)) (.lit (.int .i64 0)) = .lit (.int .i64 c) := congrArg Prod.fst hc
  have he : c = (I : Int) := by
    cases O
    · rw [ho] at h1 hi
      rw [atKey_of_not_has h1] at hc1
      have : (0 : Int) = c := by simpa using hc1
      rw [← this, ← hi]; rfl
    · rw [ho] at hi
      rw [h2 ho] at hc1
      have : ((laN L (p, v) : Nat) : Int) = c := by simpa using hc1
      rw [← this, ← hi]; rfl
  subst he
  rw [h1, ho] at hr
  exact hr
theorem ldn_node {w : World} {g : Nat} {p v : List UInt8} (h : w.cell? ⟨g, 0, none⟩ = some (.string (mkB p))) (h' : w.cell? ⟨g, 1, none⟩ = some (.string (mkB v))) : Sem.run Try.prog (Instr.loadAt 26 (.pointer (some ⟨g, 0, none⟩))) w = .ok (.agg #[.string (mkB p), .string (mkB v)]) w := by
  go_simp
theorem nds_one (w : World) (p v : List UInt8) : Nds (w.alloc (.cells #[.string (mkB p), .string (mkB v)] 26)) (.slice (some ⟨w.heap.size, 0, none⟩) 1 1) [(p, v)] :=
  ⟨some ⟨w.heap.size, 0, none⟩, 1, rfl, Nat.le_refl _, by unfold maxLen; omega, (fun h => by cases h), fun _ => ⟨w.heap.size, 0, rfl, by simp, fun j hj => by
    have hj2 : j = 0 := by simp at hj; omega
    subst hj2
    exact ⟨cell_new rfl rfl, cell_new rfl rfl⟩⟩⟩
theorem one_small {p v : List UInt8} (h : smallN (p, v)) : ∀ n ∈ [(p, v)], smallN n := by
  intro n hn
  have : n = (p, v) := by simpa using hn
  rw [this]; exact h
/-- Two parameters' own cells, just laid; the world named. -/
theorem boxMN (w : World) (x : Value) (t : TypeId) (y z : Value) (u : TypeId) : ∃ W g g', (w.alloc (.cells #[x] t)).alloc (.cells #[y, z] u) = W ∧ w.heap.size = g ∧ w.heap.size + 1 = g' ∧ W.cell? ⟨g, 0, none⟩ = some x ∧ W.cell? ⟨g', 0, none⟩ = some y ∧ W.cell? ⟨g', 1, none⟩ = some z ∧ Below w.heap.size w W :=
  ⟨_, _, _, rfl, rfl, rfl, cell_alloc (cell_new rfl rfl) _, cell_new (by simp) rfl, cell_new (by simp) rfl, ((Below.refl _ _).alloc (Nat.le_refl _) _).alloc (by simp) _⟩

/-- A node's number, or why it has none. -/
def findM (l : List Nd) (n : Nd) : Nat × Int := if okM l && okN n then if hasN l n then (ixN l n, 0) else (0, 2) else (0, 1)
theorem findM_m {l : List Nd} (n : Nd) (h : okM l = false) : findM l n = (0, 1) := by unfold findM; rw [h]; rfl
theorem findM_n {l : List Nd} {n : Nd} (h : okN n = false) : findM l n = (0, 1) := by unfold findM; rw [h, Bool.and_false]; rfl
theorem findM_none {l : List Nd} {n : Nd} (h : okM l = true) (k : okN n = true) (o : hasN l n = false) : findM l n = (0, 2) := by unfold findM; rw [h, k, o]; rfl
theorem findM_yes {l : List Nd} {n : Nd} (h : okM l = true) (k : okN n = true) (o : hasN l n = true) : findM l n = (ixN l n, 0) := by unfold findM; rw [h, k, o]; rfl
theorem chkM_of {l : List Nd} {o : Bool} (h : okM l = o) : chkM l = if o then 0 else 1 := by unfold chkM; rw [h]

set_option maxHeartbeats 1600000 in
theorem ifind_any (V : Value) (L : List Nd) (p v : List UInt8) (w : World) (h : Nds w V L) (hs : ∀ n ∈ L, smallN n) (hn : smallN (p, v)) :
    Calls Try.prog 10 #[.agg #[V], .agg #[.string (mkB p), .string (mkB v)]] w fun e w' => e = .returned (.tuple #[.int .i64 ((findM L (p, v)).1 : Int), .int .i64 (findM L (p, v)).2]) ∧ Below w.heap.size w w' := by
  obtain ⟨a, c, rfl, h1, h2, -, -⟩ := h.ex
  unfold maxLen at h2
  obtain ⟨n, hln⟩ : ∃ n, L.length = n := ⟨_, rfl⟩
  rw [hln] at h1 h ⊢
  obtain ⟨W, g, g', hW, hg, hg', d0, c0, c1, hb⟩ := boxMN w (.slice a n c) 24 (.string (mkB p)) (.string (mkB v)) 26
  have SL := Lib.hid (h.below hb); have SM := Lib.hid hs; have SF := Lib.hid (fits_small hs); have HN := Lib.hid hln; have HW := Lib.hid hW; have HG := Lib.hid hg; have HG' := Lib.hid hg'; have B := Lib.hid hb; have SN := Lib.hid hn
  have HFN := Lib.hid (fits_small (one_small hn) _ (List.mem_singleton.2 rfl))
  clear h hs hln hW hg hg' hb hn
  have e2 : ∀ args w, (callFunc 26 args).run Try.prog w = .ok (.enter 26 args) w := enters_of Try.func26 (by kernel_rfl) rfl
  have k1 := fun U w h => icheck_any U L w h SM.out
  have k2 := fun U w h => imay_any U [(p, v)] w h (one_small SN.out)
  obtain ⟨F1, F2, hF⟩ : ∃ F1 F2, findM L (p, v) = (F1, F2) := ⟨_, _, rfl⟩
  rw [hF]
  obtain ⟨om, hom⟩ : ∃ o, okM L = o := ⟨_, rfl⟩
  obtain ⟨on, hon⟩ : ∃ o, okN (p, v) = o := ⟨_, rfl⟩
  rw [chkM_of hom] at k1
  rw [show [(p, v)].all okN = on by rw [← hon]; simp] at k2
  cases om
  · rw [findM_m _ hom] at hF
    have HF := Lib.hid hF; clear hF hom hon k2
    simp only [Bool.false_eq_true, if_false] at k1
    go_enter Try.func10, Try.ntmps10
    go_upto_region 1 with fail
    rw [HW.out, HG'.out, HG.out]
    go_wp2_with (go_at_call 13; refine (k1 _ _ SL.out).mono ?_; rintro e w1 ⟨rfl, hb1⟩; replace B := Lib.hid (below_step B.out hb1); clear hb1 k1)
    go_ret2
    injection HF.out with e1 e2
    exact ⟨by rw [← e1, ← e2]; rfl, B.out⟩
  · simp only [if_true] at k1
    cases on
    · rw [findM_n hon] at hF
      have HF := Lib.hid hF; clear hF hom hon
      go_enter Try.func10, Try.ntmps10
      go_upto_region 1 with fail
      rw [HW.out, HG'.out, HG.out]
      go_wp2_with (first
        | (go_at_call 13; refine (k1 _ _ SL.out).mono ?_; rintro e w1 ⟨rfl, hb1⟩; replace B := Lib.hid (below_step B.out hb1); replace c0 := cell_keep c0 hb1; replace c1 := cell_keep c1 hb1; clear hb1 k1)
        | (go_at_call 25; refine (k2 _ _ (nds_one _ p v)).mono ?_; rintro e w2 ⟨rfl, hb2⟩; replace B := Lib.hid (below_step (B.out.alloc B.out.size _) hb2); clear hb2 k2))
      go_ret2
      injection HF.out with e1 e2
      exact ⟨by rw [← e1, ← e2]; rfl, B.out⟩
    · obtain ⟨O, hO⟩ : ∃ O, hasN L (p, v) = O := ⟨_, rfl⟩
      obtain ⟨I, hI⟩ : ∃ I, (if hasN L (p, v) then laN L (p, v) else 0) = I := ⟨_, rfl⟩
      have HO := Lib.hid hO; have HI := Lib.hid hI; have HF := Lib.hid hF; have HOM := Lib.hid hom; have HON := Lib.hid hon
      clear hO hI hF hom hon
      go_enter Try.func10, Try.ntmps10
      go_upto_region 1 with fail
      rw [HW.out, HG'.out, HG.out]
      go_upto_region 3 with (first
        | (go_at_call 13; refine (k1 _ _ SL.out).mono ?_; rintro e w1 ⟨rfl, hb1⟩; replace B := Lib.hid (below_step B.out hb1); replace SL := Lib.hid (SL.out.below hb1); replace d0 := cell_keep d0 hb1; replace c0 := cell_keep c0 hb1; replace c1 := cell_keep c1 hb1; clear hb1 k1)
        | (go_at_call 25; refine (k2 _ _ (nds_one _ p v)).mono ?_; rintro e W2 ⟨rfl, hb2⟩; replace B := Lib.hid (below_step (B.out.alloc B.out.size _) hb2); have hb3 := below_step ((Below.refl _ _).alloc (Nat.le_refl _) _) hb2; replace SL := Lib.hid (SL.out.below hb3); replace d0 := cell_keep d0 hb3; replace c0 := cell_keep c0 hb3; replace c1 := cell_keep c1 hb3; clear hb2 hb3 k2))
      refine rol_run (by kernel_rfl) [[], [0], [0, 1], [], [0, 1, 2, 3], [0, 1, 2, 3, 4], [0, 1, 2, 3, 4, 5], [0, 1, 2, 3, 4, 5], [0, 1, 2, 3, 4, 5, 6], [0, 1, 2, 3, 4, 5, 6, 7, 8]] (by kernel_rfl) [18, 19, 20, 21, 22, 17, 23, 24, 6, 7] [[], [0], [1], [], [2, 3], [4], [5], [5], [6], [7]] [0, 0, 1, 0, 0, 0, 0, 0, 0, 0] [0, 0, 1, 0, 0, 0, 0, 0, 0, 0] [1000, 1000, 1000, 1000, 1000, 1000, 1000, 1000, 1000, 1000] [.val 18 (.pointer (some ⟨g, 0, none⟩)), .val 19 (.slice a n c), .mem 20 (fun w v ob => ∃ b, v = .map (some b) ∧ ob = some b ∧ IMap w b n L), .val 21 (.agg #[.string (mkB p), .string (mkB v)]), .val 22 (.tuple #[.int .i64 (I : Int), .bool O]), .val 17 (.tuple #[.int .i64 (I : Int), .bool O]), .val 23 (.int .i64 (I : Int)), .val 24 (.bool O), .val 6 (.int .i64 (I : Int)), .val 7 (.bool O)] (by kernel_rfl) ?_ (W2.heap.size) (W2.heap.size) rfl (Below.refl _ _) rfl (fun _ => 0) ?_ ?_ ?_
      · intro j hj
        have hj3 : j < 10 := hj
        have hj2 : j = 0 ∨ j = 1 ∨ j = 2 ∨ j = 3 ∨ j = 4 ∨ j = 5 ∨ j = 6 ∨ j = 7 ∨ j = 8 ∨ j = 9 := by omega
        clear hj hj3
        rcases hj2 with rfl | rfl | rfl | rfl | rfl | rfl | rfl | rfl | rfl | rfl
        · exact trivial
        · exact trivial
        · exact imap_near
        · exact trivial
        · exact trivial
        · exact trivial
        · exact trivial
        · exact trivial
        · exact trivial
        · exact trivial
      · intro j hj0 hj
        exact absurd hj (Nat.not_lt.2 hj0)
      · intro i hi a wx who hG hF
        have hz : a.tmps.size = 28 := hG.size
        have hi3 : i < 10 := hi
        have hi2 : i = 0 ∨ i = 1 ∨ i = 2 ∨ i = 3 ∨ i = 4 ∨ i = 5 ∨ i = 6 ∨ i = 7 ∨ i = 8 ∨ i = 9 := by omega
        clear hi hi3
        rcases hi2 with rfl | rfl | rfl | rfl | rfl | rfl | rfl | rfl | rfl | rfl
        · exact rol_val rfl rfl rfl (by rw [hz]; decide) (ex_field rfl (eval_slot ((hG.slots 2 (by decide)).trans rfl)) (by go_simp)) hG.below
        · exact rol_val rfl rfl rfl (by rw [hz]; decide) (ex_load rfl (eval_slot (hF 0 (by decide))) (ldm_slice (cell_keep d0 hG.below))) hG.below
        · refine rol_call rfl rfl rfl (by rw [hz]; decide) (ex_call rfl (by simp [eval_slot (hF 1 (by decide))]) e2) (inumbers_any _ _ wx (SL.out.below hG.below) SF.out) ?_ hG.below hG.new
          rintro e w1 ⟨b, rfl, hm, hb, hb1⟩
          rw [HN.out] at hm
          exact ⟨_, rfl, hb1, .inr ⟨_, some b, rfl, fun _ e => by cases e; exact ⟨hb, hm.lt⟩, b, rfl, rfl, hm⟩⟩
        · exact rol_val rfl rfl rfl (by rw [hz]; decide) (ex_load rfl (eval_slot ((hG.slots 3 (by decide)).trans rfl)) (ldn_node (cell_keep c0 hG.below) (cell_keep c1 hG.below))) hG.below
        · obtain ⟨v, ob, hv, -, b, rfl, -, hm⟩ := hF 2 (by decide)
          exact rol_val rfl rfl rfl (by rw [hz]; decide) (ex_lookup rfl (eval_slot hv) (eval_slot (hF 3 (by decide))) (look_imap hm HFN.out HI.out HO.out)) hG.below
        · exact rol_val rfl rfl rfl (by rw [hz]; decide) (ex_move (Or.inl rfl) (eval_slot (hF 4 (by decide)))) hG.below
        · exact rol_val rfl rfl rfl (by rw [hz]; decide) (ex_extract rfl (eval_slot (hF 5 (by decide))) rfl) hG.below
        · exact rol_val rfl rfl rfl (by rw [hz]; decide) (ex_extract rfl (eval_slot (hF 5 (by decide))) rfl) hG.below
        · exact rol_val rfl rfl rfl (by rw [hz]; decide) (ex_move (Or.inr rfl) (eval_slot (hF 6 (by decide)))) hG.below
        · exact rol_val rfl rfl rfl (by rw [hz]; decide) (ex_move (Or.inr rfl) (eval_slot (hF 7 (by decide)))) hG.below
      · intro a wx who hG hF
        have fv6 : a.tmps.getD 6 undef = .int .i64 (I : Int) := eval_slot (s := 6) (hF 8 (of_decide_eq_true (by kernel_rfl)) (of_decide_eq_true (by kernel_rfl)))
        have fv7 : a.tmps.getD 7 undef = .bool O := eval_slot (s := 7) (hF 9 (of_decide_eq_true (by kernel_rfl)) (of_decide_eq_true (by kernel_rfl)))
        have hbx := hG.below
        have hnx := hG.new
        rw [hG.frame]
        simp only [List.foldl_cons, List.foldl_nil, List.setIfInBounds_toArray, List.set_cons_zero, List.set_cons_succ]
        generalize a.tmps.getD 18 undef = u18
        generalize a.tmps.getD 19 undef = u19
        generalize a.tmps.getD 20 undef = u20
        generalize a.tmps.getD 21 undef = u21
        generalize a.tmps.getD 22 undef = u22
        generalize a.tmps.getD 17 undef = u17
        generalize a.tmps.getD 23 undef = u23
        generalize a.tmps.getD 24 undef = u24
        rw [fv6]
        rw [fv7]
        clear hF hG fv6 fv7
        cases O
        · have hF := HF.out
          rw [findM_none HOM.out HON.out HO.out] at hF
          injection hF with e1 e2
          go_wp2
          go_ret2
          exact ⟨by rw [← e1, ← e2]; rfl, below_step B.out hbx⟩
        · have hF := HF.out
          rw [findM_yes HOM.out HON.out HO.out] at hF
          injection hF with e1 e2
          have e3 : I = F1 := by rw [← HI.out, if_pos HO.out, ← e1]; exact laN_ix (okM_iff.1 HOM.out).2 (hasN_iff.1 HO.out)
          go_wp2
          go_ret2
          exact ⟨by rw [← e3, ← e2]; rfl, below_step B.out hbx⟩
end Go.Proofs.Ythmnoepdedjhjaa

namespace Go.Proofs.Ythmnoepdedjhjaa
open Go.RowKit Go.Maps
set_option maxRecDepth 100000

/-! ### A row of numbers -/
theorem ints_belowB {w w' : World} {v : Value} {zs : List Int} (h : Ints w v zs) (hb : Below w.heap.size w w') : Ints w' v zs := by
  obtain ⟨a, c, hv, h1, h2, hn, h3⟩ := h.ex
  refine ⟨a, c, hv, h1, h2, hn, fun hp => ?_⟩
  obtain ⟨b, off, ha, hlt, hc⟩ := h3 hp
  exact ⟨b, off, ha, Nat.lt_of_lt_of_le hlt hb.size, fun j hj => by rw [hb.cell (by exact hlt)]; exact hc j hj⟩
def intC (l : List Nat) : List Value := l.map fun k : Nat => .int .i64 (k : Int)
theorem intC_snoc (l : List Nat) (k : Nat) : intC (l ++ [k]) = intC l ++ [.int .i64 (k : Int)] := by simp [intC]
theorem intC_len (l : List Nat) : (intC l).length = l.length := by simp [intC]
theorem Ints.ownedN {w : World} {base : Nat} {e : TypeId} {v : Value} {l : List Nat} (h : w.ownsRow base e 1 v l.length (intC l)) : Ints w v (l.map fun k : Nat => (k : Int)) := by
  have e1 : intC l = (l.map fun k : Nat => (k : Int)).map (Value.int .i64) := by unfold intC; rw [List.map_map]; rfl
  rw [e1] at h
  exact Ints.owned h (List.length_map _).symm
theorem intsO {w : World} {base : Nat} {e : TypeId} {v : Value} {l : List Nat} (h : w.ownsRow base e 1 v l.length (intC l)) : ∃ a c, v = .slice a l.length c ∧ Ints w (.slice a l.length c) (l.map fun k : Nat => (k : Int)) := by
  have hst := Ints.ownedN h
  obtain ⟨a, c, rfl, _⟩ := hst.ex
  rw [List.length_map] at hst ⊢
  exact ⟨a, c, rfl, hst⟩
theorem row_keptB {w w' : World} {base : Nat} {e : TypeId} {size : Nat} {v : Value} {n : Nat} {xs : List Value} {row : Option Nat} (h : w.ownsRow base e size v n xs) (hg : w.grownBy w' row) (hne : ∀ b, v.ownBlock = some b → row ≠ some b) : w'.ownsRow base e size v n xs := by
  obtain ⟨h1, h2⟩ := h
  refine ⟨h1, h2.imp id ?_⟩
  rintro ⟨g, cap, cur, rfl, hb, hh, h3⟩
  exact ⟨g, cap, cur, rfl, hb, (hg.block g (Array.getElem?_eq_some_iff.1 hh).1 (fun e => hne g rfl e.symm)).trans hh, h3⟩
theorem grown_cell {w w' : World} {row : Option Nat} (hg : w.grownBy w' row) {p : Addr} {v : Value} (h : w.cell? p = some v) (hne : row ≠ some p.block) : w'.cell? p = some v := by
  have hlt := World.block_lt_of_cell? w _ h
  have := hg.block p.block hlt hne.symm
  unfold World.cell? at h ⊢
  rw [this]; exact h
theorem own_lt {w : World} {base : Nat} {e : TypeId} {size : Nat} {v : Value} {n : Nat} {xs : List Value} (h : w.ownsRow base e size v n xs) {b : Nat} (hb : v.ownBlock = some b) : base ≤ b ∧ b < w.heap.size := h.lt b hb

theorem cells_newl (W : World) (xs : List Value) (t : TypeId) : ∀ (j : Nat) (u : Value), xs[j]? = some u → (W.alloc (.cells xs.toArray t)).cell? ((⟨W.heap.size, 0, none⟩ : Addr).add j) = some u := by
  intro j u hj
  rw [addr_add]
  have hh : (W.alloc (.cells xs.toArray t)).heap[W.heap.size]? = some (.cells xs.toArray t) := heap_alloc_new _ _
  unfold World.cell?
  rw [hh]
  simpa using hj

section
variable {wr : World} {ops : Array Oper} {rest : List Oper} {o : Oper} {a : Act} {Q : Exit → Act → World → Prop}
/-- 'l = append(l, n)' of nodes, l the call's own: n has just been laid in a block of its own. -/
theorem wpList_push_nd (hgd : o.guard = none) (s x : Operand) (ho : o.op = .call { callee := .builtin .append, args := #[s, x], argTypes := #[22, 22] })
    (base : Nat) (v : Value) (K : List Nd) (n : Nat) (hn : K.length = n) (hs : a.eval s = v) (hown : wr.ownsRow base 26 2 v n (ndsC K)) (p q : List UInt8) (N : Nat) (hN : wr.heap.size = N) (hx : a.eval x = .slice (some ⟨N, 0, none⟩) 1 1) (hlen : n ≤ 2000000) (hbase : base ≤ wr.heap.size)
    (h : ∀ a' c' w', w'.ownsRow base 26 2 (.slice a' (n + 1) c') (n + 1) (ndsC (K ++ [(p, q)])) → wr.grownBy w' v.ownBlock → ((Value.slice a' (n + 1) c').ownBlock = v.ownBlock ∨ (Value.slice a' (n + 1) c').ownBlock = some (wr.heap.size + 1)) → wpList Try.prog ops Q rest (a.put o.dst (.slice a' (n + 1) c')) w') :
    wpList Try.prog ops Q (o :: rest) a (wr.alloc (.cells #[.string (mkB p), .string (mkB q)] 26)) := by
  subst hN
  obtain ⟨i, hi, hz, hsize, hby⟩ := info_parts Try.info_node
  refine wpList_append_own_at (wr.alloc (.cells #[.string (mkB p), .string (mkB q)] 26)) hgd s x 22 ho base 26 i (.agg #[.string ByteArray.empty, .string ByteArray.empty]) 2 32 Try.underlying22 hi hz hsize hby rfl (by decide) v n _ hs (hown.alloc _) ⟨wr.heap.size, 0, none⟩ 1 1 [.string (mkB p), .string (mkB q)] hx rfl (cells_newl wr [.string (mkB p), .string (mkB q)] 26) (by intro u hu; simp at hu; rcases hu with rfl | rfl <;> rfl) (by unfold maxLen; omega) (by omega) (by simp; omega) ?_
  intro v' w' ho' hg _ hl
  have e2 : ndsC K ++ [.string (mkB p), .string (mkB q)] = ndsC (K ++ [(p, q)]) := (ndsC_snoc K (p, q)).symm
  rw [e2] at ho'
  have ho2 : w'.ownsRow base 26 2 v' (K ++ [(p, q)]).length (ndsC (K ++ [(p, q)])) := by rw [List.length_append, hn]; exact ho'
  obtain ⟨a', c', hv, _⟩ := ndsO ho2
  rw [List.length_append, hn, List.length_singleton] at hv
  subst hv
  refine h a' c' w' ho' ((World.grownBy_alloc wr _ _).trans hg) (hl.imp id fun e => ?_)
  rw [e]; simp
theorem wpList_push_int (hgd : o.guard = none) (s x : Operand) (ho : o.op = .call { callee := .builtin .append, args := #[s, x], argTypes := #[27, 27] })
    (base : Nat) (v : Value) (K : List Nat) (n : Nat) (hn : K.length = n) (hs : a.eval s = v) (hown : wr.ownsRow base 3 1 v n (intC K)) (k : Nat) (N : Nat) (hN : wr.heap.size = N) (hx : a.eval x = .slice (some ⟨N, 0, none⟩) 1 1) (hlen : n ≤ 2000000) (hbase : base ≤ wr.heap.size)
    (h : ∀ a' c' w', w'.ownsRow base 3 1 (.slice a' (n + 1) c') (n + 1) (intC (K ++ [k])) → wr.grownBy w' v.ownBlock → ((Value.slice a' (n + 1) c').ownBlock = v.ownBlock ∨ (Value.slice a' (n + 1) c').ownBlock = some (wr.heap.size + 1)) → wpList Try.prog ops Q rest (a.put o.dst (.slice a' (n + 1) c')) w') :
    wpList Try.prog ops Q (o :: rest) a (wr.alloc (.cells #[.int .i64 (k : Int)] 3)) := by
  subst hN
  obtain ⟨i, hi, hz, hsize, hby⟩ := info_parts Try.info_int
  refine wpList_append_own_at (wr.alloc (.cells #[.int .i64 (k : Int)] 3)) hgd s x 27 ho base 3 i (.int .i64 0) 1 8 Try.underlying27 hi hz hsize hby rfl (by decide) v n _ hs (hown.alloc _) ⟨wr.heap.size, 0, none⟩ 1 1 [.int .i64 (k : Int)] hx rfl (cells_newl wr [.int .i64 (k : Int)] 3) (by intro u hu; simp at hu; rcases hu with rfl; rfl) (by unfold maxLen; omega) (by omega) (by simp; omega) ?_
  intro v' w' ho' hg _ hl
  rw [← intC_snoc K k] at ho'
  have ho2 : w'.ownsRow base 3 1 v' (K ++ [k]).length (intC (K ++ [k])) := by rw [List.length_append, hn]; exact ho'
  obtain ⟨a', c', hv, _⟩ := intsO ho2
  rw [List.length_append, hn, List.length_singleton] at hv
  subst hv
  refine h a' c' w' ho' ((World.grownBy_alloc wr _ _).trans hg) (hl.imp id fun e => ?_)
  rw [e]; simp
/-- 'v, ok := m[n]'. -/
theorem wpList_look_imap (hgd : o.guard = none) (m x : Operand) (ho : o.op = .lookup 56 m x true) {b n : Nat} {L : List Nd} {p v : List UInt8} (hm : a.eval m = .map (some b)) (h : IMap wr b n L) (hx : a.eval x = .agg #[.string (mkB p), .string (mkB v)]) (hf : fitsN (p, v))
    {I : Nat} {O : Bool} (hi : (if hasN L (p, v) then laN L (p, v) else 0) = I) (hO : hasN L (p, v) = O) (hK : wpList Try.prog ops Q rest (a.put o.dst (.tuple #[.int .i64 (I : Int), .bool O])) wr) : wpList Try.prog ops Q (o :: rest) a wr := by
  refine wpList_plain hgd fun K' hK' => ?_
  have hr := look_imap h hf hi hO
  unfold Oper.wp
  simp [execOp, ho, hm, hx, hr, Result.andThen]
  exact hK' _ _ hK
/-- 'm[n] = k', k the number of what was told. -/
theorem wpList_put_imap (hgd : o.guard = none) (m x y : Operand) (ho : o.op = .mapUpdate 56 m x y) {b n : Nat} {L : List Nd} {p v : List UInt8} (hm : a.eval m = .map (some b)) (h : IMap wr b n L) (hx : a.eval x = .agg #[.string (mkB p), .string (mkB v)]) (hf : fitsN (p, v))
    (k : Nat) (hk : L.length = k) (hy : a.eval y = .int .i64 (k : Int)) (hn : n ≤ 2000000) (hk2 : k ≤ 2000000) (hK : ∀ w', IMap w' b (n + 1) (L ++ [(p, v)]) → wr.grownBy w' (some b) → wpList Try.prog ops Q rest (a.put o.dst undef) w') : wpList Try.prog ops Q (o :: rest) a wr := by
  subst hk
  obtain ⟨hfk, D, hown, hsz, hD⟩ := h
  refine wpList_mapUpdate_own _ hgd m x y 56 ho 26 3 node_keyed Try.underlying56 (plainElem Try.prog 3) b n D hm hown (by unfold maxLen; omega) _ _ (litN (p, v)) hx hy (key_n (p, v) hf.1 hf.2) (.lit (.int .i64 L.length)) [] (plainElem_int Try.underlying3 (WalkArith.wf_i64 (by omega))) ?_
  intro w1 hown1 hgrow1
  have hst := imap_step (hown.tidy node_keyed) hf hsz hD
  exact hK w1 ⟨fits_step hfk hf, _, hown1, hst.1, hst.2⟩ hgrow1
end

/-! ### Three results, the second one in a cell -/
section
variable {P : Program}
theorem results_tct {fn : Func} {p q r : Tmp} {ty : TypeId} (h : fn.results = #[.tmp p, .cell q ty, .tmp r]) (tmps : Array Value) (w : World) (g : Nat) (t : TypeId) (cs : Array Value) (fr : Nat × Nat) (d : TypeDesc)
    (hp : tmps.getD q undef = .pointer (some ⟨g, 0, none⟩)) (hg : w.heap[g]? = some (.cells cs t fr))
    (hu : P.underlying ty = some d) (hd : (match d with | .struct _ | .array _ _ => true | _ => false) = true) (hi : (P.info? ty).map (·.size) = some cs.size) :
    (results fn tmps).run P w = .ok (.tuple #[tmps.getD p undef, .agg cs, tmps.getD r undef]) w := by
  have hp' : tmps[q]?.getD undef = .pointer (some ⟨g, 0, none⟩) := by simpa using hp
  simp [results, h, hp', asAddr, run_loadVar_row w g t ty cs fr d hg hu hd hi]
theorem results_tc {fn : Func} {p q : Tmp} {ty : TypeId} (h : fn.results = #[.tmp p, .cell q ty]) (tmps : Array Value) (w : World) (g : Nat) (t : TypeId) (cs : Array Value) (fr : Nat × Nat) (d : TypeDesc)
    (hp : tmps.getD q undef = .pointer (some ⟨g, 0, none⟩)) (hg : w.heap[g]? = some (.cells cs t fr))
    (hu : P.underlying ty = some d) (hd : (match d with | .struct _ | .array _ _ => true | _ => false) = true) (hi : (P.info? ty).map (·.size) = some cs.size) :
    (results fn tmps).run P w = .ok (.tuple #[tmps.getD p undef, .agg cs]) w := by
  have hp' : tmps[q]?.getD undef = .pointer (some ⟨g, 0, none⟩) := by simpa using hp
  simp [results, h, hp', asAddr, run_loadVar_row w g t ty cs fr d hg hu hd hi]
end
theorem Try.size_names : (Try.prog.info? 24).map (·.size) = some 1 := by kernel_rfl
theorem row1 {w : World} {g : Nat} {x : Value} {t : TypeId} (h : w.heap[g]? = some (.cells #[x] t (0, 0))) : w.cell? ⟨g, 0, none⟩ = some x ∧ w.frozen? ⟨g, 0, none⟩ = false := by
  simp [World.cell?, World.frozen?, h]
theorem row1_set {w : World} {g : Nat} {x : Value} {t : TypeId} (h : w.heap[g]? = some (.cells #[x] t (0, 0))) (y : Value) : (w.setCell ⟨g, 0, none⟩ y).heap[g]? = some (.cells #[y] t (0, 0)) := by
  simp [World.setCell, Array.getElem?_modify, h]
theorem row_far1 {w : World} {base : Nat} {e : TypeId} {size : Nat} {v : Value} {n : Nat} {xs : List Value} (h : w.ownsRow base e size v n xs) {g i : Nat} (hg : g < base) (y : Value) : (w.setCell ⟨g, i, none⟩ y).ownsRow base e size v n xs := by
  obtain ⟨h1, h2⟩ := h
  refine ⟨h1, h2.imp id ?_⟩
  rintro ⟨k, cap, cur, rfl, hb, hh, h3⟩
  exact ⟨k, cap, cur, rfl, hb, (Below.heap_setCell w ⟨g, i, none⟩ y k (by simp only; omega)).trans hh, h3⟩
end Go.Proofs.Ythmnoepdedjhjaa
