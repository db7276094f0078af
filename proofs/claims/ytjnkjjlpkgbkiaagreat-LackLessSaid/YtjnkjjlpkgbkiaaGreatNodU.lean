/- A set with a node, of the program. -/
import Derived.Test.YtjnkjjlpkgbkiaaGreatNodT
import Derived.Test.YtjnkjjlpkgbkiaaGreatNodI
import Derived.Test.YtjnkjjlpkgbkiaaGreatNodW
import Derived.Test.YtjnkjjlpkgbkiaaGreatNodY
import Derived.Lib.SmallJoins
import Derived.Great.BuildSlice
import Derived.ArgAppend
namespace Go.Proofs.YtjnkjjlpkgbkiaaGreat
open Go.RowKit
set_option maxRecDepth 100000

def withNE (l : List Nd) (n : Nd) : List Nd × Int := if (checkN l && okN n) = true then (withN l n, 0) else ([], 1)
theorem withNE_yes {l : List Nd} {n : Nd} (h : checkN l = true) (k : okN n = true) : withNE l n = (withN l n, 0) := by unfold withNE; rw [h, k]; rfl
theorem withNE_no {l : List Nd} {n : Nd} (h : (checkN l && okN n) = false) : withNE l n = ([], 1) := by unfold withNE; rw [h]; rfl
theorem withN_cut {l : List Nd} {n : Nd} {i : Nat} (ol : ∀ x ∈ l, okN x = true) (hn : okN n = true) (hm : n ∉ l) (hi : i ≤ l.length) (h1 : ∀ t, t < i → ltN (l.getD t ([], [])) n = true) (h2 : ∀ t, i ≤ t → t < l.length → ltN (l.getD t ([], [])) n = false) : withN l n = l.take i ++ [n] ++ l.drop i := by
  have e0 : (l.filter fun x => ltN x n) = l.take i := cut_at hi h1 h2
  have e1 : (l.take i).filter (fun x => ltN n x) = [] := List.filter_eq_nil_iff.2 fun x hx => by
    obtain ⟨t, ht, rfl⟩ := List.getElem_of_mem hx
    rw [List.length_take] at ht
    have := h1 t (by omega)
    rw [nd_getD (by omega)] at this
    rw [List.getElem_take, ltN_asym this]; simp
  have e2 : (l.drop i).filter (fun x => ltN n x) = l.drop i := List.filter_eq_self.2 fun x hx => by
    obtain ⟨t, ht, rfl⟩ := List.getElem_of_mem hx
    rw [List.length_drop] at ht
    have := h2 (i + t) (by omega) (by omega)
    rw [nd_getD (by omega)] at this
    rw [List.getElem_drop]
    have hml : l[i + t] ∈ l := List.getElem_mem (by omega)
    rcases ltN_tri (ol _ hml) hn with k | k | k
    · rw [this] at k; cases k
    · rw [k] at hml; exact absurd hml hm
    · exact k
  have e3 : (l.filter fun x => ltN n x) = l.drop i := by
    conv => lhs; rw [← List.take_append_drop i l, List.filter_append, e1, e2, List.nil_append]
  unfold withN
  rw [e0, e3]; simp

/-- append behind a slice without room behind it: new memory. -/
theorem append_full (w : World) (ty : TypeId) (a : Option Addr) (n : Nat) (l : List Nd) (h : Nds w (.slice a n n) l) (ad : Addr) (m c : Nat) (L : List Nd) (hx : Nds w (.slice (some ad) m c) L) (hm : 0 < m) (hs : n + m ≤ 2000000) :
    ∃ v' w', (Builtin.append_ #[22, 22] ty #[.slice a n n, .slice (some ad) m c]).run Tryz.prog w = .ok v' w' ∧ w'.ownsRow w.heap.size 42 2 v' (n + m) (ndsC (l ++ L)) ∧ Below w.heap.size w w' := by
  obtain ⟨i, hi, hz, hsize, hby⟩ := info_parts Tryz.info_node
  have hl : l.length = n := by obtain ⟨_, _, hv, _⟩ := h.ex; injection hv with _ e _; exact e.symm
  have hL : L.length = m := by obtain ⟨_, _, hv, _⟩ := hx.ex; injection hv with _ e _; exact e.symm
  have hn0 : a = none → n = 0 := by obtain ⟨_, _, hv, h1, _, h3, _⟩ := h.ex; injection hv with e1 e2 e3; subst e1 e2; intro hn; have := h3 hn; omega
  have hk : ∀ {w' : World}, w.grownBy w' none → Below w.heap.size w w' := fun hg => (Below.refl w.heap.size w).grown hg (Nat.le_refl _) (fun k e => by cases e)
  rw [ndsC_app]
  cases a with
  | some b =>
    obtain ⟨v', w', hr, h1, h2⟩ := run_append_arg_grows (P := Tryz.prog) w 22 ty 42 i (.agg #[.string ByteArray.empty, .string ByteArray.empty]) 2 32 Tryz.underlying22 hi hz hsize hby rfl (by decide) b n n (ndsC l) (by rw [ndsC_len, hl]) h.cells ad m c (ndsC L) (by rw [ndsC_len, hL]) hx.cells (by omega) (by unfold maxLen; omega) (by omega)
    exact ⟨v', w', hr, h1, hk h2⟩
  | none =>
    obtain rfl := hn0 rfl
    have : l = [] := List.eq_nil_of_length_eq_zero hl
    subst this
    obtain ⟨v', w', hr, h1, h2, -⟩ := run_append_own (P := Tryz.prog) w w.heap.size 22 ty 42 i (.agg #[.string ByteArray.empty, .string ByteArray.empty]) 2 32 Tryz.underlying22 hi hz hsize hby rfl (by decide) (.slice none 0 0) 0 [] (World.ownsRow_nil w _ _ _) ad m c (ndsC L) (by rw [ndsC_len, hL]) hx.cells (fun u hu => List.all_eq_true.1 (ndsC_one L) u hu) (by unfold maxLen; omega) (by omega) (Nat.le_refl _)
    exact ⟨v', w', hr, h1, hk h2⟩
section
variable {ops : Array Oper} {Q : Exit → Act → World → Prop} {K : Act → World → Prop} {a : Act} {w : World} {i : Nat} {o : Oper}
theorem lane_value (ho : ops[i]? = some o) (hg : o.guard = none) {v : Value} {w' : World} (hr : Sem.run Tryz.prog (execOp a.eval o) w = .ok (.value v) w') (h : K (a.put o.dst v) w') : wpOp Tryz.prog ops Q i K a w := by
  refine lane_wp ho hg ?_
  unfold Oper.wp
  rw [hr, Oper.upon_value]
  exact h
theorem lane_append (ho : ops[i]? = some o) (hg : o.guard = none) {s x : Nat} (hop : o.op = .call { callee := .builtin .append, args := #[.tmp s, .tmp x], argTypes := #[22, 22] }) {A : Option Addr} {n : Nat} {l : List Nd} (hs : a.tmps[s]? = some (.slice A n n)) (hS : Nds w (.slice A n n) l)
    {ad : Addr} {m c : Nat} {L : List Nd} (hx : a.tmps[x]? = some (.slice (some ad) m c)) (hX : Nds w (.slice (some ad) m c) L) (hm : 0 < m) (hnm : n + m ≤ 2000000)
    (h : ∀ v' w', w'.ownsRow w.heap.size 42 2 v' (n + m) (ndsC (l ++ L)) → Below w.heap.size w w' → K (a.put o.dst v') w') : wpOp Tryz.prog ops Q i K a w := by
  obtain ⟨v', w', hr, h1, h2⟩ := append_full w o.type A n l hS ad m c L hX hm hnm
  refine lane_wp ho hg ?_
  have he := eval_slot hs
  have he2 := eval_slot hx
  unfold Oper.wp
  simp [execOp, hop, resolve, invoke, builtin, he, he2, hr, Result.andThen]
  exact h v' w' h1 h2
end

section
variable {ops : Array Oper} {Q : Exit → Act → World → Prop} {K : Act → World → Prop} {a : Act} {w : World} {i : Nat} {o : Oper}
theorem lane_slice (ho : ops[i]? = some o) (hg : o.guard = none) {s h m : Nat} (hop : o.op = .slice 22 (.tmp s) none (some (.tmp h)) (some (.tmp m))) {A : Option Addr} {n c j : Nat} {V : Value} (hV : sliced A 0 j j 2 = V)
    (hs : a.tmps[s]? = some (.slice A n c)) (hh : a.tmps[h]? = some (.int .i64 j)) (hm : a.tmps[m]? = some (.int .i64 j)) (hj : j ≤ c) (hk : K (a.put o.dst V) w) : wpOp Tryz.prog ops Q i K a w := by
  refine lane_value ho hg (v := V) (w' := w) ?_ hk
  have he := eval_slot hs
  have he2 := eval_slot hh
  have he3 := eval_slot hm
  have hr := run_slice_nd w A n c j hj
  rw [hV] at hr
  simp only [execOp, hop]
  simp [he, he2, he3, hr]
theorem lane_build (ho : ops[i]? = some o) (hg : o.guard = none) {s : Nat} (hop : o.op = .buildSlice 22 1 #[(0, .tmp s)]) {x y : ByteArray} (hs : a.tmps[s]? = some (.agg #[.string x, .string y]))
    (hk : K (a.put o.dst (.slice (some ⟨w.heap.size, 0, none⟩) 1 1)) (w.alloc (.cells #[.string x, .string y] 42))) : wpOp Tryz.prog ops Q i K a w := by
  refine lane_value ho hg ?_ hk
  have he := eval_slot hs
  have hr := build_nd w x y
  simp only [execOp, hop]
  simp [he, hr]
end
/-! ### A copy -/
set_option maxHeartbeats 800000 in
theorem nclone_any (U : Value) (l : List Nd) (w : World) (hU : Nds w U l) (hl : l.length ≤ 1000000) :
    Calls Tryz.prog 40 #[U] w fun e w' => ∃ a c, e = .returned (.slice a l.length c) ∧ Nds w' (.slice a l.length c) l ∧ Below w.heap.size w w' := by
  obtain ⟨a, c, rfl, h1, h2, h3, h4⟩ := hU.ex
  have q : ∀ (w : World) (a : Option Addr) (n c n' c' : Nat), (binOp .eql 22 (.slice a n c) (.slice none n' c')).run Tryz.prog w = .ok (.bool a.isNone) w := fun w a n c n' c' => Lib.run_eql_slice_nil w _ _ a n c n' c' Tryz.underlying22
  cases a with
  | none =>
    have hc : c = 0 := h3 rfl
    subst hc
    have : l = [] := List.eq_nil_of_length_eq_zero (by omega)
    subst this
    go_enter Tryz.func40, Tryz.ntmps40
    go_wp2
    go_ret
    exact ⟨none, 0, rfl, nds_none _, Below.refl _ _⟩
  | some ad =>
    obtain ⟨n, hn⟩ : ∃ n, l.length = n := ⟨_, rfl⟩
    have hcl := ndsC_len l
    rw [hn] at hU hl hcl ⊢
    have SU := Lib.hid hU
    clear hU h1 h2 h3 h4 hn
    go_enter Tryz.func40, Tryz.ntmps40
    go_wp2_with (at_builtin; refine wpList_append_src rfl _ _ 22 rfl w.heap.size 42 (.agg #[.string ByteArray.empty, .string ByteArray.empty]) 2 32 Tryz.underlying22 Tryz.info_node rfl (by decide) _ 0 [] rfl (World.ownsRow_made w #[] 0 (Nat.le_refl _) (by unfold maxLen; omega) rfl) (some ad) n c (ndsC l) rfl hcl (fun h => by cases h) (fun ad' e => by cases e; exact (SU.out.below ((Below.refl _ _).alloc (Nat.le_refl _) _)).cells) (ndsC_one l) (by omega) (by unfold maxLen; omega) (by simp) ?_)
    intro v' w' hown hb
    have hown2 : w'.ownsRow w.heap.size 42 2 v' l.length (ndsC l) := by
      rw [show l.length = n by have := ndsC_len l; omega]; first | exact hown | simpa using hown
    obtain ⟨a2, c2, rfl, hnd⟩ := ndsO hown2
    have hnl : l.length = n := by have := ndsC_len l; omega
    rw [hnl] at hnd ⊢
    have HN := Lib.hid hnd; have HB := Lib.hid (((Below.refl w.heap.size w).alloc (Nat.le_refl _) _).trans hb.toBelow)
    clear hown hown2 hb hnd hnl hcl
    go_wp2
    go_ret
    exact ⟨a2, c2, rfl, HN.out, HB.out⟩

/-! ### With -/
set_option maxHeartbeats 3200000 in
theorem nwith_any (U : Value) (l : List Nd) (p v : List UInt8) (w : World) (hU : Nds w U l) (sl : ∀ n ∈ l, smallN n) (hl : l.length ≤ 1000000) (hp : p.length ≤ 1000000000) (hv : v.length ≤ 1000000000) :
    Calls Tryz.prog 22 #[U, .agg #[.string (mkB p), .string (mkB v)]] w fun e w' => ∃ a c, e = .returned (.tuple #[.slice a (withNE l (p, v)).1.length c, .int .i64 (withNE l (p, v)).2]) ∧ Nds w' (.slice a (withNE l (p, v)).1.length c) (withNE l (p, v)).1 ∧ Below w.heap.size w w' := by
  obtain ⟨x, hx⟩ : ∃ x, checkN l = x := ⟨_, rfl⟩
  obtain ⟨y, hy⟩ : ∃ y, okN (p, v) = y := ⟨_, rfl⟩
  obtain ⟨a, c, rfl, h1, h2, -, -⟩ := hU.ex
  unfold maxLen at h2
  obtain ⟨n, hn⟩ : ∃ n, l.length = n := ⟨_, rfl⟩
  rw [hn] at h1 hU ⊢
  obtain ⟨R, hR⟩ : ∃ R, withNE l (p, v) = R := ⟨_, rfl⟩
  rw [hR]
  obtain ⟨R1, R2⟩ := R
  simp only
  obtain ⟨W, g, hW, hg, r0, hb⟩ : ∃ W g, w.alloc (.cells #[.string (mkB p), .string (mkB v)] 42) = W ∧ w.heap.size = g ∧ W.heap[g]? = some (.cells #[.string (mkB p), .string (mkB v)] 42 (0, 0)) ∧ Below w.heap.size w W := ⟨_, _, rfl, rfl, heap_alloc_new _ _, (Below.refl _ _).alloc (Nat.le_refl _) _⟩
  obtain ⟨d0, d1, _, _⟩ := row2 r0
  have SU := Lib.hid (hU.below hb); have SL := Lib.hid sl; have HN := Lib.hid hn
  have HW := Lib.hid hW; have HG := Lib.hid hg; have B := Lib.hid hb; have R0 := Lib.hid r0
  clear hU sl hn hW hg hb r0
  cases x
  · have he := withNE_no (l := l) (n := (p, v)) (by rw [hx]; rfl)
    rw [hR] at he
    obtain ⟨rfl, rfl⟩ := Prod.mk.inj he
    have HX := Lib.hid (chkE_no hx); clear hx hy he hR
    go_enter Tryz.func22, Tryz.ntmps22
    go_upto_region 1 with fail
    rw [HW.out, HG.out]
    go_wp2_with (go_at_call 25; refine (ncheck_e _ l _ SU.out SL.out).mono ?_; rintro e w1 ⟨rfl, hb1⟩; rw [HX.out]; replace B := Lib.hid (below_step B.out hb1); clear hb1)
    go_ret2
    exact ⟨none, 0, rfl, nds_none _, B.out⟩
  · cases y
    · have he := withNE_no (l := l) (n := (p, v)) (by rw [hx, hy]; rfl)
      rw [hR] at he
      obtain ⟨rfl, rfl⟩ := Prod.mk.inj he
      have HX := Lib.hid (chkE_yes hx); have HY := Lib.hid hy; clear hx hy he hR
      go_enter Tryz.func22, Tryz.ntmps22
      go_upto_region 1 with fail
      rw [HW.out, HG.out]
      go_wp2_with (first
        | (go_at_call 25; refine (ncheck_e _ l _ SU.out SL.out).mono ?_; rintro e w1 ⟨rfl, hb1⟩; rw [HX.out]; replace B := Lib.hid (below_step B.out hb1); replace d0 := cell_keep d0 hb1; replace d1 := cell_keep d1 hb1; clear hb1)
        | (go_at_call 32; refine (nmay_any _ _ _ hp hv).mono ?_; rintro e w1 ⟨rfl, hb1⟩; rw [HY.out]; replace B := Lib.hid (below_step B.out hb1); clear hb1))
      go_ret2
      exact ⟨none, 0, rfl, nds_none _, B.out⟩
    · have he := withNE_yes hx hy
      rw [hR] at he
      obtain ⟨rfl, rfl⟩ := Prod.mk.inj he
      obtain ⟨q, hq⟩ : ∃ q, hasN l (p, v) = q := ⟨_, rfl⟩
      have HX := Lib.hid (chkE_yes hx); have HCX := Lib.hid hx; have HY := Lib.hid hy; have HQ := Lib.hid hq; clear hx he hR
      obtain ⟨L, hL⟩ : ∃ L, withN l (p, v) = L := ⟨_, rfl⟩
      rw [hL]
      have HL := Lib.hid hL; clear hL
      cases q
      · clear hq hy
        go_enter Tryz.func22, Tryz.ntmps22
        go_upto_region 1 with fail
        rw [HW.out, HG.out]
        go_upto_region 6 with (first
          | (go_at_call 25; refine (ncheck_e _ l _ SU.out SL.out).mono ?_; rintro e w1 ⟨rfl, hb1⟩; rw [HX.out]; replace B := Lib.hid (below_step B.out hb1); replace SU := Lib.hid (SU.out.below hb1); replace d0 := cell_keep d0 hb1; replace d1 := cell_keep d1 hb1; replace R0 := Lib.hid ((hb1.block _ (Array.getElem?_eq_some_iff.1 R0.out).1).trans R0.out); clear hb1)
          | (go_at_call 32; refine (nmay_any _ _ _ hp hv).mono ?_; rintro e w1 ⟨rfl, hb1⟩; rw [HY.out]; replace B := Lib.hid (below_step B.out hb1); replace SU := Lib.hid (SU.out.below hb1); replace d0 := cell_keep d0 hb1; replace d1 := cell_keep d1 hb1; replace R0 := Lib.hid ((hb1.block _ (Array.getElem?_eq_some_iff.1 R0.out).1).trans R0.out); clear hb1)
          | (go_at_call 39; refine (nhas_any _ l p v _ SU.out).mono ?_; rintro e w1 ⟨rfl, hb1⟩; rw [HQ.out]; replace B := Lib.hid (below_step B.out hb1); replace SU := Lib.hid (SU.out.below hb1); replace d0 := cell_keep d0 hb1; replace d1 := cell_keep d1 hb1; replace R0 := Lib.hid ((hb1.block _ (Array.getElem?_eq_some_iff.1 R0.out).1).trans R0.out); clear hb1)
          | (go_at_call 41; refine (nbsearch_any _ l p v _ SU.out SL.out (checkN_ok HCX.out) (checkN_rises HCX.out) hv HY.out hl).mono ?_; rintro e w1 ⟨⟨i, found, rfl, hil, hi1, hi2⟩, hb1⟩; have HI1 := Lib.hid hi1; have HI2 := Lib.hid hi2; replace B := Lib.hid (below_step B.out hb1); replace SU := Lib.hid (SU.out.below hb1); replace d0 := cell_keep d0 hb1; replace d1 := cell_keep d1 hb1; replace R0 := Lib.hid ((hb1.block _ (Array.getElem?_eq_some_iff.1 R0.out).1).trans R0.out); clear hb1 hi1 hi2))
        obtain ⟨W1, rfl⟩ : ∃ W1 : World, W1 = w1 := ⟨_, rfl⟩
        have hic : i ≤ c := by have := HN.out; omega
        have hin : i ≤ n := by have := HN.out; omega
        have hil2 : i ≤ l.length := hil
        obtain ⟨A0, hA0⟩ : ∃ A0, sliced a 0 i i 2 = .slice A0 i i := ⟨_, by unfold sliced; rfl⟩
        have hml : (p, v) ∉ l := hasN_not.1 HQ.out
        have hLe := withN_cut (checkN_ok HCX.out) HY.out hml hil2 HI1.out (by intro t h1 h2; exact HI2.out t h1 h2)
        rw [HL.out] at hLe
        have HLE := Lib.hid hLe
        have hti : (l.take i).length = i := by rw [List.length_take]; omega
        clear hml hLe HI1 HI2 d0 d1
        refine lane_run (by kernel_rfl) [[], [], [], [0, 1, 2], [], [4], [3, 0, 1, 2, 5, 4], [6, 3, 0, 1, 2, 5, 4]] (by kernel_rfl) [28, 29, 30, 31, 32, 33, 34, 8] [] [.slot 28 (.slice a n c), .slot 29 (.int .i64 i), .slot 30 (.int .i64 i), .slot 31 (.slice A0 i i), .slot 32 (.agg #[.string (mkB p), .string (mkB v)]), .row 33 [(p, v)], .row 34 (l.take i ++ [(p, v)]), .row 8 (l.take i ++ [(p, v)])] [] (by kernel_rfl) W1.heap.size W1.heap.size rfl (Below.refl _ _) rfl ?_ ?_ ?_
        · intro j hj; exact trivial
        · intro j hj ac wx hG hF hE
          have hz : ac.tmps.size = 40 := hG.size
          have hj2 : j = 0 ∨ j = 1 ∨ j = 2 ∨ j = 3 ∨ j = 4 ∨ j = 5 ∨ j = 6 ∨ j = 7 := by have hj3 : j < 8 := hj; omega
          clear hj
          rcases hj2 with rfl | rfl | rfl | rfl | rfl | rfl | rfl | rfl
          · exact lane_move rfl rfl (Or.inl rfl) ((hG.slots 0 (by decide)).trans rfl) ⟨⟨_, rfl⟩, hG.below, Step1.same _ _ _, put_self _ (by rw [hz]; decide)⟩
          · exact lane_move rfl rfl (Or.inl rfl) ((hG.slots 6 (by decide)).trans rfl) ⟨⟨_, rfl⟩, hG.below, Step1.same _ _ _, put_self _ (by rw [hz]; decide)⟩
          · exact lane_move rfl rfl (Or.inl rfl) ((hG.slots 6 (by decide)).trans rfl) ⟨⟨_, rfl⟩, hG.below, Step1.same _ _ _, put_self _ (by rw [hz]; decide)⟩
          · exact lane_slice rfl rfl rfl hA0 (hF 0 (by decide)) (hF 1 (by decide)) (hF 2 (by decide)) hic ⟨⟨_, rfl⟩, hG.below, Step1.same _ _ _, put_self _ (by rw [hz]; decide)⟩
          · exact lane_load rfl rfl rfl ((hG.slots 3 (by decide)).trans rfl) ((hG.below.block _ (Array.getElem?_eq_some_iff.1 R0.out).1).trans R0.out) ⟨⟨_, rfl⟩, hG.below, Step1.same _ _ _, put_self _ (by rw [hz]; decide)⟩
          · refine lane_build rfl rfl rfl (hF 4 (by decide)) ⟨⟨_, rfl⟩, hG.below.alloc hG.below.size _, Step1.of_below ((Below.refl _ _).alloc (Nat.le_refl _) _) _ _, _, put_self _ (by rw [hz]; decide), rfl, Or.inr ⟨_, 1, _, rfl, hG.new, heap_alloc_new _ _, Nat.le_refl _, by unfold maxLen; omega, rfl, rfl⟩⟩
          · obtain ⟨v1, hv1, hr1⟩ := hF 5 (by decide)
            obtain ⟨a2, c2, rfl, hnd⟩ := ndsO hr1
            obtain ⟨_, _, hvv, _, _, _, h4⟩ := hnd.ex
            obtain ⟨b, off, ha, -⟩ := h4 (by simp)
            injection hvv with hv2 _ _
            subst hv2; subst ha
            have hah := (SU.out.below hG.below).ahead hil2
            rw [hA0] at hah
            refine lane_append rfl rfl rfl (hF 3 (by decide)) hah hv1 hnd (by simp) (by simp; omega) ?_
            intro v' w' hown hb
            refine ⟨⟨_, rfl⟩, hG.below.trans (hb.mono hG.below.size), Step1.of_below hb _ _, v', put_self _ (by rw [hz]; decide), ?_⟩
            have := row_base hown hG.new
            rw [List.length_append, hti]; exact this
          · obtain ⟨v1, hv1, hr1⟩ := hF 6 (by decide)
            exact lane_move rfl rfl (Or.inr rfl) hv1 ⟨⟨_, rfl⟩, hG.below, Step1.same _ _ _, v1, put_self _ (by rw [hz]; decide), hr1⟩
        · intro ac wx hG hF
          obtain ⟨v1, fv1, hr1⟩ := hF 7 (by decide)
          replace fv1 : ac.tmps.getD 8 undef = v1 := eval_slot (s := 8) fv1
          have hbx := hG.below
          have hnx := hG.new
          rw [hG.frame]
          simp only [List.foldl_cons, List.foldl_nil, List.setIfInBounds_toArray, List.set_cons_zero, List.set_cons_succ]
          rw [fv1]
          generalize ac.tmps.getD 28 undef = u28
          generalize ac.tmps.getD 29 undef = u29
          generalize ac.tmps.getD 30 undef = u30
          generalize ac.tmps.getD 31 undef = u31
          generalize ac.tmps.getD 32 undef = u32
          generalize ac.tmps.getD 33 undef = u33
          generalize ac.tmps.getD 34 undef = u34
          clear hF hG
          have hcut := (SU.out.below hbx).cut hil2
          have hld : (ndsC (l.drop i)).length = (n - i) * 2 := by rw [ndsC_len, List.length_drop, HN.out]
          have HCUT := Lib.hid hcut; have HBX := Lib.hid hbx
          rw [List.length_append, hti] at hr1
          have hnl : n ≤ 1000000 := by have := HN.out; omega
          have hinI : (i : Int) ≤ (n : Int) := by omega
          have hi0 : (0 : Int) ≤ (i : Int) := by omega
          clear hcut hbx
          go_wp2_with (at_builtin; refine wpList_append_src rfl _ _ 22 rfl W1.heap.size 42 (.agg #[.string ByteArray.empty, .string ByteArray.empty]) 2 32 Tryz.underlying22 Tryz.info_node rfl (by decide) _ (i + 1) (ndsC (l.take i ++ [(p, v)])) rfl hr1 (if c = i then a else a.map (·.add (i * 2))) (n - i) (c - i) (ndsC (l.drop i)) rfl hld HCUT.out.nil HCUT.out.src (ndsC_one _) (by omega) (by unfold maxLen; omega) hnx ?_)
          all_goals
            intro v' w' hown hb'
            have hown2 : w'.ownsRow W1.heap.size 42 2 v' L.length (ndsC L) := by
              rw [HLE.out, ndsC_app, show (l.take i ++ [(p, v)] ++ l.drop i).length = i + 1 + (n - i) by rw [List.length_append, List.length_append, hti, List.length_drop, HN.out]; rfl]
              exact hown
            obtain ⟨a2, c2, rfl, hnd⟩ := ndsO hown2
            have SN := Lib.hid hnd
            replace B := Lib.hid (below_step B.out (HBX.out.trans hb'.toBelow))
            clear hown hown2 hb' hnd hr1 hld
            go_wp2
            go_ret2
            exact ⟨a2, c2, rfl, SN.out, B.out⟩
      · clear hq hy
        go_enter Tryz.func22, Tryz.ntmps22
        go_upto_region 1 with fail
        rw [HW.out, HG.out]
        have hcl := fun U w h => nclone_any U l w h hl
        rw [HN.out] at hcl
        go_wp2_with (first
          | (go_at_call 25; refine (ncheck_e _ l _ SU.out SL.out).mono ?_; rintro e w1 ⟨rfl, hb1⟩; rw [HX.out]; replace B := Lib.hid (below_step B.out hb1); replace SU := Lib.hid (SU.out.below hb1); replace d0 := cell_keep d0 hb1; replace d1 := cell_keep d1 hb1; clear hb1)
          | (go_at_call 32; refine (nmay_any _ _ _ hp hv).mono ?_; rintro e w1 ⟨rfl, hb1⟩; rw [HY.out]; replace B := Lib.hid (below_step B.out hb1); replace SU := Lib.hid (SU.out.below hb1); replace d0 := cell_keep d0 hb1; replace d1 := cell_keep d1 hb1; clear hb1)
          | (go_at_call 39; refine (nhas_any _ l p v _ SU.out).mono ?_; rintro e w1 ⟨rfl, hb1⟩; rw [HQ.out]; replace B := Lib.hid (below_step B.out hb1); replace SU := Lib.hid (SU.out.below hb1); clear hb1)
          | (go_at_call 40; refine (hcl _ _ SU.out).mono ?_; rintro e w1 ⟨a2, c2, rfl, hnn, hb1⟩; have SN := Lib.hid hnn; replace B := Lib.hid (below_step B.out hb1); clear hb1 hnn hcl))
        go_ret2
        have e : L = l := by rw [← HL.out]; exact withN_same HCX.out HY.out (hasN_iff.1 HQ.out)
        subst e
        rw [HN.out]
        exact ⟨a2, c2, rfl, SN.out, B.out⟩
end Go.Proofs.YtjnkjjlpkgbkiaaGreat
