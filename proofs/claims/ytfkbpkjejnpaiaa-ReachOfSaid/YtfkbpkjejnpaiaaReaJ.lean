/- May a graph be; its edges with a pair once more, or less: of the program. -/
import Derived.Test.YtfkbpkjejnpaiaaReaI
import Derived.Test.YtfkbpkjejnpaiaaEdgG
namespace Go.Proofs.Ytfkbpkjejnpaiaa
open Go.RowKit Go.Maps
set_option linter.unusedVariables false
set_option maxRecDepth 100000

theorem gsame_eq (l : List Ed) (L : List Int) (g : Gr) (h : g.1 = l) : decide ((l, L) = g) = decide (g.2 = L) := by
  obtain ⟨g1, g2⟩ := g
  simp only at h
  subst h
  by_cases e : g2 = L <;> simp [e] <;> exact fun k => e k.symm

set_option maxHeartbeats 3200000 in
theorem gcheck_any (V : Value) (g : Gr) (w : World) (h : Gra w V g) (hl : g.1.length ≤ 200) (hf : ∀ e ∈ g.1, fitE e) :
    Calls Try.prog 13 #[V] w fun e w' => e = .returned (.int .i64 (gchk g)) ∧ Below w.heap.size w w' := by
  obtain ⟨a, c, b, d, rfl, u1, u2⟩ := h.ex
  obtain ⟨W, p, hW, hp, r0, hb⟩ := boxR1 w (.slice a g.1.length c) (.slice b g.2.length d) 25
  have ko := fun w h => gof_any (.slice a g.1.length c) g.1 w h hl hf
  have hG := Lib.hid (h.below hb)
  obtain ⟨n1, hn1⟩ : ∃ n, g.1.length = n := ⟨_, rfl⟩
  obtain ⟨n2, hn2⟩ : ∃ n, g.2.length = n := ⟨_, rfl⟩
  rw [hn1, hn2] at hW r0 hG ⊢
  rw [hn1] at u1 ko
  rw [hn2] at u2
  obtain ⟨d0, d1, -, -⟩ := row2 r0
  have U1 := Lib.hid (u1.below hb); have HW := Lib.hid hW; have HP := Lib.hid hp; have BB := Lib.hid hb; have R0 := Lib.hid r0
  clear h u1 u2 hb hW hp r0 hf hn1 hn2
  obtain ⟨o, ho⟩ : ∃ o, okE g.1 = o := ⟨_, rfl⟩
  obtain ⟨R, hR⟩ : ∃ R, gchk g = R := ⟨_, rfl⟩
  rw [hR]
  cases o
  · have hR1 : R = 1 := by rw [← hR]; unfold gchk okG; rw [ho]; simp
    subst hR1
    rw [gOf_no ho] at ko
    unfold chkE at ko
    rw [ho] at ko
    simp only [Bool.false_eq_true, if_false] at ko
    clear ho hR hG
    go_enter Try.func13, Try.ntmps13
    go_upto_region 1 with fail
    rw [HW.out, HP.out]
    go_wp2_with (go_at_call 12; refine (ko _ U1.out).mono ?_; rintro e w1 ⟨v, rfl, hx, hb1⟩; obtain ⟨a1, c1, b1, d1, rfl, -, -⟩ := hx.forms; replace BB := Lib.hid (below_step BB.out hb1); clear hb1 hx ko)
    go_ret
    exact ⟨rfl, BB.out.alloc BB.out.size _⟩
  · have hs := gsame_eq g.1 (liveE g.1) g rfl
    rw [gOf_ok ho] at ko
    unfold chkE at ko
    rw [ho] at ko
    simp only [if_true] at ko
    have hR1 : R = if decide (g.2 = liveE g.1) = true then 0 else 1 := by rw [← hR]; unfold gchk okG; rw [ho]; simp
    have ks := fun (U V : Value) (w : World) hu hv => gsame_any U V (g.1, liveE g.1) g w hu hv
    rw [hs] at ks
    obtain ⟨x, hx⟩ : ∃ x, decide (g.2 = liveE g.1) = x := ⟨_, rfl⟩
    rw [hx] at hR1 ks
    have KS := Lib.hid ks; have HR := Lib.hid hR1
    clear hs hx hR hR1 ks ho
    go_enter Try.func13, Try.ntmps13
    go_upto_region 1 with fail
    rw [HW.out, HP.out]
    go_upto_region 2 with (go_at_call 12; refine (ko _ U1.out).mono ?_; rintro e w1 ⟨v, rfl, hxg, hb1⟩; obtain ⟨a1, c1, b1, d1, rfl, -, -⟩ := hxg.forms; have HX := Lib.hid hxg.gra; replace BB := Lib.hid (below_step BB.out hb1); replace R0 := Lib.hid (row_keepB R0.out hb1); replace hG := Lib.hid (hG.out.below hb1); clear hb1 hxg ko d0)
    obtain ⟨X, q, hX, hq, r1, hbX⟩ := boxR1 w1 (.slice a1 g.1.length c1) (.slice b1 (liveE g.1).length d1) 25
    rw [hX, hq]
    have rr0 := row_keepB R0.out hbX
    obtain ⟨d0, d1, -, -⟩ := row2 rr0
    obtain ⟨e0, e1, -, -⟩ := row2 r1
    have HX2 := Lib.hid (HX.out.below hbX); have HG2 := Lib.hid (hG.out.below hbX); have BX := Lib.hid (below_step BB.out hbX)
    clear hX hq r1 hbX rr0
    go_wp2_with (go_at_call 15; refine (KS.out _ _ _ HX2.out HG2.out).mono ?_; rintro e w2 ⟨rfl, hb2⟩; have B2 := Lib.hid (below_step BX.out hb2); clear hb2)
    all_goals
      go_ret
      exact ⟨by rw [HR.out]; simp_all, B2.out⟩

/-! ### Add -/
noncomputable def linkK (g : Gr) (f t : Int) : Int := if okG g then addK g.1 f t else 1
noncomputable def linkL (g : Gr) (f t : Int) : List Ed := if okG g then addL g.1 f t else []
set_option maxHeartbeats 3200000 in
theorem chadd_any (V : Value) (g : Gr) (f t : Int) (w : World) (h : Gra w V g) (hl : g.1.length ≤ 200) (hf : ∀ e ∈ g.1, fitE e) :
    Calls Try.prog 39 #[V, .int .i64 f, .int .i64 t, .func (.func 40) #[] #[]] w fun e w' => ∃ v, e = .returned (.tuple #[v, .int .i64 (linkK g f t)]) ∧ w'.ownsRow w.heap.size 43 3 v (linkL g f t).length (edC (linkL g f t)) ∧ Below w.heap.size w w' := by
  obtain ⟨a, c, b, d, rfl, u1, u2⟩ := h.ex
  obtain ⟨W, p, hW, hp, r0, hb⟩ := boxR1 w (.slice a g.1.length c) (.slice b g.2.length d) 25
  have kc := fun w h => gcheck_any (.agg #[.slice a g.1.length c, .slice b g.2.length d]) g w h hl hf
  have ka := fun w h => add_any (.slice a g.1.length c) g.1 f t w h (by omega)
  have hG := Lib.hid (h.below hb)
  obtain ⟨n1, hn1⟩ : ∃ n, g.1.length = n := ⟨_, rfl⟩
  obtain ⟨n2, hn2⟩ : ∃ n, g.2.length = n := ⟨_, rfl⟩
  rw [hn1, hn2] at hW r0 hG kc ⊢
  rw [hn1] at u1 ka
  obtain ⟨d0, d1, -, -⟩ := row2 r0
  have U1 := Lib.hid (u1.below hb); have HW := Lib.hid hW; have HP := Lib.hid hp; have BB := Lib.hid hb
  clear h u1 u2 hb hW hp r0 hf hn1 hn2
  unfold gchk at kc
  unfold linkK linkL
  obtain ⟨o, ho⟩ : ∃ o, okG g = o := ⟨_, rfl⟩
  rw [ho] at kc ⊢
  clear ho
  cases o
  · simp only [Bool.false_eq_true, if_false] at kc ⊢
    go_enter Try.func39, Try.ntmps39
    go_upto_region 1 with fail
    rw [HW.out, HP.out]
    go_wp2_with (go_at_call 13; refine (kc _ hG.out).mono ?_; rintro e w1 ⟨rfl, hb1⟩; replace BB := Lib.hid (below_step BB.out hb1); clear hb1 kc)
    go_ret2
    exact ⟨_, rfl, World.ownsRow_nil _ _ _ _, BB.out⟩
  · simp only [if_true] at kc ⊢
    obtain ⟨K, hK⟩ : ∃ K, addK g.1 f t = K := ⟨_, rfl⟩
    obtain ⟨L, hL⟩ : ∃ L, addL g.1 f t = L := ⟨_, rfl⟩
    rw [hK, hL] at ka ⊢
    clear hK hL
    go_enter Try.func39, Try.ntmps39
    go_upto_region 1 with fail
    rw [HW.out, HP.out]
    go_wp2_with (first
      | (go_at_call 13; refine (kc _ hG.out).mono ?_; rintro e w1 ⟨rfl, hb1⟩; replace BB := Lib.hid (below_step BB.out hb1); replace d0 := cell_keep d0 hb1; replace U1 := Lib.hid (U1.out.below hb1); clear hb1 kc)
      | (go_at_call 40; refine (ka _ U1.out).mono ?_; rintro e w2 ⟨v2, rfl, hrow, hb2⟩; have HROW := Lib.hid (row_base hrow BB.out.size); replace BB := Lib.hid (below_step BB.out hb2); clear hrow hb2 ka))
    go_ret2
    exact ⟨_, rfl, HROW.out, BB.out⟩

/-! ### Drop -/
noncomputable def unlkK (g : Gr) (f t : Int) : Int := if okG g then dropK g.1 f t else 1
noncomputable def unlkL (g : Gr) (f t : Int) : List Ed := if okG g then dropL g.1 f t else []
set_option maxHeartbeats 3200000 in
theorem chdrop_any (V : Value) (g : Gr) (f t : Int) (w : World) (h : Gra w V g) (hl : g.1.length ≤ 200) (hf : ∀ e ∈ g.1, fitE e) :
    Calls Try.prog 39 #[V, .int .i64 f, .int .i64 t, .func (.func 45) #[] #[]] w fun e w' => ∃ v, e = .returned (.tuple #[v, .int .i64 (unlkK g f t)]) ∧ w'.ownsRow w.heap.size 43 3 v (unlkL g f t).length (edC (unlkL g f t)) ∧ Below w.heap.size w w' := by
  obtain ⟨a, c, b, d, rfl, u1, u2⟩ := h.ex
  obtain ⟨W, p, hW, hp, r0, hb⟩ := boxR1 w (.slice a g.1.length c) (.slice b g.2.length d) 25
  have kc := fun w h => gcheck_any (.agg #[.slice a g.1.length c, .slice b g.2.length d]) g w h hl hf
  have ka := fun w h => drop_any (.slice a g.1.length c) g.1 f t w h (by omega)
  have hG := Lib.hid (h.below hb)
  obtain ⟨n1, hn1⟩ : ∃ n, g.1.length = n := ⟨_, rfl⟩
  obtain ⟨n2, hn2⟩ : ∃ n, g.2.length = n := ⟨_, rfl⟩
  rw [hn1, hn2] at hW r0 hG kc ⊢
  rw [hn1] at u1 ka
  obtain ⟨d0, d1, -, -⟩ := row2 r0
  have U1 := Lib.hid (u1.below hb); have HW := Lib.hid hW; have HP := Lib.hid hp; have BB := Lib.hid hb
  clear h u1 u2 hb hW hp r0 hf hn1 hn2
  unfold gchk at kc
  unfold unlkK unlkL
  obtain ⟨o, ho⟩ : ∃ o, okG g = o := ⟨_, rfl⟩
  rw [ho] at kc ⊢
  clear ho
  cases o
  · simp only [Bool.false_eq_true, if_false] at kc ⊢
    go_enter Try.func39, Try.ntmps39
    go_upto_region 1 with fail
    rw [HW.out, HP.out]
    go_wp2_with (go_at_call 13; refine (kc _ hG.out).mono ?_; rintro e w1 ⟨rfl, hb1⟩; replace BB := Lib.hid (below_step BB.out hb1); clear hb1 kc)
    go_ret2
    exact ⟨_, rfl, World.ownsRow_nil _ _ _ _, BB.out⟩
  · simp only [if_true] at kc ⊢
    obtain ⟨K, hK⟩ : ∃ K, dropK g.1 f t = K := ⟨_, rfl⟩
    obtain ⟨L, hL⟩ : ∃ L, dropL g.1 f t = L := ⟨_, rfl⟩
    rw [hK, hL] at ka ⊢
    clear hK hL
    go_enter Try.func39, Try.ntmps39
    go_upto_region 1 with fail
    rw [HW.out, HP.out]
    go_wp2_with (first
      | (go_at_call 13; refine (kc _ hG.out).mono ?_; rintro e w1 ⟨rfl, hb1⟩; replace BB := Lib.hid (below_step BB.out hb1); replace d0 := cell_keep d0 hb1; replace U1 := Lib.hid (U1.out.below hb1); clear hb1 kc)
      | (go_at_call 45; refine (ka _ U1.out).mono ?_; rintro e w2 ⟨v2, rfl, hrow, hb2⟩; have HROW := Lib.hid (row_base hrow BB.out.size); replace BB := Lib.hid (below_step BB.out hb2); clear hrow hb2 ka))
    go_ret2
    exact ⟨_, rfl, HROW.out, BB.out⟩
end Go.Proofs.Ytfkbpkjejnpaiaa
