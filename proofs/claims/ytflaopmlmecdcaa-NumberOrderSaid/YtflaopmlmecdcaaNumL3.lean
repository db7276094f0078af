/- Of every three texts that are numbers order goes one way; the next one comes behind, and nothing between; a digit more is more; no condition. -/
import Derived.Test.YtflaopmlmecdcaaRows
import Derived.Test.YtflaopmlmecdcaaNumH
import Derived.ProofKit
import Derived.OpenShut
import Derived.ShutString
import Derived.ChangeOld
namespace Go.Proofs.Ytflaopmlmecdcaa.numberOrder
open Go.ChangeShapes Go.WideShapes Go.ChangeAt Go.RowKit
open Go.ChangeMaps (open_string shut_string)
set_option linter.unusedVariables false

set_option maxRecDepth 100000 in
set_option maxHeartbeats 6400000 in
theorem walk (a b c : ByteArray) (w : World) (ha : a.size ≤ maxLen) (hb : b.size ≤ maxLen) (hc : c.size ≤ maxLen) :
    Calls Try.prog 3 #[.string a, .string b, .string c] w fun e w' => e = .returned (.bool true) ∧ Below w.heap.size w w' := by
  have HA := Lib.hid ha; have HB := Lib.hid hb; have HC := Lib.hid hc; clear ha hb hc
  have h1 := fewB_size a
  have h2 := fewB_size b
  have h3 := fewB_size c
  obtain ⟨x, hx⟩ : ∃ x, x = fewB a := ⟨_, rfl⟩
  obtain ⟨y, hy⟩ : ∃ y, y = fewB b := ⟨_, rfl⟩
  obtain ⟨z, hz⟩ : ∃ z, z = fewB c := ⟨_, rfl⟩
  rw [← hx] at h1; rw [← hy] at h2; rw [← hz] at h3
  have HX := Lib.hid hx; have HY := Lib.hid hy; have HZ := Lib.hid hz; clear hx hy hz
  have HXM : Hid (x.size ≤ maxLen) := Lib.hid (by unfold maxLen; omega)
  have HYM : Hid (y.size ≤ maxLen) := Lib.hid (by unfold maxLen; omega)
  have HZM : Hid (z.size ≤ maxLen) := Lib.hid (by unfold maxLen; omega)
  have HX9 : Hid (x.size ≤ 1000000000) := Lib.hid (by omega)
  have B0 := Below.refl w.heap.size w
  obtain ⟨mx, hmx⟩ : ∃ m, mayL x.data.toList = m := ⟨_, rfl⟩
  obtain ⟨my, hmy⟩ : ∃ m, mayL y.data.toList = m := ⟨_, rfl⟩
  obtain ⟨mz, hmz⟩ : ∃ m, mayL z.data.toList = m := ⟨_, rfl⟩
  have MX := Lib.hid hmx; have MY := Lib.hid hmy; have MZ := Lib.hid hmz; clear hmx hmy hmz
  cases mx
  · have e1 : cmpE x.data.toList y.data.toList = (0, 1) := cmpE_l MX.out
    obtain ⟨q, hq⟩ : ∃ q, cmpE y.data.toList z.data.toList = q := ⟨_, rfl⟩
    obtain ⟨r, hr⟩ : ∃ q, cmpE x.data.toList z.data.toList = q := ⟨_, rfl⟩
    have E1 := Lib.hid e1; have E2 := Lib.hid hq; have E3 := Lib.hid hr; clear e1 hq hr
    go_enter Try.func3, Try.ntmps3
    go_wp2_with (first
      | (go_at_call 6; refine (few_any _ _ (by first | exact HA.out | exact HB.out | exact HC.out)).mono ?_; rintro e w' ⟨rfl, rfl⟩; first | rw [← HX.out] | rw [← HY.out] | rw [← HZ.out])
      | (go_at_call 8; refine (may_any _ _ (by first | exact HXM.out | exact HYM.out | exact HZM.out)).mono ?_; rintro e w1 ⟨rfl, hb1⟩; have B1 := below_step (by assumption) hb1; clear hb1; first | rw [MX.out] | rw [MY.out] | rw [MZ.out])
      | (go_at_call 7; refine (cmpnum_any _ _ _ (by first | exact HXM.out | exact HYM.out | exact HZM.out | exact HNM.out) (by first | exact HXM.out | exact HYM.out | exact HZM.out | exact HNM.out | exact HY0.out)).mono ?_; rintro e w1 ⟨rfl, hb1⟩; have B1 := below_step (by assumption) hb1; clear hb1; first | rw [E1.out] | rw [E2.out] | rw [E3.out])
      | (go_at_call 9; refine (awake2_any _).mono ?_; rintro e w6 ⟨rfl, hb6⟩; have B6 := below_step (by assumption) hb6))
    go_ret
    exact ⟨rfl, by assumption⟩
  cases my
  · have e1 : cmpE x.data.toList y.data.toList = (0, 1) := cmpE_r MY.out
    obtain ⟨q, hq⟩ : ∃ q, cmpE y.data.toList z.data.toList = q := ⟨_, rfl⟩
    obtain ⟨r, hr⟩ : ∃ q, cmpE x.data.toList z.data.toList = q := ⟨_, rfl⟩
    have E1 := Lib.hid e1; have E2 := Lib.hid hq; have E3 := Lib.hid hr; clear e1 hq hr
    go_enter Try.func3, Try.ntmps3
    go_wp2_with (first
      | (go_at_call 6; refine (few_any _ _ (by first | exact HA.out | exact HB.out | exact HC.out)).mono ?_; rintro e w' ⟨rfl, rfl⟩; first | rw [← HX.out] | rw [← HY.out] | rw [← HZ.out])
      | (go_at_call 8; refine (may_any _ _ (by first | exact HXM.out | exact HYM.out | exact HZM.out)).mono ?_; rintro e w1 ⟨rfl, hb1⟩; have B1 := below_step (by assumption) hb1; clear hb1; first | rw [MX.out] | rw [MY.out] | rw [MZ.out])
      | (go_at_call 7; refine (cmpnum_any _ _ _ (by first | exact HXM.out | exact HYM.out | exact HZM.out | exact HNM.out) (by first | exact HXM.out | exact HYM.out | exact HZM.out | exact HNM.out | exact HY0.out)).mono ?_; rintro e w1 ⟨rfl, hb1⟩; have B1 := below_step (by assumption) hb1; clear hb1; first | rw [E1.out] | rw [E2.out] | rw [E3.out])
      | (go_at_call 9; refine (awake2_any _).mono ?_; rintro e w6 ⟨rfl, hb6⟩; have B6 := below_step (by assumption) hb6))
    go_ret
    exact ⟨rfl, by assumption⟩
  cases mz
  · obtain ⟨p, e1⟩ : ∃ p, cmpE x.data.toList y.data.toList = (p, 0) := ⟨_, cmpE_ok MX.out MY.out⟩
    have e2 : cmpE y.data.toList z.data.toList = (0, 1) := cmpE_r MZ.out
    obtain ⟨r, hr⟩ : ∃ q, cmpE x.data.toList z.data.toList = q := ⟨_, rfl⟩
    have E1 := Lib.hid e1; have E2 := Lib.hid e2; have E3 := Lib.hid hr; clear e1 e2 hr
    go_enter Try.func3, Try.ntmps3
    go_wp2_with (first
      | (go_at_call 6; refine (few_any _ _ (by first | exact HA.out | exact HB.out | exact HC.out)).mono ?_; rintro e w' ⟨rfl, rfl⟩; first | rw [← HX.out] | rw [← HY.out] | rw [← HZ.out])
      | (go_at_call 8; refine (may_any _ _ (by first | exact HXM.out | exact HYM.out | exact HZM.out)).mono ?_; rintro e w1 ⟨rfl, hb1⟩; have B1 := below_step (by assumption) hb1; clear hb1; first | rw [MX.out] | rw [MY.out] | rw [MZ.out])
      | (go_at_call 7; refine (cmpnum_any _ _ _ (by first | exact HXM.out | exact HYM.out | exact HZM.out | exact HNM.out) (by first | exact HXM.out | exact HYM.out | exact HZM.out | exact HNM.out | exact HY0.out)).mono ?_; rintro e w1 ⟨rfl, hb1⟩; have B1 := below_step (by assumption) hb1; clear hb1; first | rw [E1.out] | rw [E2.out] | rw [E3.out])
      | (go_at_call 9; refine (awake2_any _).mono ?_; rintro e w6 ⟨rfl, hb6⟩; have B6 := below_step (by assumption) hb6))
    go_ret
    exact ⟨rfl, by assumption⟩
  obtain ⟨p, hp⟩ : ∃ p, cmpN x.data.toList y.data.toList = p := ⟨_, rfl⟩
  obtain ⟨q, hq⟩ : ∃ p, cmpN y.data.toList z.data.toList = p := ⟨_, rfl⟩
  obtain ⟨r, hr⟩ : ∃ p, cmpN x.data.toList z.data.toList = p := ⟨_, rfl⟩
  obtain ⟨t, ht⟩ : ∃ p, cmpN (nextL x.data.toList) y.data.toList = p := ⟨_, rfl⟩
  have vp := cmpN_val _ _ MX.out MY.out
  have vq := cmpN_val _ _ MY.out MZ.out
  have vr := cmpN_val _ _ MX.out MZ.out
  have nm := next_may MX.out
  have nv := next_val MX.out
  have vt := cmpN_val _ _ nm MY.out
  have vn := cmpN_val _ _ MX.out nm
  rw [hp] at vp; rw [hq] at vq; rw [hr] at vr; rw [ht] at vt
  have veq : valL x.data.toList = valL y.data.toList ↔ x.data.toList = y.data.toList := ⟨val_inj MX.out MY.out, fun h => by rw [h]⟩
  have veq2 : valL y.data.toList = valL z.data.toList ↔ y.data.toList = z.data.toList := ⟨val_inj MY.out MZ.out, fun h => by rw [h]⟩
  have veq3 : valL x.data.toList = valL z.data.toList ↔ x.data.toList = z.data.toList := ⟨val_inj MX.out MZ.out, fun h => by rw [h]⟩
  have veq4 : valL (nextL x.data.toList) = valL y.data.toList ↔ nextL x.data.toList = y.data.toList := ⟨val_inj nm MY.out, fun h => by rw [h]⟩
  have hvn : cmpN x.data.toList (nextL x.data.toList) = -1 := by
    rcases vn with h | h | h
    · exact h.1
    · have := h.2; rw [← this] at nv; omega
    · omega
  rw [← veq] at vp; rw [← veq2] at vq; rw [← veq3] at vr; rw [← veq4] at vt
  have hpb : -1 ≤ p ∧ p ≤ 1 := by omega
  have heq : (x.toList == y.toList) = (p == 0) := by
    rw [Lib.toList_data, Lib.toList_data, Bool.eq_iff_iff, beq_iff_eq, beq_iff_eq, ← veq]; omega
  have hcase := ord_facts (valL x.data.toList) (valL y.data.toList) (valL z.data.toList) (valL (nextL x.data.toList)) p q r t vp vq vr vt nv
  have hE1 : cmpE x.data.toList y.data.toList = (p, 0) := by rw [cmpE_ok MX.out MY.out, hp]
  have hE2 : cmpE y.data.toList z.data.toList = (q, 0) := by rw [cmpE_ok MY.out MZ.out, hq]
  have hE3 : cmpE x.data.toList z.data.toList = (r, 0) := by rw [cmpE_ok MX.out MZ.out, hr]
  have hE4 : cmpE x.data.toList (mkB (nextL x.data.toList)).data.toList = (-1, 0) := by rw [mkB_list, cmpE_ok MX.out nm, hvn]
  have hE5 : cmpE (mkB (nextL x.data.toList)).data.toList y.data.toList = (t, 0) := by rw [mkB_list, cmpE_ok nm MY.out, ht]
  have hN : nextE x.data.toList = (mkB (nextL x.data.toList), 0) := nextE_ok MX.out
  have HNM : Hid ((mkB (nextL x.data.toList)).size ≤ maxLen) := Lib.hid (by rw [mkB_size]; have := next_len x.data.toList; rw [← Lib.size_eq] at this; unfold maxLen; omega)
  obtain ⟨n, hn⟩ : ∃ n, n = mkB (nextL x.data.toList) := ⟨_, rfl⟩
  rw [← hn] at hE4 hE5 hN HNM
  -- a digit more
  obtain ⟨u, hu⟩ : ∃ u, cmpE x.data.toList (y ++ ⟨#[48]⟩).data.toList = u := ⟨_, rfl⟩
  have hy0 : (y ++ ⟨#[48]⟩).data.toList = y.data.toList ++ [48] := by rw [cat_list]
  have HY0 : Hid ((y ++ ⟨#[48]⟩).size ≤ maxLen) := Lib.hid (by rw [size_more]; unfold maxLen; omega)
  have hcu : (u.2 = 1) ∨ (u.2 = 0 ∧ y.size < x.size) ∨ (u.2 = 0 ∧ x.size ≤ y.size ∧ u.1 < 0) := by
    rw [← hu, hy0]
    rcases cmpE_cases x.data.toList (y.data.toList ++ [48]) with ⟨g1, g2, g3, g4⟩ | ⟨g1, g2⟩
    · rw [g1, g4]
      rcases Nat.lt_or_ge y.size x.size with h | h
      · exact .inr (.inl ⟨rfl, h⟩)
      · refine .inr (.inr ⟨rfl, h, ?_⟩)
        unfold cmpN
        rw [if_pos (by rw [List.length_append, ← Lib.size_eq, ← Lib.size_eq]; simp; omega)]
        decide
    · rw [g1]; exact .inl rfl
  have E1 := Lib.hid hE1; have E2 := Lib.hid hE2; have E3 := Lib.hid hE3; have E4 := Lib.hid hE4; have E5 := Lib.hid hE5; have E6 := Lib.hid hu; have HN := Lib.hid hN
  clear hE1 hE2 hE3 hE4 hE5 hu hN hn hp hq hr ht vp vq vr nm nv vt vn veq veq2 veq3 veq4 hvn hy0
  obtain ⟨hpb1, hpb2⟩ := hpb
  obtain ⟨u1, u2⟩ := u
  simp only at hcu E6
  have hcu2 : u2 = 1 ∨ (u2 = 0 ∧ y.size < x.size) ∨ (u2 = 0 ∧ x.size ≤ y.size ∧ u1 < 0) := hcu
  clear hcu
  rcases hcase with ⟨c1, c2, c3, c4, c5⟩ | ⟨c1, c2, c3, c4⟩ | ⟨c1, c2, c3, c4, c5⟩ | ⟨c1, c2, c3, c4, c5, c6⟩ | ⟨c1, c2, c3, c4, c5, c6⟩ | ⟨c1, c2, c3, c4, c5, c6, c7⟩ | ⟨c1, c2, c3, c4, c5, c6⟩ <;> rcases hcu2 with rfl | ⟨rfl, d2⟩ | ⟨rfl, d2, d3⟩
  all_goals
    go_enter Try.func3, Try.ntmps3
    go_wp2_with (first
      | (go_at_call 6; refine (few_any _ _ (by first | exact HA.out | exact HB.out | exact HC.out)).mono ?_; rintro e w' ⟨rfl, rfl⟩; first | rw [← HX.out] | rw [← HY.out] | rw [← HZ.out])
      | (go_at_call 8; refine (may_any _ _ (by first | exact HXM.out | exact HYM.out | exact HZM.out)).mono ?_; rintro e w1 ⟨rfl, hb1⟩; have B1 := below_step (by assumption) hb1; clear hb1; first | rw [MX.out] | rw [MY.out] | rw [MZ.out])
      | (go_at_call 10; refine (next_any _ _ HX9.out).mono ?_; rintro e w1 ⟨rfl, hb1⟩; have B1 := below_step (by assumption) hb1; clear hb1; rw [HN.out])
      | (go_at_call 7; refine (cmpnum_any _ _ _ (by first | exact HXM.out | exact HYM.out | exact HZM.out | exact HNM.out) (by first | exact HXM.out | exact HYM.out | exact HZM.out | exact HNM.out | exact HY0.out)).mono ?_; rintro e w1 ⟨rfl, hb1⟩; have B1 := below_step (by assumption) hb1; clear hb1; first | rw [E1.out] | rw [E2.out] | rw [E3.out] | rw [E4.out] | rw [E5.out] | rw [E6.out])
      | (go_at_call 9; refine (awake2_any _).mono ?_; rintro e w6 ⟨rfl, hb6⟩; have B6 := below_step (by assumption) hb6))
    all_goals
      go_ret
      first
        | exact ⟨rfl, by assumption⟩
        | (exfalso; omega)

theorem own : ownKnob Try.prog.godebug = none := by kernel_rfl
theorem laidOut : laidOutB Try.prog = true := by kernel_rfl

set_option maxRecDepth 100000 in
theorem lifted (os : Os) (started : os.Started) (H : Type) (enc : TypeId × Value → H) :
    ReturnsInHanded {} Try.checked os 3 .any (Rows.numberOrderSpec.pre6 enc Try.prog Try.f3 Rows.numberOrderRow.domain false) (Rows.numberOrderSpec.post enc Try.prog Try.f3 false true false false) := by
  refine returnsInHanded_of_change (C := Try.checked) own started (by kernel_rfl) Try.func3
    (ChangeSpec.witness6 (enc := enc) (C := Try.checked) false ⟨#[], #[.string ByteArray.empty, .string ByteArray.empty, .string ByteArray.empty], []⟩ 8 (by kernel_rfl) (by kernel_rfl) (by kernel_rfl) (by kernel_rfl)) ?_
  intro W base args ds gs before hval0 hW hcnd _
  have hval : ∀ (j : Nat) t v, Try.f3.params[j]? = some t → args[j]? = some v → Value.okWide Try.prog W .any base t v := hval0
  have hW' := hW
  obtain ⟨p, q, hA0, hV, rfl, hfz, hnd⟩ := hW
  have hA : DataW.TrodAll enc Try.prog W 0 (fun _ => true) true Try.f3.params.toList args.toList ds p := hA0
  rw [Try.params3] at hA hval
  obtain ⟨v0, vs0, d0, ds0, p0, q0, hargs, rfl, rfl, h0, r0⟩ := trodAll_cons hA
  obtain ⟨v1, vs1, d1, ds1, p1, q1, rfl, rfl, rfl, h1, r1⟩ := trodAll_cons r0
  obtain ⟨v2, vs2, d2, ds2, p2, q2, rfl, rfl, rfl, h2, r2⟩ := trodAll_cons r1
  obtain ⟨rfl, rfl, rfl⟩ := trodAll_nil r2
  obtain rfl : args = #[v0, v1, v2] := by cases args; simp_all
  obtain ⟨rfl, rfl⟩ := trodVars_none hV
  obtain ⟨a0, rfl, rfl, rfl, w0⟩ := open_string Try.underlying9 (hval 0 9 v0 rfl rfl) h0
  obtain ⟨a1, rfl, rfl, rfl, w1⟩ := open_string Try.underlying9 (hval 1 9 v1 rfl rfl) h1
  obtain ⟨a2, rfl, rfl, rfl, w2⟩ := open_string Try.underlying9 (hval 2 9 v2 rfl rfl) h2
  clear hA0 hval0
  refine (walk a0 a1 a2 W w0 w1 w2).mono fun e W' ⟨he, bel⟩ => ?_
  subst he
  exact ⟨_, rfl, _, _, _, [], _, [], hW', trodAll_mk1 (shut_bool Try.underlying4 _), (trodAll_cons_mk (shut_string Try.underlying9 w0) (trodAll_cons_mk (shut_string Try.underlying9 w1) (trodAll_cons_mk (shut_string Try.underlying9 w2) trodAll_mk0))), rfl, bel.frame _, fun h => by cases h⟩

-- the given statement
theorem proved : Rows.NumberOrderSaid :=
  OpenClaim.holds_of_wide 3 Try.f3 rfl rfl rfl rfl rfl rfl rfl ⟨rfl, rfl, rfl, rfl, rfl⟩ rfl rfl rfl rfl rfl (by kernel_rfl) Try.func3 (by kernel_rfl)
    (of_decide_eq_true (by kernel_rfl)) (by unfold Func.isWrapper; first | (rw [if_pos (by decide +kernel)]; kernel_rfl) | (rw [if_neg (by decide +kernel)]; exact ⟨rfl, rfl⟩))
    (fun os started H enc _ => lifted os started H enc)
end Go.Proofs.Ytflaopmlmecdcaa.numberOrder
