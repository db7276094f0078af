/- For every two texts: two paths with a slash between are one, whose elements are those of both, one behind the other, and the first one has it within; else it is none; no condition. -/
import Derived.Test.YtekdgjllnlkfmaaRows
import Derived.Test.YtekdgjllnlkfmaaPatN
import Derived.ProofKit
import Derived.OpenShut
import Derived.ShutString
import Derived.ChangeOld
namespace Go.Proofs.Ytekdgjllnlkfmaa.pathOn
open Go.ChangeShapes Go.WideShapes Go.ChangeAt Go.RowKit
open Go.ChangeMaps (open_string shut_string)
set_option linter.unusedVariables false

set_option maxHeartbeats 1600000 in
set_option maxRecDepth 100000 in
theorem walk (a b : ByteArray) (w : World) (ha : a.size ≤ maxLen) (hb : b.size ≤ maxLen) :
    Calls Try.prog 7 #[.string a, .string b] w fun e w' => e = .returned (.bool true) ∧ Below w.heap.size w w' := by
  have HA := Lib.hid ha; clear ha
  have hlx := fewL_le a.data.toList
  obtain ⟨x, hx⟩ : ∃ x, fewL a.data.toList = x := ⟨_, rfl⟩
  rw [hx] at hlx
  have SX : Hid (x.length ≤ 1000000000) := Lib.hid (by omega)
  have HX := Lib.hid hx; clear hx
  have HB := Lib.hid hb; clear hb
  have hly := fewL_le b.data.toList
  obtain ⟨y, hy⟩ : ∃ y, fewL b.data.toList = y := ⟨_, rfl⟩
  rw [hy] at hly
  have SY : Hid (y.length ≤ 1000000000) := Lib.hid (by omega)
  have HY := Lib.hid hy; clear hy
  have B := Lib.hid (Below.refl w.heap.size w)
  have bx : (mkB x).size ≤ 400 := by rw [mkB_size]; omega
  have by' : (mkB y).size ≤ 400 := by rw [mkB_size]; omega
  have SZ : Hid ((x ++ 47 :: y).length ≤ 1000000000) := Lib.hid (by simp; omega)
  have T1 := Lib.hid (slash_txt x y)
  obtain ⟨z, hz⟩ : ∃ z, x ++ 47 :: y = z := ⟨_, rfl⟩
  have hpz := path_slash x y
  have hsz := split_slash x y
  have hw : pathB x = true → pathB y = true → withinB x (x ++ 47 :: y) = true := within_slash
  rw [hz] at SZ T1 hpz hsz hw
  have HW := Lib.hid hw
  clear hz hw
  by_cases hh : pathB x = true ∧ pathB y = true
  · obtain ⟨hp, hq⟩ := hh
    rw [hp, hq] at hpz
    have hpz' : pathB z = true := hpz
    have hl1 := splitL_len 47 x
    have hl2 := splitL_len 47 y
    obtain ⟨ex, hex⟩ : ∃ l, splitL 47 x = l := ⟨_, rfl⟩
    obtain ⟨ey, hey⟩ : ∃ l, splitL 47 y = l := ⟨_, rfl⟩
    obtain ⟨ez, hez⟩ : ∃ l, splitL 47 z = l := ⟨_, rfl⟩
    have h1 := elsL_ok hp; have h2 := elsL_ok hq; have h3 := elsL_ok hpz'
    rw [hex] at h1 hl1 hsz; rw [hey] at h2 hl2 hsz; rw [hez] at h3 hsz
    have k1 := pathE_ok hp; have k2 := pathE_ok hq; have k3 := pathE_ok hpz'
    obtain ⟨n, hn⟩ : ∃ n, ex.length = n := ⟨_, rfl⟩
    obtain ⟨m, hm⟩ : ∃ m, ey.length = m := ⟨_, rfl⟩
    obtain ⟨o, ho⟩ : ∃ o, ez.length = o := ⟨_, rfl⟩
    rw [hn] at hl1; rw [hm] at hl2
    have HWW := Lib.hid (HW.out hp hq)
    have E1 := Lib.hid h1; have E2 := Lib.hid h2; have E3 := Lib.hid h3; have K1 := Lib.hid k1; have K2 := Lib.hid k2; have K3 := Lib.hid k3
    have HN := Lib.hid hn; have HM := Lib.hid hm; have HO := Lib.hid ho; have HZ := Lib.hid hsz
    clear hpz hpz' hex hey hez h1 h2 h3 k1 k2 k3 hn hm ho hsz hp hq HW
    go_enter Try.func7, Try.ntmps7
    go_wp2_with (first
      | (go_at_call 9; refine (few_ml _ _ (by first | exact HA.out | exact HB.out)).mono ?_; rintro e w' ⟨rfl, rfl⟩; first | rw [HX.out] | rw [HY.out])
      | fail)
    refine (elements_m x _ SX.out).mono ?_
    rintro e w1 ⟨a1, c1, rfl, hst, hb1⟩
    rw [E1.out, HN.out] at hst
    rw [E1.out, K1.out, HN.out]
    have ST1 := Lib.hid hst; clear hst
    replace B := Lib.hid (below_step B.out hb1); clear hb1
    go_wp2_with fail
    refine (elements_m y _ SY.out).mono ?_
    rintro e w2 ⟨a2, c2, rfl, hst, hb1⟩
    rw [E2.out, HM.out] at hst
    rw [E2.out, K2.out, HM.out]
    have ST2 := Lib.hid hst; clear hst
    replace B := Lib.hid (below_step B.out hb1); replace ST1 := Lib.hid (ST1.out.below hb1); clear hb1
    go_wp2_with fail
    rw [T1.out]
    refine (elements_m z _ SZ.out).mono ?_
    rintro e w3 ⟨a3, c3, rfl, hst, hb1⟩
    rw [E3.out, HO.out] at hst
    rw [E3.out, K3.out, HO.out]
    have ST3 := Lib.hid hst; clear hst
    replace B := Lib.hid (below_step B.out hb1); replace ST1 := Lib.hid (ST1.out.below hb1); replace ST2 := Lib.hid (ST2.out.below hb1); clear hb1
    have e0 : Below w3.heap.size w3 (w3.alloc (.cells #[] 9)) := (Below.refl _ _).alloc (Nat.le_refl _) _
    have SRC1 := Lib.hid (ST1.out.below e0).src2
    have OW0 := Lib.hid (World.ownsRow_lit (base := w3.heap.size) (e := 9) (size := 1) w3 #[] 0 (Nat.le_refl _) (by decide) rfl)
    go_wp2_with (first
      | (at_builtin; refine wpList_append_src rfl (.tmp 56) (.tmp 57) 23 rfl w3.heap.size 9 (.string ByteArray.empty) 1 16 Try.underlying23 Try.info_str rfl (by decide) _ 0 [] rfl OW0.out _ n c1 (ex.map strV) rfl (by rw [List.length_map, HN.out, Nat.mul_one]) SRC1.out.1 SRC1.out.2 (strs_one _) (by omega) (by unfold maxLen; omega) (by simp) ?_; intro v4 w4 ho4 hb4; rw [List.nil_append] at ho4; have O4 := Lib.hid ho4; clear ho4; have E4 := Lib.hid (e0.trans hb4); have SRC2 := Lib.hid (ST2.out.below (e0.trans hb4)).src2; clear hb4)
      | (at_builtin; refine wpList_append_src rfl (.tmp 58) (.tmp 59) 23 rfl w3.heap.size 9 (.string ByteArray.empty) 1 16 Try.underlying23 Try.info_str rfl (by decide) _ n (ex.map strV) (by first | rfl | (rw [HN.out])) (by have := O4.out; rwa [Nat.zero_add] at this) _ m c2 (ey.map strV) rfl (by rw [List.length_map, HM.out, Nat.mul_one]) SRC2.out.1 SRC2.out.2 (strs_one _) (by omega) (by unfold maxLen; omega) E4.out.size ?_; intro v5 w5 ho5 hb5; have E5 := Lib.hid (E4.out.trans hb5); have S5 : Hid (Strs w5 v5 ez) := Lib.hid (by rw [HZ.out]; exact Strs.owned (by rw [List.map_append, List.length_append, HN.out, HM.out]; exact ho5)); have S3 := Lib.hid (ST3.out.below E5.out); clear hb5 ho5; replace B := Lib.hid (below_step B.out E5.out))
      | (go_at_call 16; refine (same_any _ _ ez ez _ S3.out S5.out).mono ?_; rintro e w1 ⟨rfl, hq⟩; rw [sameB_refl]; have hb1 := below_q hq; clear hq; replace B := Lib.hid (below_step B.out hb1); clear hb1)
      | (go_at_call 13; rw [T1.out]; refine (within_m x z _ SX.out SZ.out).mono ?_; rintro e w1 ⟨rfl, hb1⟩; rw [HWW.out]; replace B := Lib.hid (below_step B.out hb1); clear hb1)
      | (go_at_call 15; refine (awake4_any _).mono ?_; rintro e w1 ⟨rfl, hb1⟩; replace B := Lib.hid (below_step B.out hb1); clear hb1))
    go_ret
    exact ⟨rfl, B.out⟩
  · have hpz' : pathB z = false := by
      rw [hpz, Bool.eq_false_iff]; intro e
      rw [Bool.and_eq_true] at e; exact hh e
    have h3 := elsL_no hpz'
    have k3 := pathE_no hpz'
    have E3 := Lib.hid h3; have K3 := Lib.hid k3; have P3 := Lib.hid hpz'
    obtain ⟨ex, hex⟩ : ∃ l, elsL x = l := ⟨_, rfl⟩
    obtain ⟨ey, hey⟩ : ∃ l, elsL y = l := ⟨_, rfl⟩
    obtain ⟨k1, hk1⟩ : ∃ k, pathE x = k := ⟨_, rfl⟩
    obtain ⟨k2, hk2⟩ : ∃ k, pathE y = k := ⟨_, rfl⟩
    have hor : (k1 != 0) = true ∨ (k1 != 0) = false ∧ (k2 != 0) = true := by
      subst hk1 hk2
      cases hp : pathB x
      · left; rw [pathE_no hp]; rfl
      · right
        have hq : pathB y = false := by
          rw [Bool.eq_false_iff]; intro e; exact hh ⟨hp, e⟩
        rw [pathE_ok hp, pathE_no hq]; exact ⟨rfl, rfl⟩
    have E1 := Lib.hid hex; have E2 := Lib.hid hey; have K1 := Lib.hid hk1; have K2 := Lib.hid hk2
    clear hh hpz hpz' h3 k3 hex hey hk1 hk2 hsz HW
    rcases hor with hk | ⟨hk, hk'⟩
    all_goals
      go_enter Try.func7, Try.ntmps7
      go_wp2_with (first
        | (go_at_call 9; refine (few_ml _ _ (by first | exact HA.out | exact HB.out)).mono ?_; rintro e w' ⟨rfl, rfl⟩; first | rw [HX.out] | rw [HY.out]))
      refine (elements_m x _ SX.out).mono ?_
      rintro e w1 ⟨a1, c1, rfl, hst, hb1⟩
      rw [E1.out, K1.out]
      clear hst
      replace B := Lib.hid (below_step B.out hb1); clear hb1
      go_wp2_with fail
      refine (elements_m y _ SY.out).mono ?_
      rintro e w2 ⟨a2, c2, rfl, hst, hb1⟩
      rw [E2.out, K2.out]
      clear hst
      replace B := Lib.hid (below_step B.out hb1); clear hb1
      go_wp2_with fail
      rw [T1.out]
      refine (elements_m z _ SZ.out).mono ?_
      rintro e w3 ⟨a3, c3, rfl, hst, hb1⟩
      rw [E3.out, K3.out]
      clear hst
      replace B := Lib.hid (below_step B.out hb1); clear hb1
      go_wp2_with (first
        | (go_at_call 11; rw [T1.out]; refine (pmay_m z _ SZ.out).mono ?_; rintro e w1 ⟨rfl, hb1⟩; rw [P3.out]; replace B := Lib.hid (below_step B.out hb1); clear hb1)
        | (go_at_call 15; refine (awake4_any _).mono ?_; rintro e w1 ⟨rfl, hb1⟩; replace B := Lib.hid (below_step B.out hb1); clear hb1))
      go_ret
      exact ⟨rfl, B.out⟩

theorem own : ownKnob Try.prog.godebug = none := by kernel_rfl
theorem laidOut : laidOutB Try.prog = true := by kernel_rfl

set_option maxRecDepth 100000 in
theorem lifted (os : Os) (started : os.Started) (H : Type) (enc : TypeId × Value → H) :
    ReturnsInHanded {} Try.checked os 7 .any (Rows.pathOnSpec.pre6 enc Try.prog Try.f7 Rows.pathOnRow.domain false) (Rows.pathOnSpec.post enc Try.prog Try.f7 false true false false) := by
  refine returnsInHanded_of_change (C := Try.checked) own started (by kernel_rfl) Try.func7
    (ChangeSpec.witness6 (enc := enc) (C := Try.checked) false ⟨#[], #[.string ByteArray.empty, .string ByteArray.empty], []⟩ 8 (by kernel_rfl) (by kernel_rfl) (by kernel_rfl) (by kernel_rfl)) ?_
  intro W base args ds gs before hval0 hW hcnd _
  have hval : ∀ (j : Nat) t v, Try.f7.params[j]? = some t → args[j]? = some v → Value.okWide Try.prog W .any base t v := hval0
  have hW' := hW
  obtain ⟨p, q, hA0, hV, rfl, hfz, hnd⟩ := hW
  have hA : DataW.TrodAll enc Try.prog W 0 (fun _ => true) true Try.f7.params.toList args.toList ds p := hA0
  rw [Try.params7] at hA hval
  obtain ⟨v0, vs0, d0, ds0, p0, q0, hargs, rfl, rfl, h0, r0⟩ := trodAll_cons hA
  obtain ⟨v1, vs1, d1, ds1, p1, q1, rfl, rfl, rfl, h1, r1⟩ := trodAll_cons r0
  obtain ⟨rfl, rfl, rfl⟩ := trodAll_nil r1
  obtain rfl : args = #[v0, v1] := by cases args; simp_all
  obtain ⟨rfl, rfl⟩ := trodVars_none hV
  obtain ⟨a0, rfl, rfl, rfl, w0⟩ := open_string Try.underlying9 (hval 0 9 v0 rfl rfl) h0
  obtain ⟨a1, rfl, rfl, rfl, w1⟩ := open_string Try.underlying9 (hval 1 9 v1 rfl rfl) h1
  clear hA0 hval0
  refine (walk a0 a1 W w0 w1).mono fun e W' ⟨he, bel⟩ => ?_
  subst he
  exact ⟨_, rfl, _, _, _, [], _, [], hW', trodAll_mk1 (shut_bool Try.underlying4 _), (trodAll_cons_mk (shut_string Try.underlying9 w0) (trodAll_cons_mk (shut_string Try.underlying9 w1) trodAll_mk0)), rfl, bel.frame _, fun h => by cases h⟩

-- the given statement
theorem proved : Rows.PathOnSaid :=
  OpenClaim.holds_of_wide 7 Try.f7 rfl rfl rfl rfl rfl rfl rfl ⟨rfl, rfl, rfl, rfl, rfl⟩ rfl rfl rfl rfl rfl (by kernel_rfl) Try.func7 (by kernel_rfl)
    (of_decide_eq_true (by kernel_rfl)) (by unfold Func.isWrapper; first | (rw [if_pos (by decide +kernel)]; kernel_rfl) | (rw [if_neg (by decide +kernel)]; exact ⟨rfl, rfl⟩))
    (fun os started H enc _ => lifted os started H enc)
end Go.Proofs.Ytekdgjllnlkfmaa.pathOn
