/- For every two texts: which of them are paths, the first one's elements, or why it has none, and whether it is the one within which the second one is, are the document's; no condition. -/
import Derived.Test.YtekdgjllnlkfmaaRows
import Derived.Test.YtekdgjllnlkfmaaPatF
import Derived.ProofKit
import Derived.OpenShut
import Derived.ShutString
import Derived.ChangeOld
namespace Go.Proofs.Ytekdgjllnlkfmaa.pathTells
open Go.ChangeShapes Go.WideShapes Go.ChangeAt Go.RowKit
open Go.ChangeMaps (open_string shut_string)
set_option linter.unusedVariables false

set_option maxHeartbeats 1600000 in
theorem walk (a b : ByteArray) (w : World) (ha : a.size ≤ maxLen) (hb : b.size ≤ maxLen) :
    Calls Try.prog 3 #[.string a, .string b] w fun e w' => e = .returned (.bool true) ∧ Below w.heap.size w w' := by
  have HA := Lib.hid ha; have HB := Lib.hid hb; clear ha hb
  have hlx := fewL_le a.data.toList
  have hly := fewL_le b.data.toList
  obtain ⟨x, hx⟩ : ∃ x, fewL a.data.toList = x := ⟨_, rfl⟩
  obtain ⟨y, hy⟩ : ∃ y, fewL b.data.toList = y := ⟨_, rfl⟩
  rw [hx] at hlx; rw [hy] at hly
  have SX : Hid (x.length ≤ 1000000000) := Lib.hid (by omega)
  have SY : Hid (y.length ≤ 1000000000) := Lib.hid (by omega)
  have HX := Lib.hid hx; have HY := Lib.hid hy; clear hx hy
  obtain ⟨r, hr⟩ : ∃ r, withinB x y = r := ⟨_, rfl⟩
  have HR := Lib.hid hr; clear hr
  have B := Lib.hid (Below.refl w.heap.size w)
  cases hp : pathB x
  · have he := elsL_no hp
    have hk := pathE_no hp
    have HP := Lib.hid hp; have HE := Lib.hid he; have HK := Lib.hid hk; clear hp he hk
    cases r
    all_goals
      go_enter Try.func3, Try.ntmps3
      go_wp2_with (first
        | (go_at_call 9; refine (few_ml _ _ (by first | exact HA.out | exact HB.out)).mono ?_; rintro e w' ⟨rfl, rfl⟩; first | rw [HX.out] | rw [HY.out])
        | (go_at_call 10; refine (elements_m x _ SX.out).mono ?_; rintro e w1 ⟨a1, c1, rfl, hst, hb1⟩; rw [HE.out, HK.out]; clear hst; replace B := Lib.hid (below_step B.out hb1); clear hb1)
        | (go_at_call 11; refine (pmay_m x _ SX.out).mono ?_; rintro e w1 ⟨rfl, hb1⟩; rw [HP.out]; replace B := Lib.hid (below_step B.out hb1); clear hb1)
        | (go_at_call 12; refine (refpmay_m x _ SX.out).mono ?_; rintro e w1 ⟨rfl, hb1⟩; rw [HP.out]; replace B := Lib.hid (below_step B.out hb1); clear hb1)
        | (go_at_call 13; refine (within_m x y _ SX.out SY.out).mono ?_; rintro e w1 ⟨rfl, hb1⟩; rw [HR.out]; replace B := Lib.hid (below_step B.out hb1); clear hb1)
        | (go_at_call 14; refine (refwithin_m x y _ SX.out SY.out).mono ?_; rintro e w1 ⟨rfl, hb1⟩; rw [HR.out]; replace B := Lib.hid (below_step B.out hb1); clear hb1)
        | (go_at_call 15; refine (awake4_any _).mono ?_; rintro e w1 ⟨rfl, hb1⟩; replace B := Lib.hid (below_step B.out hb1); clear hb1))
      go_ret
      exact ⟨rfl, B.out⟩
  · have he := elsL_ok hp
    have hk := pathE_ok hp
    obtain ⟨es, hes⟩ : ∃ l, splitL 47 x = l := ⟨_, rfl⟩
    rw [hes] at he
    obtain ⟨n, hn⟩ : ∃ n, es.length = n := ⟨_, rfl⟩
    have HP := Lib.hid hp; have HE := Lib.hid he; have HK := Lib.hid hk; have HES := Lib.hid hes; have HN := Lib.hid hn; clear hp he hk hes hn
    cases r
    all_goals
      go_enter Try.func3, Try.ntmps3
      go_wp2_with (first
        | (go_at_call 9; refine (few_ml _ _ (by first | exact HA.out | exact HB.out)).mono ?_; rintro e w' ⟨rfl, rfl⟩; first | rw [HX.out] | rw [HY.out])
        | (go_at_call 10; refine (elements_m x _ SX.out).mono ?_; rintro e w1 ⟨a1, c1, rfl, hst, hb1⟩; rw [HE.out, HN.out] at hst; rw [HE.out, HK.out, HN.out]; have ST := Lib.hid hst; clear hst; replace B := Lib.hid (below_step B.out hb1); clear hb1)
        | (go_at_call 11; refine (pmay_m x _ SX.out).mono ?_; rintro e w1 ⟨rfl, hb1⟩; rw [HP.out]; replace B := Lib.hid (below_step B.out hb1); replace ST := Lib.hid (ST.out.below hb1); clear hb1)
        | (go_at_call 12; refine (refpmay_m x _ SX.out).mono ?_; rintro e w1 ⟨rfl, hb1⟩; rw [HP.out]; replace B := Lib.hid (below_step B.out hb1); replace ST := Lib.hid (ST.out.below hb1); clear hb1)
        | (go_at_call 13; refine (within_m x y _ SX.out SY.out).mono ?_; rintro e w1 ⟨rfl, hb1⟩; rw [HR.out]; replace B := Lib.hid (below_step B.out hb1); replace ST := Lib.hid (ST.out.below hb1); clear hb1)
        | (go_at_call 14; refine (refwithin_m x y _ SX.out SY.out).mono ?_; rintro e w1 ⟨rfl, hb1⟩; rw [HR.out]; replace B := Lib.hid (below_step B.out hb1); replace ST := Lib.hid (ST.out.below hb1); clear hb1)
        | (go_at_call 17; refine (refparts_m x _ _ SX.out).mono ?_; rintro e w1 ⟨a2, c2, rfl, hst, hb1⟩; rw [HES.out, HN.out] at hst; rw [HES.out, HN.out]; have ST2 := Lib.hid hst; clear hst; replace B := Lib.hid (below_step B.out hb1); replace ST := Lib.hid (ST.out.below hb1); clear hb1)
        | (go_at_call 16; refine (same_any _ _ es es _ ST.out ST2.out).mono ?_; rintro e w1 ⟨rfl, hq⟩; rw [sameB_refl]; replace B := Lib.hid (below_step B.out (below_q hq)); clear hq)
        | (go_at_call 15; refine (awake4_any _).mono ?_; rintro e w1 ⟨rfl, hb1⟩; replace B := Lib.hid (below_step B.out hb1); clear hb1))
      go_ret
      exact ⟨rfl, B.out⟩

theorem own : ownKnob Try.prog.godebug = none := by kernel_rfl
theorem laidOut : laidOutB Try.prog = true := by kernel_rfl

set_option maxRecDepth 100000 in
theorem lifted (os : Os) (started : os.Started) (H : Type) (enc : TypeId × Value → H) :
    ReturnsInHanded {} Try.checked os 3 .any (Rows.pathTellsSpec.pre6 enc Try.prog Try.f3 Rows.pathTellsRow.domain false) (Rows.pathTellsSpec.post enc Try.prog Try.f3 false true false false) := by
  refine returnsInHanded_of_change (C := Try.checked) own started (by kernel_rfl) Try.func3
    (ChangeSpec.witness6 (enc := enc) (C := Try.checked) false ⟨#[], #[.string ByteArray.empty, .string ByteArray.empty], []⟩ 8 (by kernel_rfl) (by kernel_rfl) (by kernel_rfl) (by kernel_rfl)) ?_
  intro W base args ds gs before hval0 hW hcnd _
  have hval : ∀ (j : Nat) t v, Try.f3.params[j]? = some t → args[j]? = some v → Value.okWide Try.prog W .any base t v := hval0
  have hW' := hW
  obtain ⟨p, q, hA0, hV, rfl, hfz, hnd⟩ := hW
  have hA : DataW.TrodAll enc Try.prog W 0 (fun _ => true) true Try.f3.params.toList args.toList ds p := hA0
  rw [Try.params3] at hA hval
  obtain ⟨v0, vs0, d0, ds0, p0, q0, hargs, rfl, rfl, h0, r0⟩ := trodAll_cons hA
  obtain ⟨v1, vs1, d1, ds1, p1, q1, rfl, rfl, rfl, h1, r1⟩ := trodAll_cons r0
  obtain ⟨rfl, rfl, rfl⟩ := trodAll_nil r1
  obtain rfl : args = #[v0, v1] := by cases args; simp_all
  obtain ⟨rfl, rfl⟩ := trodVars_none hV
  obtain ⟨a0, rfl, rfl, rfl, w0⟩ := open_string Try.underlying9 (hval 0 9 v0 rfl rfl) h0
  obtain ⟨a1, rfl, rfl, rfl, w1⟩ := open_string Try.underlying9 (hval 1 9 v1 rfl rfl) h1
  clear hA0 hval0
  refine (walk a0 a1 W w0 w1).mono fun e W' ⟨he, bel⟩ => ?_
  subst he
  exact ⟨_, rfl, _, _, _, [], _, [], hW', trodAll_mk1 (shut_bool Try.underlying4 _), (trodAll_cons_mk (shut_string Try.underlying9 w0) (trodAll_cons_mk (shut_string Try.underlying9 w1) trodAll_mk0)), rfl, bel.frame _, fun h => by cases h⟩

-- the given statement
theorem proved : Rows.PathTellsSaid :=
  OpenClaim.holds_of_wide 3 Try.f3 rfl rfl rfl rfl rfl rfl rfl ⟨rfl, rfl, rfl, rfl, rfl⟩ rfl rfl rfl rfl rfl (by kernel_rfl) Try.func3 (by kernel_rfl)
    (of_decide_eq_true (by kernel_rfl)) (by unfold Func.isWrapper; first | (rw [if_pos (by decide +kernel)]; kernel_rfl) | (rw [if_neg (by decide +kernel)]; exact ⟨rfl, rfl⟩))
    (fun os started H enc _ => lifted os started H enc)
end Go.Proofs.Ytekdgjllnlkfmaa.pathTells
