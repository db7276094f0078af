/- For every three texts: of paths that are within one another it goes on among three, two within each other are the same, two within a third one stand in a line, and nothing but a path is within anything; no condition. -/
import Derived.Test.YtekdgjllnlkfmaaRows
import Derived.Test.YtekdgjllnlkfmaaPatN
import Derived.ProofKit
import Derived.OpenShut
import Derived.ShutString
import Derived.ChangeOld
namespace Go.Proofs.Ytekdgjllnlkfmaa.pathWithin
open Go.ChangeShapes Go.WideShapes Go.ChangeAt Go.RowKit
open Go.ChangeMaps (open_string shut_string)
set_option linter.unusedVariables false

set_option maxHeartbeats 1600000 in
set_option maxRecDepth 100000 in
theorem walk (a b c : ByteArray) (w : World) (ha : a.size ≤ maxLen) (hb : b.size ≤ maxLen) (hc : c.size ≤ maxLen) :
    Calls Try.prog 6 #[.string a, .string b, .string c] w fun e w' => e = .returned (.bool true) ∧ Below w.heap.size w w' := by
  have HA := Lib.hid ha; clear ha
  have hlx := fewL_le a.data.toList
  obtain ⟨x, hx⟩ : ∃ x, fewL a.data.toList = x := ⟨_, rfl⟩
  rw [hx] at hlx
  have SX : Hid (x.length ≤ 1000000000) := Lib.hid (by omega)
  have HX := Lib.hid hx; clear hx
  have HB := Lib.hid hb; clear hb
  have hly := fewL_le b.data.toList
  obtain ⟨y, hy⟩ : ∃ y, fewL b.data.toList = y := ⟨_, rfl⟩
  rw [hy] at hly
  have SY : Hid (y.length ≤ 1000000000) := Lib.hid (by omega)
  have HY := Lib.hid hy; clear hy
  have HC := Lib.hid hc; clear hc
  have hlz := fewL_le c.data.toList
  obtain ⟨z, hz⟩ : ∃ z, fewL c.data.toList = z := ⟨_, rfl⟩
  rw [hz] at hlz
  have SZ : Hid (z.length ≤ 1000000000) := Lib.hid (by omega)
  have HZ := Lib.hid hz; clear hz
  have B := Lib.hid (Below.refl w.heap.size w)
  have f1 : withinB x y = true → withinB y z = true → withinB x z = true := within_trans
  have f2 : withinB x y = true → withinB y x = true → x = y := within_anti
  have f3 : withinB x z = true → withinB y z = true → withinB x y = true ∨ withinB y x = true := within_line
  have f4 : withinB x y = true → pathB x = true := fun h => ((withinB_iff x y).1 h).1
  have f5 : withinB y x = true → pathB x = true := fun h => ((withinB_iff y x).1 h).2.1
  have f6 := mk_beq x y
  obtain ⟨xy, h1⟩ : ∃ r, withinB x y = r := ⟨_, rfl⟩
  obtain ⟨yx, h2⟩ : ∃ r, withinB y x = r := ⟨_, rfl⟩
  obtain ⟨yz, h3⟩ : ∃ r, withinB y z = r := ⟨_, rfl⟩
  obtain ⟨xz, h4⟩ : ∃ r, withinB x z = r := ⟨_, rfl⟩
  obtain ⟨mx, h5⟩ : ∃ r, pathB x = r := ⟨_, rfl⟩
  rw [h1, h3, h4] at f1; rw [h1, h2] at f2; rw [h4, h3, h1, h2] at f3; rw [h1, h5] at f4; rw [h2, h5] at f5
  have f7 : (xy = false ∨ yz = false ∨ xz = true) ∧ (xy = false ∨ yx = false ∨ ((mkB x).toList == (mkB y).toList) = true) ∧ (xz = false ∨ yz = false ∨ xy = true ∨ yx = true) ∧ (mx = true ∨ (xy = false ∧ yx = false)) := by
    refine ⟨?_, ?_, ?_, ?_⟩
    · cases xy <;> cases yz <;> simp_all
    · cases xy <;> cases yx <;> simp_all
    · cases xz <;> cases yz <;> simp_all
    · cases mx <;> cases xy <;> cases yx <;> simp_all
  have H1 := Lib.hid h1; have H2 := Lib.hid h2; have H3 := Lib.hid h3; have H4 := Lib.hid h4; have H5 := Lib.hid h5
  clear f1 f2 f3 f4 f5 f6 h1 h2 h3 h4 h5
  obtain ⟨q, hq⟩ : ∃ q, ((mkB x).toList == (mkB y).toList) = q := ⟨_, rfl⟩
  rw [hq] at f7
  have F7 := Lib.hid f7; clear f7
  go_enter Try.func6, Try.ntmps6
  go_wp2_with (first
    | (go_at_call 9; refine (few_ml _ _ (by first | exact HA.out | exact HB.out | exact HC.out)).mono ?_; rintro e w' ⟨rfl, rfl⟩; first | rw [HX.out] | rw [HY.out] | rw [HZ.out])
    | (go_at_call 13; refine (within_m _ _ _ (by first | exact SX.out | exact SY.out | exact SZ.out) (by first | exact SX.out | exact SY.out | exact SZ.out)).mono ?_; rintro e w1 ⟨rfl, hb1⟩; (first | rw [H1.out] | rw [H2.out] | rw [H3.out] | rw [H4.out]); replace B := Lib.hid (below_step B.out hb1); clear hb1)
    | (go_at_call 11; refine (pmay_m x _ SX.out).mono ?_; rintro e w1 ⟨rfl, hb1⟩; rw [H5.out]; replace B := Lib.hid (below_step B.out hb1); clear hb1)
    | (go_at_call 15; refine (awake4_any _).mono ?_; rintro e w1 ⟨rfl, hb1⟩; replace B := Lib.hid (below_step B.out hb1); clear hb1))
  all_goals
    go_ret
    first | exact ⟨rfl, B.out⟩ | (exfalso; have h7 := F7.out; clear H1 H2 H3 H4 H5 F7; simp_all; done)

theorem own : ownKnob Try.prog.godebug = none := by kernel_rfl
theorem laidOut : laidOutB Try.prog = true := by kernel_rfl

set_option maxRecDepth 100000 in
theorem lifted (os : Os) (started : os.Started) (H : Type) (enc : TypeId × Value → H) :
    ReturnsInHanded {} Try.checked os 6 .any (Rows.pathWithinSpec.pre6 enc Try.prog Try.f6 Rows.pathWithinRow.domain false) (Rows.pathWithinSpec.post enc Try.prog Try.f6 false true false false) := by
  refine returnsInHanded_of_change (C := Try.checked) own started (by kernel_rfl) Try.func6
    (ChangeSpec.witness6 (enc := enc) (C := Try.checked) false ⟨#[], #[.string ByteArray.empty, .string ByteArray.empty, .string ByteArray.empty], []⟩ 8 (by kernel_rfl) (by kernel_rfl) (by kernel_rfl) (by kernel_rfl)) ?_
  intro W base args ds gs before hval0 hW hcnd _
  have hval : ∀ (j : Nat) t v, Try.f6.params[j]? = some t → args[j]? = some v → Value.okWide Try.prog W .any base t v := hval0
  have hW' := hW
  obtain ⟨p, q, hA0, hV, rfl, hfz, hnd⟩ := hW
  have hA : DataW.TrodAll enc Try.prog W 0 (fun _ => true) true Try.f6.params.toList args.toList ds p := hA0
  rw [Try.params6] at hA hval
  obtain ⟨v0, vs0, d0, ds0, p0, q0, hargs, rfl, rfl, h0, r0⟩ := trodAll_cons hA
  obtain ⟨v1, vs1, d1, ds1, p1, q1, rfl, rfl, rfl, h1, r1⟩ := trodAll_cons r0
  obtain ⟨v2, vs2, d2, ds2, p2, q2, rfl, rfl, rfl, h2, r2⟩ := trodAll_cons r1
  obtain ⟨rfl, rfl, rfl⟩ := trodAll_nil r2
  obtain rfl : args = #[v0, v1, v2] := by cases args; simp_all
  obtain ⟨rfl, rfl⟩ := trodVars_none hV
  obtain ⟨a0, rfl, rfl, rfl, w0⟩ := open_string Try.underlying9 (hval 0 9 v0 rfl rfl) h0
  obtain ⟨a1, rfl, rfl, rfl, w1⟩ := open_string Try.underlying9 (hval 1 9 v1 rfl rfl) h1
  obtain ⟨a2, rfl, rfl, rfl, w2⟩ := open_string Try.underlying9 (hval 2 9 v2 rfl rfl) h2
  clear hA0 hval0
  refine (walk a0 a1 a2 W w0 w1 w2).mono fun e W' ⟨he, bel⟩ => ?_
  subst he
  exact ⟨_, rfl, _, _, _, [], _, [], hW', trodAll_mk1 (shut_bool Try.underlying4 _), (trodAll_cons_mk (shut_string Try.underlying9 w0) (trodAll_cons_mk (shut_string Try.underlying9 w1) (trodAll_cons_mk (shut_string Try.underlying9 w2) trodAll_mk0))), rfl, bel.frame _, fun h => by cases h⟩

-- the given statement
theorem proved : Rows.PathWithinSaid :=
  OpenClaim.holds_of_wide 6 Try.f6 rfl rfl rfl rfl rfl rfl rfl ⟨rfl, rfl, rfl, rfl, rfl⟩ rfl rfl rfl rfl rfl (by kernel_rfl) Try.func6 (by kernel_rfl)
    (of_decide_eq_true (by kernel_rfl)) (by unfold Func.isWrapper; first | (rw [if_pos (by decide +kernel)]; kernel_rfl) | (rw [if_neg (by decide +kernel)]; exact ⟨rfl, rfl⟩))
    (fun os started H enc _ => lifted os started H enc)
end Go.Proofs.Ytekdgjllnlkfmaa.pathWithin
