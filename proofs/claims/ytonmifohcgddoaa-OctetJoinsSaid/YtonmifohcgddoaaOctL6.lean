/- For every two texts and octet: the parts of both with the octet between them are those of both, one behind the other; no condition. -/
import Derived.Test.YtonmifohcgddoaaRows
import Derived.Test.YtonmifohcgddoaaOctH
import Derived.ProofKit
import Derived.OpenShut
import Derived.ShutString
import Derived.ChangeOld
namespace Go.Proofs.Ytonmifohcgddoaa.octetJoins
open Go.ChangeShapes Go.WideShapes Go.ChangeAt Go.RowKit
open Go.ChangeMaps (open_string shut_string)
set_option linter.unusedVariables false

set_option maxRecDepth 100000 in
set_option maxHeartbeats 1600000 in
theorem walk (a b : ByteArray) (c : Int) (w : World) (ha : a.size ≤ maxLen) (hb : b.size ≤ maxLen) (w0 : (Lit.int .u8 c).wf = true) :
    Calls Try.prog 8 #[.string a, .string b, .int .u8 c] w fun e w' => e = .returned (.bool true) ∧ Below w.heap.size w w' := by
  have HA := Lib.hid ha; have HB := Lib.hid hb; clear ha hb
  obtain ⟨hc0, hc1⟩ := bounds_u8 w0
  clear w0
  have h1 := fewB_size a
  have h2 := fewB_size b
  obtain ⟨x, hx⟩ : ∃ x, x = fewB a := ⟨_, rfl⟩
  obtain ⟨y, hy⟩ : ∃ y, y = fewB b := ⟨_, rfl⟩
  rw [← hx] at h1; rw [← hy] at h2
  have HX := Lib.hid hx; have HY := Lib.hid hy; clear hx hy
  have hsz : (byteS c).size = 1 := rfl
  have hall : (x ++ byteS c ++ y).size ≤ 1000000000 := by rw [cat_size, cat_size, hsz]; omega
  have hspl : splitL c (x ++ byteS c ++ y).data.toList = splitL c x.data.toList ++ splitL c y.data.toList := by
    obtain ⟨e1, e2⟩ := byteS_at c hc0 hc1
    rw [cat_list, cat_list, e1, List.append_assoc]
    exact splitL_cat c _ e2 _ _
  have hlx := splitL_len c x.data.toList
  have hly := splitL_len c y.data.toList
  rw [← Lib.size_eq] at hlx hly
  have HALL := Lib.hid hall; have HSPL := Lib.hid hspl; clear hall hspl
  have B0 := Below.refl w.heap.size w
  have hconv := one_byte c
  go_enter Try.func8, Try.ntmps8
  go_wp2_with (first
    | (go_at_call 10; refine (few_any _ _ (by first | exact HA.out | exact HB.out)).mono ?_; rintro e w' ⟨rfl, rfl⟩; first | rw [← HX.out] | rw [← HY.out]))
  refine (parts_any _ c _ HALL.out).mono ?_
  rintro e w2 ⟨v2, rfl, ho2, hb2⟩
  rw [HSPL.out] at ho2
  have hS2 := Strs.owned ho2
  clear ho2
  have B2 := below_step (B0.alloc (Nat.le_refl _) (.cells #[.int .u8 c] 5)) hb2
  go_wp2_with fail
  refine (parts_any x c _ (by omega)).mono ?_
  rintro e w3 ⟨v3, rfl, ho3, hb3⟩
  have hS3 := Strs.owned ho3
  clear ho3
  obtain ⟨a3, c3, rfl, _, _, _, _⟩ := hS3.ex
  obtain ⟨_, hnil3, hsrc3⟩ := hS3.src
  have HNIL3 := Lib.hid hnil3; have HSRC3 := Lib.hid hsrc3; clear hnil3 hsrc3
  have hown3 := ownsRow_below (World.ownsRow_lit (base := w2.heap.size) (e := 9) (size := 1) w2 #[] 0 (Nat.le_refl _) (by decide) rfl) hb3
  have HO3 := Lib.hid hown3; clear hown3
  have e23 : Below w2.heap.size w2 w3 := below_step ((Below.refl _ _).alloc (Nat.le_refl _) _) hb3
  have B3 := below_step B2 e23
  have hS2' := hS2.below e23
  go_wp2_with (first
    | (at_builtin; refine wpList_append_src rfl (.tmp 22) (.tmp 25) 33 rfl w2.heap.size 9 (.string ByteArray.empty) 1 16 Try.underlying33 Try.info_str rfl (by decide) _ 0 [] rfl HO3.out _ _ c3 ((splitL c x.data.toList).map strV) rfl (by rw [List.length_map, Nat.mul_one]) HNIL3.out HSRC3.out (strs_one _) (by omega) (by unfold maxLen; omega) e23.size ?_; intro v4 w4 ho4 hb4; rw [List.nil_append] at ho4; have HO4 := Lib.hid ho4; clear ho4))
  have e24 := e23.trans hb4
  refine (parts_any y c _ (by omega)).mono ?_
  rintro e w5 ⟨v5, rfl, ho5, hb5⟩
  have hS5 := Strs.owned ho5
  clear ho5
  obtain ⟨a5, c5, rfl, _, _, _, _⟩ := hS5.ex
  obtain ⟨_, hnil5, hsrc5⟩ := hS5.src
  have HNIL5 := Lib.hid hnil5; have HSRC5 := Lib.hid hsrc5; clear hnil5 hsrc5
  have HO5 := Lib.hid (ownsRow_below HO4.out hb5)
  have e25 := below_step e24 hb5
  go_wp2_with (first
    | (at_builtin; refine wpList_append_src rfl (.tmp 26) (.tmp 29) 33 rfl w2.heap.size 9 (.string ByteArray.empty) 1 16 Try.underlying33 Try.info_str rfl (by decide) _ _ _ rfl HO5.out _ _ c5 ((splitL c y.data.toList).map strV) rfl (by rw [List.length_map, Nat.mul_one]) HNIL5.out HSRC5.out (strs_one _) (by omega) (by unfold maxLen; omega) e25.size ?_; intro v6 w6 ho6 hb6; have HO6 := Lib.hid ho6; clear ho6))
  have e26 := e25.trans hb6
  have hS6 : Strs w6 v6 (splitL c x.data.toList ++ splitL c y.data.toList) := Strs.owned (by simpa using HO6.out)
  have hS26 := hS2.below e26
  have B6 := below_step B2 e26
  refine (same_any _ _ _ _ _ hS26 hS6).mono ?_
  rintro e w7 ⟨rfl, hq⟩
  rw [sameB_refl]
  have B7 := below_step B6 (below_q hq)
  clear hq
  go_wp2_with (go_at_call 17; refine (awake_any _).mono ?_; rintro e w9 ⟨rfl, hb9⟩; have B9 := below_step B7 hb9)
  go_ret
  exact ⟨rfl, B9⟩

theorem own : ownKnob Try.prog.godebug = none := by kernel_rfl
theorem laidOut : laidOutB Try.prog = true := by kernel_rfl

set_option maxRecDepth 100000 in
theorem lifted (os : Os) (started : os.Started) (H : Type) (enc : TypeId × Value → H) :
    ReturnsInHanded {} Try.checked os 8 .any (Rows.octetJoinsSpec.pre6 enc Try.prog Try.f8 Rows.octetJoinsRow.domain false) (Rows.octetJoinsSpec.post enc Try.prog Try.f8 false true false false) := by
  refine returnsInHanded_of_change (C := Try.checked) own started (by kernel_rfl) Try.func8
    (ChangeSpec.witness6 (enc := enc) (C := Try.checked) false ⟨#[], #[.string ByteArray.empty, .string ByteArray.empty, .int .u8 0], []⟩ 8 (by kernel_rfl) (by kernel_rfl) (by kernel_rfl) (by kernel_rfl)) ?_
  intro W base args ds gs before hval0 hW hcnd _
  have hval : ∀ (j : Nat) t v, Try.f8.params[j]? = some t → args[j]? = some v → Value.okWide Try.prog W .any base t v := hval0
  have hW' := hW
  obtain ⟨p, q, hA0, hV, rfl, hfz, hnd⟩ := hW
  have hA : DataW.TrodAll enc Try.prog W 0 (fun _ => true) true Try.f8.params.toList args.toList ds p := hA0
  rw [Try.params8] at hA hval
  obtain ⟨v0, vs0, d0, ds0, p0, q0, hargs, rfl, rfl, h0, r0⟩ := trodAll_cons hA
  obtain ⟨v1, vs1, d1, ds1, p1, q1, rfl, rfl, rfl, h1, r1⟩ := trodAll_cons r0
  obtain ⟨v2, vs2, d2, ds2, p2, q2, rfl, rfl, rfl, h2, r2⟩ := trodAll_cons r1
  obtain ⟨rfl, rfl, rfl⟩ := trodAll_nil r2
  obtain rfl : args = #[v0, v1, v2] := by cases args; simp_all
  obtain ⟨rfl, rfl⟩ := trodVars_none hV
  obtain ⟨a0, rfl, rfl, rfl, w0⟩ := open_string Try.underlying9 (hval 0 9 v0 rfl rfl) h0
  obtain ⟨a1, rfl, rfl, rfl, w1⟩ := open_string Try.underlying9 (hval 1 9 v1 rfl rfl) h1
  obtain ⟨a2, rfl, rfl, rfl, w2⟩ := open_int Try.underlying5 (hval 2 5 v2 rfl rfl) h2
  clear hA0 hval0
  refine (walk a0 a1 a2 W w0 w1 w2).mono fun e W' ⟨he, bel⟩ => ?_
  subst he
  exact ⟨_, rfl, _, _, _, [], _, [], hW', trodAll_mk1 (shut_bool Try.underlying4 _), (trodAll_cons_mk (shut_string Try.underlying9 w0) (trodAll_cons_mk (shut_string Try.underlying9 w1) (trodAll_cons_mk (shut_int Try.underlying5 w2) trodAll_mk0))), rfl, bel.frame _, fun h => by cases h⟩

-- the given statement
theorem proved : Rows.OctetJoinsSaid :=
  OpenClaim.holds_of_wide 8 Try.f8 rfl rfl rfl rfl rfl rfl rfl ⟨rfl, rfl, rfl, rfl, rfl⟩ rfl rfl rfl rfl rfl (by kernel_rfl) Try.func8 (by kernel_rfl)
    (of_decide_eq_true (by kernel_rfl)) (by unfold Func.isWrapper; first | (rw [if_pos (by decide +kernel)]; kernel_rfl) | (rw [if_neg (by decide +kernel)]; exact ⟨rfl, rfl⟩))
    (fun os started H enc _ => lifted os started H enc)
end Go.Proofs.Ytonmifohcgddoaa.octetJoins
