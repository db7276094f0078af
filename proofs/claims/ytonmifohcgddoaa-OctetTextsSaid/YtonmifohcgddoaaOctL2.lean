/- For every two texts and octet: the order of the texts, how many octets they begin with together, and the first one's parts, are the document's; no condition. -/
import Derived.Test.YtonmifohcgddoaaRows
import Derived.Test.YtonmifohcgddoaaOctH
import Derived.ProofKit
import Derived.OpenShut
import Derived.ShutString
import Derived.ChangeOld
namespace Go.Proofs.Ytonmifohcgddoaa.octetTexts
open Go.ChangeShapes Go.WideShapes Go.ChangeAt Go.RowKit
open Go.ChangeMaps (open_string shut_string)
set_option linter.unusedVariables false

set_option maxHeartbeats 1000000 in
theorem walk (a b : ByteArray) (c : Int) (w : World) (ha : a.size ≤ maxLen) (hb : b.size ≤ maxLen) (w0 : (Lit.int .u8 c).wf = true) :
    Calls Try.prog 4 #[.string a, .string b, .int .u8 c] w fun e w' => e = .returned (.bool true) ∧ Below w.heap.size w w' := by
  have HA := Lib.hid ha; have HB := Lib.hid hb; clear ha hb w0
  have h1 := fewB_size a
  have h2 := fewB_size b
  obtain ⟨x, hx⟩ : ∃ x, x = fewB a := ⟨_, rfl⟩
  obtain ⟨y, hy⟩ : ∃ y, y = fewB b := ⟨_, rfl⟩
  rw [← hx] at h1; rw [← hy] at h2
  have HX := Lib.hid hx; have HY := Lib.hid hy; clear hx hy
  have hxm : x.size ≤ maxLen := by unfold maxLen; omega
  have hym : y.size ≤ maxLen := by unfold maxLen; omega
  have HXM := Lib.hid hxm; have HYM := Lib.hid hym; clear hxm hym
  obtain ⟨m, hm⟩ : ∃ m, m = comL x.data.toList y.data.toList := ⟨_, rfl⟩
  obtain ⟨m1, m2⟩ := com_bd x y m hm
  have m3 := com_ext x y m hm
  have m4 := com_at x y m hm
  have HM4 := Lib.hid m4
  have HMM := Lib.hid hm; clear hm m4
  have d0 : decide ((m : Int) < 0) = false := by simp
  have d1 : decide (x.size < m) = false := by simpa using m1
  have d2 : decide (y.size < m) = false := by simpa using m2
  have hh : (∃ (h1 : m < x.size) (h2 : m < y.size), ((x[m].toNat : Int) == (y[m].toNat : Int)) = false) ∨ (m < x.size ∧ decide (m < y.size) = false) ∨ decide (m < x.size) = false := by
    by_cases c1 : m < x.size
    · by_cases c2 : m < y.size
      · exact .inl ⟨c1, c2, HM4.out c1 c2⟩
      · exact .inr (.inl ⟨c1, by simpa using c2⟩)
    · exact .inr (.inr (by simpa using c1))
  rcases hh with ⟨c1, c2, m4⟩ | ⟨c1, m4⟩ | m4
  all_goals
    go_enter Try.func4, Try.ntmps4
    go_wp2_with (first
      | (go_at_call 10; refine (few_any _ _ (by first | exact HA.out | exact HB.out)).mono ?_; rintro e w' ⟨rfl, rfl⟩; first | rw [← HX.out] | rw [← HY.out])
      | (go_at_call 18; refine (common_any x y _ HXM.out HYM.out).mono ?_; rintro e w1 ⟨rfl, hq⟩; rw [← HMM.out]; have hB1 := below_q hq; clear hq))
    go_quiet (fail)
    have hB1' : Below w.heap.size w (w1.drewN nq) := below_step hB1 (below_q ⟨nq, rfl⟩)
    generalize w1.drewN nq = w1q at hB1' ⊢
    go_wp2_with (first
      | (go_at_call 19; refine (cmp_any x y _).mono ?_; rintro e w' ⟨rfl, rfl⟩)
      | (go_at_call 20; refine (refcmp_any x y _ HXM.out HYM.out).mono ?_; rintro e w2 ⟨rfl, hq⟩; have hb2 := below_q hq; clear hq; have hB2 := below_step hB1' hb2)
      | (go_at_call 22; refine (parts_any x c _ (by omega)).mono ?_; rintro e w3 ⟨v3, rfl, ho3, hb3⟩; have hS3 := Strs.owned ho3; clear ho3; have hB3 := below_step hB2 hb3)
      | (go_at_call 23; refine (refparts_any x c _ (by omega)).mono ?_; rintro e w4 ⟨v4, rfl, ho4, hb4⟩; have hS4 := Strs.owned ho4; clear ho4; have hT4 := hS3.below hb4; have hB4 := below_step hB3 hb4)
      | (go_at_call 21; refine (same_any _ _ _ _ _ hT4 hS4).mono ?_; rintro e w5 ⟨rfl, hq⟩; rw [sameB_refl]; have hb5 := below_q hq; clear hq; have hB5 := below_step hB4 hb5)
      | (go_at_call 17; refine (awake_any _).mono ?_; rintro e w6 ⟨rfl, hb6⟩; have hB6 := below_step hB5 hb6))
    go_ret
    exact ⟨rfl, hB6⟩

theorem own : ownKnob Try.prog.godebug = none := by kernel_rfl
theorem laidOut : laidOutB Try.prog = true := by kernel_rfl

set_option maxRecDepth 100000 in
theorem lifted (os : Os) (started : os.Started) (H : Type) (enc : TypeId × Value → H) :
    ReturnsInHanded {} Try.checked os 4 .any (Rows.octetTextsSpec.pre6 enc Try.prog Try.f4 Rows.octetTextsRow.domain false) (Rows.octetTextsSpec.post enc Try.prog Try.f4 false true false false) := by
  refine returnsInHanded_of_change (C := Try.checked) own started (by kernel_rfl) Try.func4
    (ChangeSpec.witness6 (enc := enc) (C := Try.checked) false ⟨#[], #[.string ByteArray.empty, .string ByteArray.empty, .int .u8 0], []⟩ 8 (by kernel_rfl) (by kernel_rfl) (by kernel_rfl) (by kernel_rfl)) ?_
  intro W base args ds gs before hval0 hW hcnd _
  have hval : ∀ (j : Nat) t v, Try.f4.params[j]? = some t → args[j]? = some v → Value.okWide Try.prog W .any base t v := hval0
  have hW' := hW
  obtain ⟨p, q, hA0, hV, rfl, hfz, hnd⟩ := hW
  have hA : DataW.TrodAll enc Try.prog W 0 (fun _ => true) true Try.f4.params.toList args.toList ds p := hA0
  rw [Try.params4] at hA hval
  obtain ⟨v0, vs0, d0, ds0, p0, q0, hargs, rfl, rfl, h0, r0⟩ := trodAll_cons hA
  obtain ⟨v1, vs1, d1, ds1, p1, q1, rfl, rfl, rfl, h1, r1⟩ := trodAll_cons r0
  obtain ⟨v2, vs2, d2, ds2, p2, q2, rfl, rfl, rfl, h2, r2⟩ := trodAll_cons r1
  obtain ⟨rfl, rfl, rfl⟩ := trodAll_nil r2
  obtain rfl : args = #[v0, v1, v2] := by cases args; simp_all
  obtain ⟨rfl, rfl⟩ := trodVars_none hV
  obtain ⟨a0, rfl, rfl, rfl, w0⟩ := open_string Try.underlying9 (hval 0 9 v0 rfl rfl) h0
  obtain ⟨a1, rfl, rfl, rfl, w1⟩ := open_string Try.underlying9 (hval 1 9 v1 rfl rfl) h1
  obtain ⟨a2, rfl, rfl, rfl, w2⟩ := open_int Try.underlying5 (hval 2 5 v2 rfl rfl) h2
  clear hA0 hval0
  refine (walk a0 a1 a2 W w0 w1 w2).mono fun e W' ⟨he, bel⟩ => ?_
  subst he
  exact ⟨_, rfl, _, _, _, [], _, [], hW', trodAll_mk1 (shut_bool Try.underlying4 _), (trodAll_cons_mk (shut_string Try.underlying9 w0) (trodAll_cons_mk (shut_string Try.underlying9 w1) (trodAll_cons_mk (shut_int Try.underlying5 w2) trodAll_mk0))), rfl, bel.frame _, fun h => by cases h⟩

-- the given statement
theorem proved : Rows.OctetTextsSaid :=
  OpenClaim.holds_of_wide 4 Try.f4 rfl rfl rfl rfl rfl rfl rfl ⟨rfl, rfl, rfl, rfl, rfl⟩ rfl rfl rfl rfl rfl (by kernel_rfl) Try.func4 (by kernel_rfl)
    (of_decide_eq_true (by kernel_rfl)) (by unfold Func.isWrapper; first | (rw [if_pos (by decide +kernel)]; kernel_rfl) | (rw [if_neg (by decide +kernel)]; exact ⟨rfl, rfl⟩))
    (fun os started H enc _ => lifted os started H enc)
end Go.Proofs.Ytonmifohcgddoaa.octetTexts
