/- Of every three texts order goes one way, is turned about, and is the same behind a common beginning; no condition. -/
import Derived.Test.YtonmifohcgddoaaRows
import Derived.Test.YtonmifohcgddoaaOctH
import Derived.ProofKit
import Derived.OpenShut
import Derived.ShutString
import Derived.ChangeOld
namespace Go.Proofs.Ytonmifohcgddoaa.octetOrder
open Go.ChangeShapes Go.WideShapes Go.ChangeAt Go.RowKit
open Go.ChangeMaps (open_string shut_string)
set_option linter.unusedVariables false

set_option maxRecDepth 100000 in
set_option maxHeartbeats 1600000 in
theorem walk (a b c : ByteArray) (w : World) (ha : a.size ≤ maxLen) (hb : b.size ≤ maxLen) (hc : c.size ≤ maxLen) :
    Calls Try.prog 6 #[.string a, .string b, .string c] w fun e w' => e = .returned (.bool true) ∧ Below w.heap.size w w' := by
  have HA := Lib.hid ha; have HB := Lib.hid hb; have HC := Lib.hid hc; clear ha hb hc
  have h1 := fewB_size a
  have h2 := fewB_size b
  have h3 := fewB_size c
  obtain ⟨x, hx⟩ : ∃ x, x = fewB a := ⟨_, rfl⟩
  obtain ⟨y, hy⟩ : ∃ y, y = fewB b := ⟨_, rfl⟩
  obtain ⟨z, hz⟩ : ∃ z, z = fewB c := ⟨_, rfl⟩
  rw [← hx] at h1; rw [← hy] at h2; rw [← hz] at h3
  have HX := Lib.hid hx; have HY := Lib.hid hy; have HZ := Lib.hid hz; clear hx hy hz
  obtain ⟨p, hp⟩ : ∃ p, Lib.compareBytes x.data.toList y.data.toList = p := ⟨_, rfl⟩
  obtain ⟨q, hq⟩ : ∃ q, Lib.compareBytes y.data.toList z.data.toList = q := ⟨_, rfl⟩
  obtain ⟨r, hr⟩ : ∃ r, Lib.compareBytes x.data.toList z.data.toList = r := ⟨_, rfl⟩
  have hv := cb_vals x.data.toList y.data.toList
  have ht := cb_trans x.data.toList y.data.toList z.data.toList
  rw [hp] at hv
  rw [hp, hq, hr] at ht
  have hs : Lib.compareBytes y.data.toList x.data.toList = -p := by rw [cb_swap, hp]
  have heq : (x.toList == y.toList) = (p == 0) := by
    rw [Lib.toList_data, Lib.toList_data, ← hp, Bool.eq_iff_iff, beq_iff_eq, beq_iff_eq, cb_eq]
  have hpre : Lib.compareBytes (z ++ x).data.toList (z ++ y).data.toList = p := by
    rw [← hp, cat_list, cat_list]; exact cb_pre _ _ _
  have hext : y.size ≠ 0 → Lib.compareBytes x.data.toList (x ++ y).data.toList = -1 := by
    intro h
    rw [cat_list]
    refine cb_ext _ _ fun e => h ?_
    rw [Lib.size_eq, e]; rfl
  obtain ⟨m, hm⟩ : ∃ m, comL x.data.toList y.data.toList = m := ⟨_, rfl⟩
  have hcom : comL (z ++ x).data.toList (z ++ y).data.toList = z.size + m := by rw [cat_list, cat_list, comL_pre, hm, Lib.size_eq]
  have hmb : m ≤ x.size := by have := (comL_le x.data.toList y.data.toList).1; rw [hm, ← Lib.size_eq] at this; exact this
  have HP := Lib.hid hp; have HQ := Lib.hid hq; have HR := Lib.hid hr; have HS := Lib.hid hs; have HPR := Lib.hid hpre; have HE := Lib.hid hext; have HM := Lib.hid hm; have HCM := Lib.hid hcom
  clear hp hq hr hs hpre hext hm hcom
  have HZX : Hid ((z ++ x).size ≤ maxLen) := Lib.hid (by rw [cat_size]; unfold maxLen; omega)
  have HZY : Hid ((z ++ y).size ≤ maxLen) := Lib.hid (by rw [cat_size]; unfold maxLen; omega)
  have HXM : Hid (x.size ≤ maxLen) := Lib.hid (by unfold maxLen; omega)
  have HYM : Hid (y.size ≤ maxLen) := Lib.hid (by unfold maxLen; omega)
  have hcase : (decide (p ≤ 0) = false ∧ decide (p < 0) = false) ∨ (decide (p ≤ 0) = true ∧ decide (q ≤ 0) = false) ∨ (decide (p ≤ 0) = true ∧ decide (q ≤ 0) = true ∧ decide (0 < r) = false ∧ decide (p < 0) = true ∧ decide (0 ≤ r) = false) ∨ (decide (p ≤ 0) = true ∧ decide (q ≤ 0) = true ∧ decide (0 < r) = false ∧ decide (p < 0) = false) := by
    simp only [decide_eq_false_iff_not, decide_eq_true_eq]
    omega
  have hp1 : -1 ≤ p := by omega
  have hp2 : p ≤ 1 := by omega
  clear ht hv
  have hye : y.toList.isEmpty = true ∨ (y.toList.isEmpty = false ∧ Hid (y.size ≠ 0)) := by
    rw [Lib.toList_data, Lib.size_eq]
    cases e : y.data.toList with
    | nil => exact .inl rfl
    | cons u l => exact .inr ⟨rfl, Lib.hid (by simp)⟩
  have B0 := Below.refl w.heap.size w
  rcases hcase with ⟨c1, c2⟩ | ⟨c1, c2⟩ | ⟨c1, c2, c3, c4, c5⟩ | ⟨c1, c2, c3, c4⟩ <;> rcases hye with hye | ⟨hye, HYE⟩
  all_goals
    go_enter Try.func6, Try.ntmps6
    go_wp2_with (first
      | (go_at_call 10; refine (few_any _ _ (by first | exact HA.out | exact HB.out | exact HC.out)).mono ?_; rintro e w' ⟨rfl, rfl⟩; first | rw [← HX.out] | rw [← HY.out] | rw [← HZ.out])
      | (go_at_call 19; refine (cmp_any _ _ _).mono ?_; rintro e w' ⟨rfl, rfl⟩; first | rw [HP.out] | rw [HQ.out] | rw [HR.out] | rw [HS.out] | rw [HPR.out] | rw [HE.out HYE.out])
      | (go_at_call 18; refine (common_any _ _ _ (by first | exact HZX.out | exact HXM.out) (by first | exact HZY.out | exact HYM.out)).mono ?_; rintro e w1 ⟨rfl, hq⟩; have B1 := below_step (by assumption) (below_q hq); clear hq; first | rw [HCM.out] | rw [HM.out])
      | (go_at_call 17; refine (awake_any _).mono ?_; rintro e w6 ⟨rfl, hb6⟩; have B6 := below_step (by assumption) hb6))
    all_goals
      go_ret
      exact ⟨rfl, by assumption⟩

theorem own : ownKnob Try.prog.godebug = none := by kernel_rfl
theorem laidOut : laidOutB Try.prog = true := by kernel_rfl

set_option maxRecDepth 100000 in
theorem lifted (os : Os) (started : os.Started) (H : Type) (enc : TypeId × Value → H) :
    ReturnsInHanded {} Try.checked os 6 .any (Rows.octetOrderSpec.pre6 enc Try.prog Try.f6 Rows.octetOrderRow.domain false) (Rows.octetOrderSpec.post enc Try.prog Try.f6 false true false false) := by
  refine returnsInHanded_of_change (C := Try.checked) own started (by kernel_rfl) Try.func6
    (ChangeSpec.witness6 (enc := enc) (C := Try.checked) false ⟨#[], #[.string ByteArray.empty, .string ByteArray.empty, .string ByteArray.empty], []⟩ 8 (by kernel_rfl) (by kernel_rfl) (by kernel_rfl) (by kernel_rfl)) ?_
  intro W base args ds gs before hval0 hW hcnd _
  have hval : ∀ (j : Nat) t v, Try.f6.params[j]? = some t → args[j]? = some v → Value.okWide Try.prog W .any base t v := hval0
  have hW' := hW
  obtain ⟨p, q, hA0, hV, rfl, hfz, hnd⟩ := hW
  have hA : DataW.TrodAll enc Try.prog W 0 (fun _ => true) true Try.f6.params.toList args.toList ds p := hA0
  rw [Try.params6] at hA hval
  obtain ⟨v0, vs0, d0, ds0, p0, q0, hargs, rfl, rfl, h0, r0⟩ := trodAll_cons hA
  obtain ⟨v1, vs1, d1, ds1, p1, q1, rfl, rfl, rfl, h1, r1⟩ := trodAll_cons r0
  obtain ⟨v2, vs2, d2, ds2, p2, q2, rfl, rfl, rfl, h2, r2⟩ := trodAll_cons r1
  obtain ⟨rfl, rfl, rfl⟩ := trodAll_nil r2
  obtain rfl : args = #[v0, v1, v2] := by cases args; simp_all
  obtain ⟨rfl, rfl⟩ := trodVars_none hV
  obtain ⟨a0, rfl, rfl, rfl, w0⟩ := open_string Try.underlying9 (hval 0 9 v0 rfl rfl) h0
  obtain ⟨a1, rfl, rfl, rfl, w1⟩ := open_string Try.underlying9 (hval 1 9 v1 rfl rfl) h1
  obtain ⟨a2, rfl, rfl, rfl, w2⟩ := open_string Try.underlying9 (hval 2 9 v2 rfl rfl) h2
  clear hA0 hval0
  refine (walk a0 a1 a2 W w0 w1 w2).mono fun e W' ⟨he, bel⟩ => ?_
  subst he
  exact ⟨_, rfl, _, _, _, [], _, [], hW', trodAll_mk1 (shut_bool Try.underlying4 _), (trodAll_cons_mk (shut_string Try.underlying9 w0) (trodAll_cons_mk (shut_string Try.underlying9 w1) (trodAll_cons_mk (shut_string Try.underlying9 w2) trodAll_mk0))), rfl, bel.frame _, fun h => by cases h⟩

-- the given statement
theorem proved : Rows.OctetOrderSaid :=
  OpenClaim.holds_of_wide 6 Try.f6 rfl rfl rfl rfl rfl rfl rfl ⟨rfl, rfl, rfl, rfl, rfl⟩ rfl rfl rfl rfl rfl (by kernel_rfl) Try.func6 (by kernel_rfl)
    (of_decide_eq_true (by kernel_rfl)) (by unfold Func.isWrapper; first | (rw [if_pos (by decide +kernel)]; kernel_rfl) | (rw [if_neg (by decide +kernel)]; exact ⟨rfl, rfl⟩))
    (fun os started H enc _ => lifted os started H enc)
end Go.Proofs.Ytonmifohcgddoaa.octetOrder
