/- Every octet is of just one class, and of its own; of all classes every text is, of none the empty one alone; no condition. -/
import Derived.Test.YtonmifohcgddoaaRows
import Derived.Test.YtonmifohcgddoaaOctH
import Derived.ProofKit
import Derived.OpenShut
import Derived.ShutString
import Derived.ChangeOld
namespace Go.Proofs.Ytonmifohcgddoaa.octetOne
open Go.ChangeShapes Go.WideShapes Go.ChangeAt Go.RowKit
open Go.ChangeMaps (open_string shut_string)
set_option linter.unusedVariables false

set_option maxRecDepth 100000 in
set_option maxHeartbeats 1600000 in
theorem walk (c : Int) (s : ByteArray) (w : World) (w0 : (Lit.int .u8 c).wf = true) (hs : s.size ≤ maxLen) :
    Calls Try.prog 7 #[.int .u8 c, .string s] w fun e w' => e = .returned (.bool true) ∧ Below w.heap.size w w' := by
  obtain ⟨hc0, hc1⟩ := bounds_u8 w0
  have HS := Lib.hid hs; clear hs w0
  have h1 := fewB_size s
  obtain ⟨x, hx⟩ : ∃ x, x = fewB s := ⟨_, rfl⟩
  rw [← hx] at h1
  have HX := Lib.hid hx; clear hx
  have HXM : Hid (x.size ≤ maxLen) := Lib.hid (by unfold maxLen; omega)
  have hcl := clsI_bd c hc0 (by omega)
  obtain ⟨y, hy⟩ : ∃ y, clsI c = y := ⟨_, rfl⟩
  rw [hy] at hcl
  obtain ⟨hy0, hy1⟩ := hcl
  have HY := Lib.hid hy; clear hy
  go_enter Try.func7, Try.ntmps7
  go_wp2_with (first
      | (go_at_call 10; refine (few_any _ _ HS.out).mono ?_; rintro e w' ⟨rfl, rfl⟩; rw [← HX.out]))
  go_loopw [5, 6] (fun m i wr => ∃ k : Int, -1 ≤ k ∧ k ≤ 11 ∧ i = .int .i64 k ∧ m = .int .i64 (if y < k then 1 else 0) ∧ Below w.heap.size w wr) (fun _ i _ => (11 - intOf i).toNat)
  case atStart => exact ⟨-1, by omega, by omega, rfl, by rw [if_neg (by omega)], Below.refl _ _⟩
  case round =>
    obtain ⟨k, hk0, hk1, rfl, rfl, hB⟩ := hrel
    by_cases hlt : k < 11
    · by_cases hh : y = k
      · have hd : hasB [k] y = true := by rw [hasB_one]; simpa using hh
        have hm : (if y < k then (1 : Int) else 0) = 0 := by rw [if_neg (by omega)]
        have hm2 : (1 : Int) = if y < k + 1 then 1 else 0 := by rw [if_pos (by omega)]
        have HD := Lib.hid hd; have HM2 := Lib.hid hm2; clear hd hm2
        rw [hm]
        clear hm
        clear hh
        go_wp2_with (go_at_call 13; refine (in_any c hc0 (by omega) _ _ _ (Ints.lit1 _ _ _)).mono ?_; rintro e w1 ⟨rfl, hb1⟩; rw [HY.out, HD.out]; have hB1 := below_step (hB.alloc hB.size _) hb1; clear hb1)
        go_roundw
        case rel => exact ⟨k + 1, by omega, by omega, by go_num, by rw [← HM2.out], hB1⟩
        case measure => simp [intOf]; omega
      · have hd : hasB [k] y = false := by rw [hasB_one]; simpa using hh
        have hm2 : (if y < k then (1 : Int) else 0) = if y < k + 1 then 1 else 0 := by
          by_cases h9 : y < k
          · rw [if_pos h9, if_pos (by omega)]
          · rw [if_neg h9, if_neg (by omega)]
        have HD := Lib.hid hd; clear hd
        rw [hm2]
        obtain ⟨m2, hm3⟩ : ∃ m2, m2 = if y < k + 1 then (1 : Int) else 0 := ⟨_, rfl⟩
        rw [← hm3]
        have HM3 := Lib.hid hm3; clear hm2 hm3 hh
        go_wp2_with (go_at_call 13; refine (in_any c hc0 (by omega) _ _ _ (Ints.lit1 _ _ _)).mono ?_; rintro e w1 ⟨rfl, hb1⟩; rw [HY.out, HD.out]; have hB1 := below_step (hB.alloc hB.size _) hb1; clear hb1)
        go_roundw
        case rel => exact ⟨k + 1, by omega, by omega, by go_num, by rw [← HM3.out], hB1⟩
        case measure => simp [intOf]; omega
    · rw [if_pos (by omega)]
      have hd : hasB [y] y = true := by rw [hasB_one]; simp
      have HD := Lib.hid hd; clear hd
      go_wp2_with (first
        | (go_at_call 11; refine (class_any c hc0 (by omega) _).mono ?_; rintro e w1 ⟨rfl, hb1⟩; rw [HY.out]; have hB1 := below_step hB hb1)
        | (go_at_call 13; refine (in_any c hc0 (by omega) _ _ _ (Ints.lit1 _ _ _)).mono ?_; rintro e w2 ⟨rfl, hb2⟩; rw [HY.out, HD.out]; have hB2 := below_step (hB1.alloc hB1.size _) hb2))
      refine (all_any x HXM.out _ [0, 1, 2, 3, 4, 5, 6, 7, 8, 9] _ (Ints.lit _ _ _ _ rfl (by decide))).mono ?_
      rintro e w3 ⟨rfl, hb3⟩
      rw [allB_ten]
      have hB3 := below_step (hB2.alloc hB2.size _) hb3
      go_wp2_with fail
      refine (all_any x HXM.out _ [] _ (Ints.nil _)).mono ?_
      rintro e w4 ⟨rfl, hb4⟩
      rw [allB_nil, ← Lib.toList_data]
      have hB4 := below_step hB3 hb4
      go_wp2_with (go_at_call 17; refine (awake_any _).mono ?_; rintro e w6 ⟨rfl, hb6⟩; have B6 := below_step hB4 hb6)
      go_ret
      exact ⟨rfl, B6⟩

theorem own : ownKnob Try.prog.godebug = none := by kernel_rfl
theorem laidOut : laidOutB Try.prog = true := by kernel_rfl

set_option maxRecDepth 100000 in
theorem lifted (os : Os) (started : os.Started) (H : Type) (enc : TypeId × Value → H) :
    ReturnsInHanded {} Try.checked os 7 .any (Rows.octetOneSpec.pre6 enc Try.prog Try.f7 Rows.octetOneRow.domain false) (Rows.octetOneSpec.post enc Try.prog Try.f7 false true false false) := by
  refine returnsInHanded_of_change (C := Try.checked) own started (by kernel_rfl) Try.func7
    (ChangeSpec.witness6 (enc := enc) (C := Try.checked) false ⟨#[], #[.int .u8 0, .string ByteArray.empty], []⟩ 8 (by kernel_rfl) (by kernel_rfl) (by kernel_rfl) (by kernel_rfl)) ?_
  intro W base args ds gs before hval0 hW hcnd _
  have hval : ∀ (j : Nat) t v, Try.f7.params[j]? = some t → args[j]? = some v → Value.okWide Try.prog W .any base t v := hval0
  have hW' := hW
  obtain ⟨p, q, hA0, hV, rfl, hfz, hnd⟩ := hW
  have hA : DataW.TrodAll enc Try.prog W 0 (fun _ => true) true Try.f7.params.toList args.toList ds p := hA0
  rw [Try.params7] at hA hval
  obtain ⟨v0, vs0, d0, ds0, p0, q0, hargs, rfl, rfl, h0, r0⟩ := trodAll_cons hA
  obtain ⟨v1, vs1, d1, ds1, p1, q1, rfl, rfl, rfl, h1, r1⟩ := trodAll_cons r0
  obtain ⟨rfl, rfl, rfl⟩ := trodAll_nil r1
  obtain rfl : args = #[v0, v1] := by cases args; simp_all
  obtain ⟨rfl, rfl⟩ := trodVars_none hV
  obtain ⟨a0, rfl, rfl, rfl, w0⟩ := open_int Try.underlying5 (hval 0 5 v0 rfl rfl) h0
  obtain ⟨a1, rfl, rfl, rfl, w1⟩ := open_string Try.underlying9 (hval 1 9 v1 rfl rfl) h1
  clear hA0 hval0
  refine (walk a0 a1 W w0 w1).mono fun e W' ⟨he, bel⟩ => ?_
  subst he
  exact ⟨_, rfl, _, _, _, [], _, [], hW', trodAll_mk1 (shut_bool Try.underlying4 _), (trodAll_cons_mk (shut_int Try.underlying5 w0) (trodAll_cons_mk (shut_string Try.underlying9 w1) trodAll_mk0)), rfl, bel.frame _, fun h => by cases h⟩

-- the given statement
theorem proved : Rows.OctetOneSaid :=
  OpenClaim.holds_of_wide 7 Try.f7 rfl rfl rfl rfl rfl rfl rfl ⟨rfl, rfl, rfl, rfl, rfl⟩ rfl rfl rfl rfl rfl (by kernel_rfl) Try.func7 (by kernel_rfl)
    (of_decide_eq_true (by kernel_rfl)) (by unfold Func.isWrapper; first | (rw [if_pos (by decide +kernel)]; kernel_rfl) | (rw [if_neg (by decide +kernel)]; exact ⟨rfl, rfl⟩))
    (fun os started H enc _ => lifted os started H enc)
end Go.Proofs.Ytonmifohcgddoaa.octetOne
