/- A number's text with a 0 ahead is none, nor is one with anything but digits in it, nor an empty one; no condition. -/
import Derived.Test.YtflaopmlmecdcaaRows
import Derived.Test.YtflaopmlmecdcaaNumH
import Derived.ProofKit
import Derived.OpenShut
import Derived.ShutString
import Derived.ChangeOld
namespace Go.Proofs.Ytflaopmlmecdcaa.numberForms
open Go.ChangeShapes Go.WideShapes Go.ChangeAt Go.RowKit
open Go.ChangeMaps (open_string shut_string)
set_option linter.unusedVariables false

theorem byteS_isD (c : Int) (h0 : 0 ≤ c) (h1 : c ≤ 255) : isD (UInt8.ofNat c.toNat) = (decide (48 ≤ c) && decide (c ≤ 57)) := by
  have := (byteS_at c h0 h1).2
  unfold isD
  have e : (UInt8.ofNat c.toNat).toNat = c.toNat := by omega
  rw [e]
  congr 1 <;> rw [decide_eq_decide] <;> omega
theorem ins_no (L : List UInt8) (i : Nat) (d : UInt8) (h : isD d = false) : mayL (L.take i ++ d :: L.drop i) = false := by
  unfold mayL
  rw [List.all_append, List.all_cons, h]
  simp
theorem ins_yes (L : List UInt8) (i : Nat) (d : UInt8) (hi : i ≤ L.length) (hd : isD d = true) (hL : mayL L = true) :
    mayL (L.take i ++ d :: L.drop i) = ((decide (L ≠ [48]) && (decide (0 < i) || decide (d ≠ 48))) || (decide (L = [48]) && (decide (i = 0) && decide (d ≠ 48)))) := by
  have ha := mayL_all hL
  have hn := mayL_ne hL
  have hall : (L.take i ++ d :: L.drop i).all isD = true := by
    rw [List.all_append, List.all_cons, hd, Bool.true_and, ← List.all_append, List.take_append_drop]; exact ha
  have hlen : (L.take i ++ d :: L.drop i).length = L.length + 1 := by simp; omega
  have h1 : decide ((L.take i ++ d :: L.drop i).length = 1) = false := by
    rw [hlen]; have := List.length_pos_iff.2 hn
    exact decide_eq_false (by omega)
  have h2 : (L.take i ++ d :: L.drop i).isEmpty = false := by
    rw [List.isEmpty_eq_false_iff]; simp
  have hm : mayL (L.take i ++ d :: L.drop i) = decide ((L.take i ++ d :: L.drop i).head? ≠ some 48) := by
    unfold mayL; rw [hall, h1, h2]; simp
  rw [hm]
  cases L with
  | nil => exact absurd rfl hn
  | cons e t =>
    by_cases hi0 : i = 0
    · subst hi0
      by_cases hd48 : d = 48
      · subst hd48; simp
      · simp [hd48]
        by_cases he : e = 48
        · cases t with
          | nil => simp [he]
          | cons f u => simp
        · simp [he]
    · obtain ⟨j, rfl⟩ : ∃ j, i = j + 1 := ⟨i - 1, by omega⟩
      simp only [List.take_succ_cons, List.cons_append, List.head?_cons]
      by_cases he : e = 48
      · subst he
        have hL1 : t = [] := by
          cases t with
          | nil => rfl
          | cons f u => have := mayL_head hL (by simp); simp at this
        subst hL1
        simp
      · simp [he]

set_option maxRecDepth 100000 in
set_option maxHeartbeats 6400000 in
theorem walk (a : ByteArray) (k c : Int) (w : World) (ha : a.size ≤ maxLen) (w1 : (Lit.int .u8 k).wf = true) (w2 : (Lit.int .u8 c).wf = true) :
    Calls Try.prog 4 #[.string a, .int .u8 k, .int .u8 c] w fun e w' => e = .returned (.bool true) ∧ Below w.heap.size w w' := by
  have HA := Lib.hid ha; clear ha
  obtain ⟨hk0, hk1⟩ := bounds_u8 w1
  obtain ⟨hc0, hc1⟩ := bounds_u8 w2
  clear w1 w2
  have h1 := fewB_size a
  obtain ⟨x, hx⟩ : ∃ x, x = fewB a := ⟨_, rfl⟩
  rw [← hx] at h1
  have HX := Lib.hid hx; clear hx
  have hsz := Lib.size_eq x
  have HEM : Hid ((ByteArray.mk #[]).size ≤ maxLen) := Lib.hid (by unfold maxLen; decide)
  have HXM : Hid (x.size ≤ maxLen) := Lib.hid (by unfold maxLen; omega)
  have HZX : Hid ((ByteArray.mk #[48] ++ x).size ≤ maxLen) := Lib.hid (by rw [cat_size]; rw [show (ByteArray.mk #[48]).size = 1 from rfl]; unfold maxLen; omega)
  have B0 := Below.refl w.heap.size w
  have MN : Hid (mayL (ByteArray.mk #[]).data.toList = false) := Lib.hid rfl
  have MZ : Hid (mayL (ByteArray.mk #[48] ++ x).data.toList = x.toList.isEmpty) := Lib.hid (by
    rw [cat_list, empty_iff, hsz]
    show mayL (48 :: x.data.toList) = _
    rw [mayL_ahead, decide_eq_decide]
    exact List.length_eq_zero_iff.symm)
  obtain ⟨i, hi, hin⟩ : ∃ i : Nat, Int.tmod k ((x.size : Int) + 1) = i ∧ i ≤ x.size := by
    refine ⟨(Int.tmod k ((x.size : Int) + 1)).toNat, ?_, ?_⟩
    · have := Int.tmod_nonneg ((x.size : Int) + 1) hk0; omega
    · have := Int.tmod_lt_of_pos k (show (0 : Int) < (x.size : Int) + 1 by omega)
      have := Int.tmod_nonneg ((x.size : Int) + 1) hk0; omega
  obtain ⟨y, hy⟩ : ∃ y, y = x.extract 0 i ++ byteS c ++ x.extract i x.size := ⟨_, rfl⟩
  have hyl : y.data.toList = x.data.toList.take i ++ UInt8.ofNat c.toNat :: x.data.toList.drop i := by
    rw [hy, cat_list, cat_list, Lib.extract_eq, Lib.extract_eq]
    simp only [List.drop_zero, Nat.sub_zero]
    rw [List.take_of_length_le (l := x.data.toList.drop i) (by simp)]
    simp [byteS]
  have HWM : Hid (y.size ≤ maxLen) := Lib.hid (by
    rw [Lib.size_eq, hyl]; unfold maxLen; simp; omega)
  have hconv := one_byte_drew c
  have hbs : (byteS c).size = 1 := rfl
  have hl1 : ¬ 9223372036854775807 < i + (byteS c).size := by omega
  by_cases hdig : c < 48 ∨ 57 < c
  · have hd : isD (UInt8.ofNat c.toNat) = false := by rw [byteS_isD c hc0 hc1]; simp; omega
    have MW : Hid (mayL y.data.toList = false) := Lib.hid (by rw [hyl]; exact ins_no _ _ _ hd)
    have HY := Lib.hid hy
    clear hyl hd hy hsz
    rcases hdig with hd | hd
    all_goals
      go_enter Try.func4, Try.ntmps4
      go_wp2_with (first
        | (go_at_call 6; refine (few_any _ _ HA.out).mono ?_; rintro e w' ⟨rfl, rfl⟩; rw [← HX.out])
        | (go_at_call 8; refine (may_any _ _ (by first | exact HEM.out | exact HXM.out | exact HZX.out | exact HWM.out)).mono ?_; rintro e w1 ⟨rfl, hb1⟩; have B1 := below_step (by assumption) hb1; clear hb1; first | rw [MN.out] | rw [MZ.out] | rw [MX.out] | rw [MW.out])
        | (go_at_call 9; refine (awake2_any _).mono ?_; rintro e w6 ⟨rfl, hb6⟩; have B6 := below_step (by assumption) hb6))
      go_region
      have B2 : Below w.heap.size w (World.alloc w1 (.cells #[.int .u8 c] 5)).drew := below_step (B1.alloc (by exact B1.size) (.cells #[.int .u8 c] 5)) (below_q ⟨1, rfl⟩)
      rw [← HY.out]
      generalize (World.alloc w1 (.cells #[.int .u8 c] 5)).drew = w3 at B2 ⊢
      clear B1 hconv
      try have i1 := I1.out
      try have c1 := C1.out
      go_wp2_with (first
        | (go_at_call 8; refine (may_any _ _ (by first | exact HEM.out | exact HXM.out | exact HZX.out | exact HWM.out)).mono ?_; rintro e w1 ⟨rfl, hb1⟩; have B1 := below_step (by assumption) hb1; clear hb1; first | rw [MN.out] | rw [MZ.out] | rw [MX.out] | rw [MW.out])
        | (go_at_call 9; refine (awake2_any _).mono ?_; rintro e w6 ⟨rfl, hb6⟩; have B6 := below_step (by assumption) hb6))
      all_goals
        go_ret
        first | exact ⟨rfl, by assumption⟩ | exact ⟨ret_bool (by simp [C1.out]), by assumption⟩ | (exfalso; simp_all; done) | (exfalso; omega)
  · have hd : isD (UInt8.ofNat c.toNat) = true := by rw [byteS_isD c hc0 hc1]; simp; omega
    obtain ⟨mx, hmx⟩ : ∃ m, mayL x.data.toList = m := ⟨_, rfl⟩
    have MX := Lib.hid hmx; clear hmx
    have hd48 : decide (UInt8.ofNat c.toNat ≠ 48) = (c != 48) := by
      have := (byteS_at c hc0 hc1).2
      rw [Bool.eq_iff_iff, decide_eq_true_eq, bne_iff_ne, ne_eq, ne_eq, ← UInt8.toNat_inj]
      have e2 : (48 : UInt8).toNat = 48 := rfl
      rw [e2]
      constructor <;> intro h e <;> apply h <;> omega
    have hxe : (x.toList == [48]) = decide (x.data.toList = [48]) := by
      rw [Lib.toList_data, Bool.eq_iff_iff, beq_iff_eq, decide_eq_true_eq]
    have hsx := hsz
    have HY := Lib.hid hy
    cases mx
    · obtain ⟨m, hm⟩ : ∃ m, mayL y.data.toList = m := ⟨_, rfl⟩
      have MW := Lib.hid hm
      have hc2 : 48 ≤ c := by omega
      have hc3 : c ≤ 57 := by omega
      clear hm hyl hd hy hsz hdig hd48 hxe hsx
      go_enter Try.func4, Try.ntmps4
      go_wp2_with (first
        | (go_at_call 6; refine (few_any _ _ HA.out).mono ?_; rintro e w' ⟨rfl, rfl⟩; rw [← HX.out])
        | (go_at_call 8; refine (may_any _ _ (by first | exact HEM.out | exact HXM.out | exact HZX.out | exact HWM.out)).mono ?_; rintro e w1 ⟨rfl, hb1⟩; have B1 := below_step (by assumption) hb1; clear hb1; first | rw [MN.out] | rw [MZ.out] | rw [MX.out] | rw [MW.out])
        | (go_at_call 9; refine (awake2_any _).mono ?_; rintro e w6 ⟨rfl, hb6⟩; have B6 := below_step (by assumption) hb6))
      go_region
      have B2 : Below w.heap.size w (World.alloc w1 (.cells #[.int .u8 c] 5)).drew := below_step (B1.alloc (by exact B1.size) (.cells #[.int .u8 c] 5)) (below_q ⟨1, rfl⟩)
      rw [← HY.out]
      generalize (World.alloc w1 (.cells #[.int .u8 c] 5)).drew = w3 at B2 ⊢
      clear B1 hconv
      try have i1 := I1.out
      try have c1 := C1.out
      go_wp2_with (first
        | (go_at_call 8; refine (may_any _ _ (by first | exact HEM.out | exact HXM.out | exact HZX.out | exact HWM.out)).mono ?_; rintro e w1 ⟨rfl, hb1⟩; have B1 := below_step (by assumption) hb1; clear hb1; first | rw [MN.out] | rw [MZ.out] | rw [MX.out] | rw [MW.out])
        | (go_at_call 9; refine (awake2_any _).mono ?_; rintro e w6 ⟨rfl, hb6⟩; have B6 := below_step (by assumption) hb6))
      all_goals
        go_ret
        first | exact ⟨rfl, by assumption⟩ | exact ⟨ret_bool (by simp [C1.out]), by assumption⟩ | (exfalso; simp_all; done) | (exfalso; omega)
    · have hm := ins_yes x.data.toList i (UInt8.ofNat c.toNat) (by rw [← hsz]; exact hin) hd MX.out
      rw [← hyl, hd48] at hm
      have hc2 : 48 ≤ c := by omega
      have hc3 : c ≤ 57 := by omega
      have hx4 : (decide (x.data.toList = [48]) = true ∧ decide (x.data.toList ≠ [48]) = false) ∨ (decide (x.data.toList = [48]) = false ∧ decide (x.data.toList ≠ [48]) = true) := by
        by_cases h : x.data.toList = [48]
        · exact .inl ⟨by simp [h], by simp [h]⟩
        · exact .inr ⟨by simp [h], by simp [h]⟩
      have hi4 : (i = 0 ∧ decide (i = 0) = true ∧ decide (0 < i) = false) ∨ (0 < i ∧ decide (i = 0) = false ∧ decide (0 < i) = true) := by
        by_cases h : i = 0
        · exact .inl ⟨h, by simp [h], by simp [h]⟩
        · exact .inr ⟨by omega, by simp [h], by simp; omega⟩
      have hc4 : (c ≠ 48 ∧ (c != 48) = true) ∨ (c = 48 ∧ (c != 48) = false) := by
        by_cases h : c = 48
        · exact .inr ⟨h, by simp [h]⟩
        · exact .inl ⟨h, by simp [h]⟩
      clear hyl hd hy hsz hdig hd48 hsx
      rcases hx4 with ⟨x1, x2⟩ | ⟨x1, x2⟩ <;> rcases hi4 with ⟨i1, i2, i3⟩ | ⟨i1, i2, i3⟩ <;> rcases hc4 with ⟨c1, c2⟩ | ⟨c1, c2⟩
      all_goals
        rw [x1, x2, i2, i3, c2] at hm
        rw [x1] at hxe
        simp only [Bool.and_true, Bool.and_false, Bool.or_true, Bool.or_false] at hm
        have I1 := Lib.hid i1; have C1 := Lib.hid c1
        clear x1 x2 i2 i3 c2 i1 c1
        have MW := Lib.hid hm
        clear hm
        go_enter Try.func4, Try.ntmps4
        go_wp2_with (first
          | (go_at_call 6; refine (few_any _ _ HA.out).mono ?_; rintro e w' ⟨rfl, rfl⟩; rw [← HX.out])
          | (go_at_call 8; refine (may_any _ _ (by first | exact HEM.out | exact HXM.out | exact HZX.out | exact HWM.out)).mono ?_; rintro e w1 ⟨rfl, hb1⟩; have B1 := below_step (by assumption) hb1; clear hb1; first | rw [MN.out] | rw [MZ.out] | rw [MX.out] | rw [MW.out])
          | (go_at_call 9; refine (awake2_any _).mono ?_; rintro e w6 ⟨rfl, hb6⟩; have B6 := below_step (by assumption) hb6))
        go_region
        have B2 : Below w.heap.size w (World.alloc w1 (.cells #[.int .u8 c] 5)).drew := below_step (B1.alloc (by exact B1.size) (.cells #[.int .u8 c] 5)) (below_q ⟨1, rfl⟩)
        rw [← HY.out]
        generalize (World.alloc w1 (.cells #[.int .u8 c] 5)).drew = w3 at B2 ⊢
        clear B1 hconv
        try have i1 := I1.out
        try have c1 := C1.out
        go_wp2_with (first
          | (go_at_call 8; refine (may_any _ _ (by first | exact HEM.out | exact HXM.out | exact HZX.out | exact HWM.out)).mono ?_; rintro e w1 ⟨rfl, hb1⟩; have B1 := below_step (by assumption) hb1; clear hb1; first | rw [MN.out] | rw [MZ.out] | rw [MX.out] | rw [MW.out])
          | (go_at_call 9; refine (awake2_any _).mono ?_; rintro e w6 ⟨rfl, hb6⟩; have B6 := below_step (by assumption) hb6))
        all_goals
          go_ret
          first | exact ⟨rfl, by assumption⟩ | exact ⟨ret_bool (by simp [C1.out]), by assumption⟩ | (exfalso; simp_all; done) | (exfalso; omega)

theorem own : ownKnob Try.prog.godebug = none := by kernel_rfl
theorem laidOut : laidOutB Try.prog = true := by kernel_rfl

set_option maxRecDepth 100000 in
theorem lifted (os : Os) (started : os.Started) (H : Type) (enc : TypeId × Value → H) :
    ReturnsInHanded {} Try.checked os 4 .any (Rows.numberFormsSpec.pre6 enc Try.prog Try.f4 Rows.numberFormsRow.domain false) (Rows.numberFormsSpec.post enc Try.prog Try.f4 false true false false) := by
  refine returnsInHanded_of_change (C := Try.checked) own started (by kernel_rfl) Try.func4
    (ChangeSpec.witness6 (enc := enc) (C := Try.checked) false ⟨#[], #[.string ByteArray.empty, .int .u8 0, .int .u8 0], []⟩ 8 (by kernel_rfl) (by kernel_rfl) (by kernel_rfl) (by kernel_rfl)) ?_
  intro W base args ds gs before hval0 hW hcnd _
  have hval : ∀ (j : Nat) t v, Try.f4.params[j]? = some t → args[j]? = some v → Value.okWide Try.prog W .any base t v := hval0
  have hW' := hW
  obtain ⟨p, q, hA0, hV, rfl, hfz, hnd⟩ := hW
  have hA : DataW.TrodAll enc Try.prog W 0 (fun _ => true) true Try.f4.params.toList args.toList ds p := hA0
  rw [Try.params4] at hA hval
  obtain ⟨v0, vs0, d0, ds0, p0, q0, hargs, rfl, rfl, h0, r0⟩ := trodAll_cons hA
  obtain ⟨v1, vs1, d1, ds1, p1, q1, rfl, rfl, rfl, h1, r1⟩ := trodAll_cons r0
  obtain ⟨v2, vs2, d2, ds2, p2, q2, rfl, rfl, rfl, h2, r2⟩ := trodAll_cons r1
  obtain ⟨rfl, rfl, rfl⟩ := trodAll_nil r2
  obtain rfl : args = #[v0, v1, v2] := by cases args; simp_all
  obtain ⟨rfl, rfl⟩ := trodVars_none hV
  obtain ⟨a0, rfl, rfl, rfl, w0⟩ := open_string Try.underlying9 (hval 0 9 v0 rfl rfl) h0
  obtain ⟨a1, rfl, rfl, rfl, w1⟩ := open_int Try.underlying5 (hval 1 5 v1 rfl rfl) h1
  obtain ⟨a2, rfl, rfl, rfl, w2⟩ := open_int Try.underlying5 (hval 2 5 v2 rfl rfl) h2
  clear hA0 hval0
  refine (walk a0 a1 a2 W w0 w1 w2).mono fun e W' ⟨he, bel⟩ => ?_
  subst he
  exact ⟨_, rfl, _, _, _, [], _, [], hW', trodAll_mk1 (shut_bool Try.underlying4 _), (trodAll_cons_mk (shut_string Try.underlying9 w0) (trodAll_cons_mk (shut_int Try.underlying5 w1) (trodAll_cons_mk (shut_int Try.underlying5 w2) trodAll_mk0))), rfl, bel.frame _, fun h => by cases h⟩

-- the given statement
theorem proved : Rows.NumberFormsSaid :=
  OpenClaim.holds_of_wide 4 Try.f4 rfl rfl rfl rfl rfl rfl rfl ⟨rfl, rfl, rfl, rfl, rfl⟩ rfl rfl rfl rfl rfl (by kernel_rfl) Try.func4 (by kernel_rfl)
    (of_decide_eq_true (by kernel_rfl)) (by unfold Func.isWrapper; first | (rw [if_pos (by decide +kernel)]; kernel_rfl) | (rw [if_neg (by decide +kernel)]; exact ⟨rfl, rfl⟩))
    (fun os started H enc _ => lifted os started H enc)
end Go.Proofs.Ytflaopmlmecdcaa.numberForms
