/- Of more classes no less is, and of two texts together all are just if all of both are; no condition. -/
import Derived.Test.YtonmifohcgddoaaRows
import Derived.Test.YtonmifohcgddoaaOctH
import Derived.ProofKit
import Derived.OpenShut
import Derived.ShutString
import Derived.ChangeOld
namespace Go.Proofs.Ytonmifohcgddoaa.octetWider
open Go.ChangeShapes Go.WideShapes Go.ChangeAt Go.RowKit
open Go.ChangeMaps (open_string shut_string)
set_option linter.unusedVariables false

set_option maxRecDepth 100000 in
set_option maxHeartbeats 1600000 in
theorem walkF (a b : ByteArray) (a0 : Option Addr) (len n cap : Nat) (ys : List Int) (w : World) (ha : a.size ≤ maxLen) (hb : b.size ≤ maxLen) (hI : Ints w (.slice a0 n cap) ys) (hn : n ≤ 20) (hlc : len ≤ cap) (hl2 : cap ≤ maxLen) (hX : allB (fewB a).data.toList ys = false) (hcut : (len ≤ 20 ∧ n = len) ∨ (20 < len ∧ n = 20)) :
    Calls Try.prog 9 #[.string a, .string b, .slice a0 len cap] w fun e w' => e = .returned (.bool true) ∧ Below w.heap.size w w' := by
  unfold maxLen at hl2
  have HA := Lib.hid ha; have HB := Lib.hid hb; clear ha hb
  have h1 := fewB_size a
  have h2 := fewB_size b
  obtain ⟨x, hx⟩ : ∃ x, x = fewB a := ⟨_, rfl⟩
  obtain ⟨y, hy⟩ : ∃ y, y = fewB b := ⟨_, rfl⟩
  rw [← hx] at h1; rw [← hy] at h2
  have HX := Lib.hid hx; have HY := Lib.hid hy; clear hx hy
  have HXM : Hid (x.size ≤ maxLen) := Lib.hid (by unfold maxLen; omega)
  have HYM : Hid (y.size ≤ maxLen) := Lib.hid (by unfold maxLen; omega)
  have HXY : Hid ((x ++ y).size ≤ maxLen) := Lib.hid (by rw [cat_size]; unfold maxLen; omega)
  rw [← HX.out] at hX
  have HI := Lib.hid hI
  obtain ⟨hny, hnil, hsrc⟩ := hI.src
  have HNY := Lib.hid hny; have HNIL := Lib.hid hnil; clear hny hnil hsrc hI
  have hxy : allB (x ++ y).data.toList ys = (allB x.data.toList ys && allB y.data.toList ys) := by rw [cat_list, allB_cat]
  have h3 : allB x.data.toList ys = true → allB x.data.toList (ys ++ [3]) = true := fun h => allB_more _ _ _ h (fun z hz => List.mem_append_left _ hz)
  have h4 : ∀ k : Int, allB x.data.toList ys = true → allB x.data.toList ([k] ++ ys) = true := fun k h => allB_more _ _ _ h (fun z hz => List.mem_append_right _ hz)
  have HXYB := Lib.hid hxy; have H3 := Lib.hid h3; have H4 := Lib.hid h4; clear hxy h3 h4
  obtain ⟨Y, hY⟩ : ∃ Y, allB y.data.toList ys = Y := ⟨_, rfl⟩
  have HYY := Lib.hid hY; clear hY
  have B0 := Below.refl w.heap.size w
  have HXX := Lib.hid hX; clear hX
  rcases hcut with ⟨c1, rfl⟩ | ⟨c1, rfl⟩
  all_goals
    go_enter Try.func9, Try.ntmps9
    go_wp2_with (first
      | (go_at_call 10; refine (few_any _ _ (by first | exact HA.out | exact HB.out)).mono ?_; rintro e w' ⟨rfl, rfl⟩; first | rw [← HX.out] | rw [← HY.out]))
    refine (all_any x HXM.out _ ys _ HI.out).mono ?_
    rintro e w1 ⟨rfl, hb1⟩
    rw [HXX.out]
    have HI1 := Lib.hid (HI.out.below hb1)
    have B1 := below_step B0 hb1
    go_wp2_with fail
    refine (all_any y HYM.out _ ys _ HI1.out).mono ?_
    rintro e w2 ⟨rfl, hb2⟩
    have HI2 := Lib.hid (HI1.out.below hb2)
    have B2 := below_step B1 hb2
    go_wp2_with fail
    refine (all_any (x ++ y) HXY.out _ ys _ HI2.out).mono ?_
    rintro e w3 ⟨rfl, hb3⟩
    rw [HXYB.out, HXX.out, Bool.false_and]
    have B3 := below_step B2 hb3
    go_wp2_with (go_at_call 17; refine (awake_any _).mono ?_; rintro e w6 ⟨rfl, hb6⟩; have B6 := below_step B3 hb6)
    go_ret
    exact ⟨rfl, B6⟩

set_option maxRecDepth 100000 in
set_option maxHeartbeats 1600000 in
theorem walkT0 (a b : ByteArray) (a0 : Option Addr) (len n cap : Nat) (ys : List Int) (w : World) (ha : a.size ≤ maxLen) (hb : b.size ≤ maxLen) (hI : Ints w (.slice a0 n cap) ys) (hn : n ≤ 20) (hlc : len ≤ cap) (hl2 : cap ≤ maxLen) (hX : allB (fewB a).data.toList ys = true) (c1 : len ≤ 20) (hnl : n = len) (h0 : ((len : Int) == 0) = true) :
    Calls Try.prog 9 #[.string a, .string b, .slice a0 len cap] w fun e w' => e = .returned (.bool true) ∧ Below w.heap.size w w' := by
  unfold maxLen at hl2
  have HA := Lib.hid ha; have HB := Lib.hid hb; clear ha hb
  have h1 := fewB_size a
  have h2 := fewB_size b
  obtain ⟨x, hx⟩ : ∃ x, x = fewB a := ⟨_, rfl⟩
  obtain ⟨y, hy⟩ : ∃ y, y = fewB b := ⟨_, rfl⟩
  rw [← hx] at h1; rw [← hy] at h2
  have HX := Lib.hid hx; have HY := Lib.hid hy; clear hx hy
  have HXM : Hid (x.size ≤ maxLen) := Lib.hid (by unfold maxLen; omega)
  have HYM : Hid (y.size ≤ maxLen) := Lib.hid (by unfold maxLen; omega)
  have HXY : Hid ((x ++ y).size ≤ maxLen) := Lib.hid (by rw [cat_size]; unfold maxLen; omega)
  rw [← HX.out] at hX
  have HI := Lib.hid hI
  obtain ⟨hny, hnil, hsrc⟩ := hI.src
  have HNY := Lib.hid hny; have HNIL := Lib.hid hnil; clear hny hnil hsrc hI
  have hxy : allB (x ++ y).data.toList ys = (allB x.data.toList ys && allB y.data.toList ys) := by rw [cat_list, allB_cat]
  have h3 : allB x.data.toList ys = true → allB x.data.toList (ys ++ [3]) = true := fun h => allB_more _ _ _ h (fun z hz => List.mem_append_left _ hz)
  have h4 : ∀ k : Int, allB x.data.toList ys = true → allB x.data.toList ([k] ++ ys) = true := fun k h => allB_more _ _ _ h (fun z hz => List.mem_append_right _ hz)
  have HXYB := Lib.hid hxy; have H3 := Lib.hid h3; have H4 := Lib.hid h4; clear hxy h3 h4
  obtain ⟨Y, hY⟩ : ∃ Y, allB y.data.toList ys = Y := ⟨_, rfl⟩
  have HYY := Lib.hid hY; clear hY
  have B0 := Below.refl w.heap.size w
  have HXX := Lib.hid hX; clear hX
  subst hnl
  go_enter Try.func9, Try.ntmps9
  go_wp2_with (first
    | (go_at_call 10; refine (few_any _ _ (by first | exact HA.out | exact HB.out)).mono ?_; rintro e w' ⟨rfl, rfl⟩; first | rw [← HX.out] | rw [← HY.out]))
  refine (all_any x HXM.out _ ys _ HI.out).mono ?_
  rintro e w1 ⟨rfl, hb1⟩
  rw [HXX.out]
  have HI1 := Lib.hid (HI.out.below hb1)
  have B1 := below_step B0 hb1
  go_wp2_with fail
  refine (all_any y HYM.out _ ys _ HI1.out).mono ?_
  rintro e w2 ⟨rfl, hb2⟩
  rw [HYY.out]
  have HI2 := Lib.hid (HI1.out.below hb2)
  have B2 := below_step B1 hb2
  go_wp2_with fail
  refine (all_any (x ++ y) HXY.out _ ys _ HI2.out).mono ?_
  rintro e w3 ⟨rfl, hb3⟩
  rw [HXYB.out, HXX.out, Bool.true_and, HYY.out]
  have HI3 := Lib.hid (HI2.out.below hb3)
  have B3 := below_step B2 hb3
  have hsrc := (HI3.out.below ((Below.refl _ _).alloc (Nat.le_refl _) (.cells #[] 3))).src.2.2
  have HSRC := Lib.hid hsrc; clear hsrc
  go_wp2_with (first
    | (at_builtin; refine wpList_append_src rfl (.tmp 39) (.tmp 40) 22 rfl w3.heap.size 3 (.int .i64 0) 1 8 Try.underlying22 Try.info_int rfl (by decide) _ 0 [] rfl (World.ownsRow_lit w3 #[] 0 (Nat.le_refl _) (by decide) rfl) _ _ cap (ys.map (Value.int .i64)) rfl (by rw [List.length_map, Nat.mul_one]; exact HNY.out.symm) HNIL.out HSRC.out (ints_one _) (by omega) (by unfold maxLen; omega) (by simp) ?_; intro v4 w4 ho4 hb4; rw [List.nil_append] at ho4; have HO4 := Lib.hid ho4; clear ho4)
    | (at_builtin; refine wpList_append_new rfl (.tmp 41) (.tmp 42) 22 rfl w3.heap.size 3 (.int .i64 0) 1 8 Try.underlying22 Try.info_int rfl (by decide) _ _ _ rfl HO4.out [.int .i64 3] rfl rfl rfl (by omega) (by unfold maxLen; omega) (by have := hb4.size; simp at this; omega) ?_; intro v5 w5 ho5 hb5; have HO5 := Lib.hid ho5; clear ho5))
  have hv5 : Ints w5 v5 (ys ++ [3]) := Ints.owned (ls := ys ++ [3]) (by simpa using HO5.out) (by simp [← HNY.out])
  have e34 : Below w3.heap.size w3 w4 := ((Below.refl _ _).alloc (Nat.le_refl _) _).trans hb4
  have e35 := e34.trans hb5
  have B5 := below_step B3 e35
  refine (all_any x HXM.out _ _ _ hv5).mono ?_
  rintro e w6 ⟨rfl, hb6⟩
  rw [H3.out HXX.out]
  have B6 := below_step B5 hb6
  go_wp2_with (go_at_call 17; refine (awake_any _).mono ?_; rintro e w9 ⟨rfl, hb9⟩; have B9 := below_step B6 hb9)
  go_ret
  exact ⟨rfl, B9⟩

set_option maxRecDepth 100000 in
set_option maxHeartbeats 1600000 in
theorem walkT1 (a b : ByteArray) (a0 : Option Addr) (len n cap : Nat) (ys : List Int) (w : World) (ha : a.size ≤ maxLen) (hb : b.size ≤ maxLen) (hI : Ints w (.slice a0 n cap) ys) (hn : n ≤ 20) (hlc : len ≤ cap) (hl2 : cap ≤ maxLen) (hX : allB (fewB a).data.toList ys = true) (c1 : len ≤ 20) (hnl : n = len) (hp : 0 < len) (h0 : ((len : Int) == 0) = false) :
    Calls Try.prog 9 #[.string a, .string b, .slice a0 len cap] w fun e w' => e = .returned (.bool true) ∧ Below w.heap.size w w' := by
  unfold maxLen at hl2
  have HA := Lib.hid ha; have HB := Lib.hid hb; clear ha hb
  have h1 := fewB_size a
  have h2 := fewB_size b
  obtain ⟨x, hx⟩ : ∃ x, x = fewB a := ⟨_, rfl⟩
  obtain ⟨y, hy⟩ : ∃ y, y = fewB b := ⟨_, rfl⟩
  rw [← hx] at h1; rw [← hy] at h2
  have HX := Lib.hid hx; have HY := Lib.hid hy; clear hx hy
  have HXM : Hid (x.size ≤ maxLen) := Lib.hid (by unfold maxLen; omega)
  have HYM : Hid (y.size ≤ maxLen) := Lib.hid (by unfold maxLen; omega)
  have HXY : Hid ((x ++ y).size ≤ maxLen) := Lib.hid (by rw [cat_size]; unfold maxLen; omega)
  rw [← HX.out] at hX
  obtain ⟨b0, off0, ha0⟩ := hI.some (by omega)
  subst ha0
  have HI := Lib.hid hI
  obtain ⟨hny, hnil, hsrc⟩ := hI.src
  have HNY := Lib.hid hny; have HNIL := Lib.hid hnil; clear hny hnil hsrc hI
  have hxy : allB (x ++ y).data.toList ys = (allB x.data.toList ys && allB y.data.toList ys) := by rw [cat_list, allB_cat]
  have h3 : allB x.data.toList ys = true → allB x.data.toList (ys ++ [3]) = true := fun h => allB_more _ _ _ h (fun z hz => List.mem_append_left _ hz)
  have h4 : ∀ k : Int, allB x.data.toList ys = true → allB x.data.toList ([k] ++ ys) = true := fun k h => allB_more _ _ _ h (fun z hz => List.mem_append_right _ hz)
  have HXYB := Lib.hid hxy; have H3 := Lib.hid h3; have H4 := Lib.hid h4; clear hxy h3 h4
  obtain ⟨Y, hY⟩ : ∃ Y, allB y.data.toList ys = Y := ⟨_, rfl⟩
  have HYY := Lib.hid hY; clear hY
  have B0 := Below.refl w.heap.size w
  have HXX := Lib.hid hX; clear hX
  subst hnl
  go_enter Try.func9, Try.ntmps9
  go_wp2_with (first
    | (go_at_call 10; refine (few_any _ _ (by first | exact HA.out | exact HB.out)).mono ?_; rintro e w' ⟨rfl, rfl⟩; first | rw [← HX.out] | rw [← HY.out]))
  refine (all_any x HXM.out _ ys _ HI.out).mono ?_
  rintro e w1 ⟨rfl, hb1⟩
  rw [HXX.out]
  have HI1 := Lib.hid (HI.out.below hb1)
  have B1 := below_step B0 hb1
  go_wp2_with fail
  refine (all_any y HYM.out _ ys _ HI1.out).mono ?_
  rintro e w2 ⟨rfl, hb2⟩
  rw [HYY.out]
  have HI2 := Lib.hid (HI1.out.below hb2)
  have B2 := below_step B1 hb2
  go_wp2_with fail
  refine (all_any (x ++ y) HXY.out _ ys _ HI2.out).mono ?_
  rintro e w3 ⟨rfl, hb3⟩
  rw [HXYB.out, HXX.out, Bool.true_and, HYY.out]
  have HI3 := Lib.hid (HI2.out.below hb3)
  have B3 := below_step B2 hb3
  have hsrc := (HI3.out.below ((Below.refl _ _).alloc (Nat.le_refl _) (.cells #[] 3))).src.2.2
  have HSRC := Lib.hid hsrc; clear hsrc
  go_wp2_with (first
    | (at_builtin; refine wpList_append_src rfl (.tmp 39) (.tmp 40) 22 rfl w3.heap.size 3 (.int .i64 0) 1 8 Try.underlying22 Try.info_int rfl (by decide) _ 0 [] rfl (World.ownsRow_lit w3 #[] 0 (Nat.le_refl _) (by decide) rfl) _ _ cap (ys.map (Value.int .i64)) rfl (by rw [List.length_map, Nat.mul_one]; exact HNY.out.symm) HNIL.out HSRC.out (ints_one _) (by omega) (by unfold maxLen; omega) (by simp) ?_; intro v4 w4 ho4 hb4; rw [List.nil_append] at ho4; have HO4 := Lib.hid ho4; clear ho4)
    | (at_builtin; refine wpList_append_new rfl (.tmp 41) (.tmp 42) 22 rfl w3.heap.size 3 (.int .i64 0) 1 8 Try.underlying22 Try.info_int rfl (by decide) _ _ _ rfl HO4.out [.int .i64 3] rfl rfl rfl (by omega) (by unfold maxLen; omega) (by have := hb4.size; simp at this; omega) ?_; intro v5 w5 ho5 hb5; have HO5 := Lib.hid ho5; clear ho5))
  have hv5 : Ints w5 v5 (ys ++ [3]) := Ints.owned (ls := ys ++ [3]) (by simpa using HO5.out) (by simp [← HNY.out])
  have e34 : Below w3.heap.size w3 w4 := ((Below.refl _ _).alloc (Nat.le_refl _) _).trans hb4
  have e35 := e34.trans hb5
  have B5 := below_step B3 e35
  refine (all_any x HXM.out _ _ _ hv5).mono ?_
  rintro e w6 ⟨rfl, hb6⟩
  rw [H3.out HXX.out]
  have B6 := below_step B5 hb6
  have hI6 := HI3.out.below (below_step e35 hb6)
  have hcell : w6.cell? ⟨b0, off0 + (n - 1), none⟩ = some (.int .i64 (ys.getD (n - 1) 0)) := hI6.cell (n - 1) (by omega)
  obtain ⟨k, hk⟩ : ∃ k, k = ys.getD (n - 1) 0 := ⟨_, rfl⟩
  rw [← hk] at hcell
  have HK := Lib.hid hk; clear hk
  have hto : ((n : Int) - 1).toNat = n - 1 := by omega
  have hsrc6 := (hI6.below ((Below.refl _ _).alloc (Nat.le_refl _) (.cells #[.int .i64 k] 3))).src.2.2
  have HSRC6 := Lib.hid hsrc6; clear hsrc6 hI6
  go_wp2_with (first
    | (at_builtin; refine wpList_append_src rfl (.tmp 63) (.tmp 64) 22 rfl w6.heap.size 3 (.int .i64 0) 1 8 Try.underlying22 Try.info_int rfl (by decide) _ 1 [.int .i64 k] rfl (World.ownsRow_lit w6 #[.int .i64 k] 1 (Nat.le_refl _) (by decide) rfl) _ _ cap (ys.map (Value.int .i64)) rfl (by rw [List.length_map, Nat.mul_one]; exact HNY.out.symm) HNIL.out HSRC6.out (ints_one _) (by omega) (by unfold maxLen; omega) (by simp) ?_; intro v7 w7 ho7 hb7; have HO7 := Lib.hid ho7; clear ho7))
  have hv7 : Ints w7 v7 ([k] ++ ys) := Ints.owned (ls := [k] ++ ys) (by simpa using HO7.out) (by simp [← HNY.out]; omega)
  have e67 : Below w6.heap.size w6 w7 := ((Below.refl _ _).alloc (Nat.le_refl _) _).trans hb7
  have B7 := below_step B6 e67
  refine (all_any x HXM.out _ _ _ hv7).mono ?_
  rintro e w8 ⟨rfl, hb8⟩
  rw [H4.out k HXX.out]
  have B8 := below_step B7 hb8
  go_wp2_with (go_at_call 17; refine (awake_any _).mono ?_; rintro e w9 ⟨rfl, hb9⟩; have B9 := below_step B8 hb9)
  go_ret
  exact ⟨rfl, B9⟩

set_option maxRecDepth 100000 in
set_option maxHeartbeats 1600000 in
theorem walkT2 (a b : ByteArray) (a0 : Option Addr) (len n cap : Nat) (ys : List Int) (w : World) (ha : a.size ≤ maxLen) (hb : b.size ≤ maxLen) (hI : Ints w (.slice a0 n cap) ys) (hn : n ≤ 20) (hlc : len ≤ cap) (hl2 : cap ≤ maxLen) (hX : allB (fewB a).data.toList ys = true) (c1 : 20 < len) (hnl : n = 20) :
    Calls Try.prog 9 #[.string a, .string b, .slice a0 len cap] w fun e w' => e = .returned (.bool true) ∧ Below w.heap.size w w' := by
  unfold maxLen at hl2
  have HA := Lib.hid ha; have HB := Lib.hid hb; clear ha hb
  have h1 := fewB_size a
  have h2 := fewB_size b
  obtain ⟨x, hx⟩ : ∃ x, x = fewB a := ⟨_, rfl⟩
  obtain ⟨y, hy⟩ : ∃ y, y = fewB b := ⟨_, rfl⟩
  rw [← hx] at h1; rw [← hy] at h2
  have HX := Lib.hid hx; have HY := Lib.hid hy; clear hx hy
  have HXM : Hid (x.size ≤ maxLen) := Lib.hid (by unfold maxLen; omega)
  have HYM : Hid (y.size ≤ maxLen) := Lib.hid (by unfold maxLen; omega)
  have HXY : Hid ((x ++ y).size ≤ maxLen) := Lib.hid (by rw [cat_size]; unfold maxLen; omega)
  rw [← HX.out] at hX
  obtain ⟨b0, off0, ha0⟩ := hI.some (by omega)
  subst ha0
  have HI := Lib.hid hI
  obtain ⟨hny, hnil, hsrc⟩ := hI.src
  have HNY := Lib.hid hny; have HNIL := Lib.hid hnil; clear hny hnil hsrc hI
  have hxy : allB (x ++ y).data.toList ys = (allB x.data.toList ys && allB y.data.toList ys) := by rw [cat_list, allB_cat]
  have h3 : allB x.data.toList ys = true → allB x.data.toList (ys ++ [3]) = true := fun h => allB_more _ _ _ h (fun z hz => List.mem_append_left _ hz)
  have h4 : ∀ k : Int, allB x.data.toList ys = true → allB x.data.toList ([k] ++ ys) = true := fun k h => allB_more _ _ _ h (fun z hz => List.mem_append_right _ hz)
  have HXYB := Lib.hid hxy; have H3 := Lib.hid h3; have H4 := Lib.hid h4; clear hxy h3 h4
  obtain ⟨Y, hY⟩ : ∃ Y, allB y.data.toList ys = Y := ⟨_, rfl⟩
  have HYY := Lib.hid hY; clear hY
  have B0 := Below.refl w.heap.size w
  have HXX := Lib.hid hX; clear hX
  subst hnl
  go_enter Try.func9, Try.ntmps9
  go_wp2_with (first
    | (go_at_call 10; refine (few_any _ _ (by first | exact HA.out | exact HB.out)).mono ?_; rintro e w' ⟨rfl, rfl⟩; first | rw [← HX.out] | rw [← HY.out]))
  refine (all_any x HXM.out _ ys _ HI.out).mono ?_
  rintro e w1 ⟨rfl, hb1⟩
  rw [HXX.out]
  have HI1 := Lib.hid (HI.out.below hb1)
  have B1 := below_step B0 hb1
  go_wp2_with fail
  refine (all_any y HYM.out _ ys _ HI1.out).mono ?_
  rintro e w2 ⟨rfl, hb2⟩
  rw [HYY.out]
  have HI2 := Lib.hid (HI1.out.below hb2)
  have B2 := below_step B1 hb2
  go_wp2_with fail
  refine (all_any (x ++ y) HXY.out _ ys _ HI2.out).mono ?_
  rintro e w3 ⟨rfl, hb3⟩
  rw [HXYB.out, HXX.out, Bool.true_and, HYY.out]
  have HI3 := Lib.hid (HI2.out.below hb3)
  have B3 := below_step B2 hb3
  have hsrc := (HI3.out.below ((Below.refl _ _).alloc (Nat.le_refl _) (.cells #[] 3))).src.2.2
  have HSRC := Lib.hid hsrc; clear hsrc
  go_wp2_with (first
    | (at_builtin; refine wpList_append_src rfl (.tmp 39) (.tmp 40) 22 rfl w3.heap.size 3 (.int .i64 0) 1 8 Try.underlying22 Try.info_int rfl (by decide) _ 0 [] rfl (World.ownsRow_lit w3 #[] 0 (Nat.le_refl _) (by decide) rfl) _ _ cap (ys.map (Value.int .i64)) rfl (by rw [List.length_map, Nat.mul_one]; exact HNY.out.symm) HNIL.out HSRC.out (ints_one _) (by omega) (by unfold maxLen; omega) (by simp) ?_; intro v4 w4 ho4 hb4; rw [List.nil_append] at ho4; have HO4 := Lib.hid ho4; clear ho4)
    | (at_builtin; refine wpList_append_new rfl (.tmp 41) (.tmp 42) 22 rfl w3.heap.size 3 (.int .i64 0) 1 8 Try.underlying22 Try.info_int rfl (by decide) _ _ _ rfl HO4.out [.int .i64 3] rfl rfl rfl (by omega) (by unfold maxLen; omega) (by have := hb4.size; simp at this; omega) ?_; intro v5 w5 ho5 hb5; have HO5 := Lib.hid ho5; clear ho5))
  have hv5 : Ints w5 v5 (ys ++ [3]) := Ints.owned (ls := ys ++ [3]) (by simpa using HO5.out) (by simp [← HNY.out])
  have e34 : Below w3.heap.size w3 w4 := ((Below.refl _ _).alloc (Nat.le_refl _) _).trans hb4
  have e35 := e34.trans hb5
  have B5 := below_step B3 e35
  refine (all_any x HXM.out _ _ _ hv5).mono ?_
  rintro e w6 ⟨rfl, hb6⟩
  rw [H3.out HXX.out]
  have B6 := below_step B5 hb6
  have hI6 := HI3.out.below (below_step e35 hb6)
  have hcell : w6.cell? ⟨b0, off0 + 19, none⟩ = some (.int .i64 (ys.getD 19 0)) := hI6.cell 19 (by omega)
  obtain ⟨k, hk⟩ : ∃ k, k = ys.getD 19 0 := ⟨_, rfl⟩
  rw [← hk] at hcell
  have HK := Lib.hid hk; clear hk
  have hsrc6 := (hI6.below ((Below.refl _ _).alloc (Nat.le_refl _) (.cells #[.int .i64 k] 3))).src.2.2
  have HSRC6 := Lib.hid hsrc6; clear hsrc6 hI6
  go_wp2_with (first
    | (at_builtin; refine wpList_append_src rfl (.tmp 63) (.tmp 64) 22 rfl w6.heap.size 3 (.int .i64 0) 1 8 Try.underlying22 Try.info_int rfl (by decide) _ 1 [.int .i64 k] rfl (World.ownsRow_lit w6 #[.int .i64 k] 1 (Nat.le_refl _) (by decide) rfl) _ _ cap (ys.map (Value.int .i64)) rfl (by rw [List.length_map, Nat.mul_one]; exact HNY.out.symm) HNIL.out HSRC6.out (ints_one _) (by omega) (by unfold maxLen; omega) (by simp) ?_; intro v7 w7 ho7 hb7; have HO7 := Lib.hid ho7; clear ho7))
  have hv7 : Ints w7 v7 ([k] ++ ys) := Ints.owned (ls := [k] ++ ys) (by simpa using HO7.out) (by simp [← HNY.out])
  have e67 : Below w6.heap.size w6 w7 := ((Below.refl _ _).alloc (Nat.le_refl _) _).trans hb7
  have B7 := below_step B6 e67
  refine (all_any x HXM.out _ _ _ hv7).mono ?_
  rintro e w8 ⟨rfl, hb8⟩
  rw [H4.out k HXX.out]
  have B8 := below_step B7 hb8
  go_wp2_with (go_at_call 17; refine (awake_any _).mono ?_; rintro e w9 ⟨rfl, hb9⟩; have B9 := below_step B8 hb9)
  go_ret
  exact ⟨rfl, B9⟩

theorem walk (a b : ByteArray) (v : Value) (zs : List Int) (w : World) (ha : a.size ≤ maxLen) (hb : b.size ≤ maxLen) (h : Ints w v zs) :
    Calls Try.prog 9 #[.string a, .string b, v] w fun e w' => e = .returned (.bool true) ∧ Below w.heap.size w w' := by
  obtain ⟨a0, cap, rfl, hl1, hl2, _, _⟩ := h.ex
  by_cases hl : 20 < zs.length
  · have hI := h.cut 20 (by omega)
    cases hX : allB (fewB a).data.toList (zs.take 20)
    · exact walkF a b a0 zs.length 20 cap _ w ha hb hI (by omega) hl1 hl2 hX (.inr ⟨hl, rfl⟩)
    · exact walkT2 a b a0 zs.length 20 cap _ w ha hb hI (by omega) hl1 hl2 hX hl rfl
  · cases hX : allB (fewB a).data.toList zs
    · exact walkF a b a0 zs.length _ cap _ w ha hb h (by omega) hl1 hl2 hX (.inl ⟨by omega, rfl⟩)
    · by_cases h0 : zs.length = 0
      · exact walkT0 a b a0 zs.length _ cap _ w ha hb h (by omega) hl1 hl2 hX (by omega) rfl (by simpa using h0)
      · exact walkT1 a b a0 zs.length _ cap _ w ha hb h (by omega) hl1 hl2 hX (by omega) rfl (by omega) (by simpa using h0)

theorem own : ownKnob Try.prog.godebug = none := by kernel_rfl
theorem laidOut : laidOutB Try.prog = true := by kernel_rfl

set_option maxRecDepth 100000 in
theorem lifted (os : Os) (started : os.Started) (H : Type) (enc : TypeId × Value → H) :
    ReturnsInHanded {} Try.checked os 9 .any (Rows.octetWiderSpec.pre6 enc Try.prog Try.f9 Rows.octetWiderRow.domain false) (Rows.octetWiderSpec.post enc Try.prog Try.f9 false true false false) := by
  refine returnsInHanded_of_change (C := Try.checked) own started (by kernel_rfl) Try.func9
    (ChangeSpec.witness6 (enc := enc) (C := Try.checked) false ⟨#[], #[.string ByteArray.empty, .string ByteArray.empty, .slice none 0 0], []⟩ 8 (by kernel_rfl) (by kernel_rfl) (by kernel_rfl) (by kernel_rfl)) ?_
  intro W base args ds gs before hval0 hW hcnd _
  have hval : ∀ (j : Nat) t v, Try.f9.params[j]? = some t → args[j]? = some v → Value.okWide Try.prog W .any base t v := hval0
  have hW' := hW
  obtain ⟨p, q, hA0, hV, rfl, hfz, hnd⟩ := hW
  have hA : DataW.TrodAll enc Try.prog W 0 (fun _ => true) true Try.f9.params.toList args.toList ds p := hA0
  rw [Try.params9] at hA hval
  obtain ⟨v0, vs0, d0, ds0, p0, q0, hargs, rfl, rfl, h0, r0⟩ := trodAll_cons hA
  obtain ⟨v1, vs1, d1, ds1, p1, q1, rfl, rfl, rfl, h1, r1⟩ := trodAll_cons r0
  obtain ⟨v2, vs2, d2, ds2, p2, q2, rfl, rfl, rfl, h2, r2⟩ := trodAll_cons r1
  obtain ⟨rfl, rfl, rfl⟩ := trodAll_nil r2
  obtain rfl : args = #[v0, v1, v2] := by cases args; simp_all
  obtain ⟨rfl, rfl⟩ := trodVars_none hV
  obtain ⟨a0, rfl, rfl, rfl, w0⟩ := open_string Try.underlying9 (hval 0 9 v0 rfl rfl) h0
  obtain ⟨a1, rfl, rfl, rfl, w1⟩ := open_string Try.underlying9 (hval 1 9 v1 rfl rfl) h1
  obtain ⟨a2, len2, cap2, rfl⟩ := okWide_slice Try.underlying22 (hval 2 22 v2 rfl rfl)
  have k2 := h2
  have lt2 : ∀ x ∈ p2, x.block < W.heap.size := by obtain ⟨m, hm⟩ := k2; exact DataW.trod_lt m _ _ _ hm
  obtain ⟨z2, w2⟩ : ∃ zs, Ints W (.slice a2 len2 cap2) zs := by
    obtain ⟨fuel, hf⟩ := h2
    rcases open_ints Try.underlying22 Try.underlying3 (by kernel_rfl) hf with ⟨hcs, _⟩ | ⟨x, l, c, zs, hcs, _, hl, hm, hz, _, hcell, _⟩
    · simp [Value.cells] at hcs
      obtain ⟨rfl, rfl, rfl⟩ := hcs
      exact ⟨[], Ints.nil _⟩
    · simp [Value.cells] at hcs
      obtain ⟨rfl, rfl, rfl⟩ := hcs
      exact ⟨_, Ints.of_row hl hm (by simpa using hz) hcell⟩
  clear hA0 hval0
  refine (walk a0 a1 _ z2 W w0 w1 w2).mono fun e W' ⟨he, bel⟩ => ?_
  subst he
  exact ⟨_, rfl, _, _, _, [], _, [], hW', trodAll_mk1 (shut_bool Try.underlying4 _), (trodAll_cons_mk (shut_string Try.underlying9 w0) (trodAll_cons_mk (shut_string Try.underlying9 w1) (trodAll_cons_mk (Below.trod laidOut (by kernel_rfl) (of_decide_eq_true (by kernel_rfl)) k2 bel lt2) trodAll_mk0))), rfl, bel.frame _, fun h => by cases h⟩

-- the given statement
theorem proved : Rows.OctetWiderSaid :=
  OpenClaim.holds_of_wide 9 Try.f9 rfl rfl rfl rfl rfl rfl rfl ⟨rfl, rfl, rfl, rfl, rfl⟩ rfl rfl rfl rfl rfl (by kernel_rfl) Try.func9 (by kernel_rfl)
    (of_decide_eq_true (by kernel_rfl)) (by unfold Func.isWrapper; first | (rw [if_pos (by decide +kernel)]; kernel_rfl) | (rw [if_neg (by decide +kernel)]; exact ⟨rfl, rfl⟩))
    (fun os started H enc _ => lifted os started H enc)
end Go.Proofs.Ytonmifohcgddoaa.octetWider
