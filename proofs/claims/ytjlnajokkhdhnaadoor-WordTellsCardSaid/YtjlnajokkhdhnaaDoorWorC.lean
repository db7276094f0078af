/- The contract of word's Step. -/
import Derived.Test.YtjlnajokkhdhnaaDoorWorB
namespace Go.Proofs.YtjlnajokkhdhnaaDoor
open Go.RowKit
set_option maxRecDepth 100000

/-- Where a step goes. -/
def stepI (k a : Int) (c : Nat) : Option Nat := match tagI k a with
  | none => none
  | some t => goT t a.toNat c
theorem stepI_nat (k a c : Nat) (hk : k < 3) (ha : a < 14) : stepI (k : Int) (a : Int) c = stepO k a c := by
  unfold stepI stepO; rw [tagI_nat k a hk ha]; rfl
theorem stepI_no {k a : Int} (h : ¬ (0 ≤ k ∧ k < 3 ∧ 0 ≤ a ∧ a < 14)) (c : Nat) : stepI k a c = none := by unfold stepI; rw [tagI_no h]
def stepE (o : Option Nat) : Ending := match o with
  | none => .returned (.tuple #[.int .i64 0, .bool false])
  | some n => .returned (.tuple #[.int .i64 (n : Int), .bool true])
theorem rI_ne (n : Nat) : ¬ rI (some n) = -1 := by unfold rI; simp
theorem tagI_bd {k a : Int} {t : Tag} (h : tagI k a = some t) : ∃ k' a' : Nat, k = k' ∧ a = a' ∧ k' < 3 ∧ a' < 14 ∧ tagAt k' a' = some t := by
  unfold tagI at h
  split at h
  · rename_i hb
    exact ⟨k.toNat, a.toNat, by omega, by omega, by omega, by omega, h⟩
  · cases h
theorem di_pos : ∀ k : Fin 3, ∀ a : Fin 14, tagAt k.1 a.1 = some Tag.di → 1 ≤ a.1 := by decide +kernel


set_option maxHeartbeats 800000 in
theorem step_el (k a c : Nat) (hc : c < 256) (ha : a < 14) (ht : tagI k a = some .el) (w : World) :
    Calls Tryd.prog 17 #[.int .i64 (k : Int), .int .i64 (a : Int), .int .u8 (c : Int)] w fun e w' => e = stepE (stepI k a c) ∧ Below w.heap.size w w' := by
  have HE := Lib.hid (show stepI k a c = goT .el a c by unfold stepI; rw [ht]; rfl)
  have HT := Lib.hid ht
  obtain ⟨o, ho⟩ : ∃ o, goT .el a c = o := ⟨_, rfl⟩
  have HO := Lib.hid ho
  clear ht ho
  have hq : ∀ w, Sem.run Tryd.prog (binOp .eql 36 (.func (.func 35) #[] #[]) .nilFunc) w = .ok (.bool false) w := fun w => by kernel_rfl
  cases o with
  | none =>
    go_enter Tryd.func17, Tryd.ntmps17
    go_wp2_with (first
      | (go_at_call 20; refine (find_any _ _ _).mono ?_; rintro e w1 ⟨rfl, hb1⟩; rw [HT.out]; have B := Lib.hid hb1; clear hb1; unfold tagV fnV Tryd.tagF)
      | (go_at_call 35; refine (el_any a c hc (by omega) _).mono ?_; rintro e w2 ⟨rfl, hb2⟩; have B2 := Lib.hid (below_step B.out hb2); clear hb2; rw [show elO c = _ from HO.out]; unfold rI))
    go_ret2
    exact ⟨by rw [HE.out, HO.out]; rfl, B2.out⟩
  | some n =>
    have hn1 : ¬ (n : Int) = -1 := by omega
    go_enter Tryd.func17, Tryd.ntmps17
    go_wp2_with (first
      | (go_at_call 20; refine (find_any _ _ _).mono ?_; rintro e w1 ⟨rfl, hb1⟩; rw [HT.out]; have B := Lib.hid hb1; clear hb1; unfold tagV fnV Tryd.tagF)
      | (go_at_call 35; refine (el_any a c hc (by omega) _).mono ?_; rintro e w2 ⟨rfl, hb2⟩; have B2 := Lib.hid (below_step B.out hb2); clear hb2; rw [show elO c = _ from HO.out]; unfold rI))
    go_ret2
    exact ⟨by rw [HE.out, HO.out]; rfl, B2.out⟩

set_option maxHeartbeats 800000 in
theorem step_ine (k a c : Nat) (hc : c < 256) (ha : a < 14) (ht : tagI k a = some .ine) (w : World) :
    Calls Tryd.prog 17 #[.int .i64 (k : Int), .int .i64 (a : Int), .int .u8 (c : Int)] w fun e w' => e = stepE (stepI k a c) ∧ Below w.heap.size w w' := by
  have HE := Lib.hid (show stepI k a c = goT .ine a c by unfold stepI; rw [ht]; rfl)
  have HT := Lib.hid ht
  obtain ⟨o, ho⟩ : ∃ o, goT .ine a c = o := ⟨_, rfl⟩
  have HO := Lib.hid ho
  clear ht ho
  have hq : ∀ w, Sem.run Tryd.prog (binOp .eql 36 (.func (.func 36) #[] #[]) .nilFunc) w = .ok (.bool false) w := fun w => by kernel_rfl
  cases o with
  | none =>
    go_enter Tryd.func17, Tryd.ntmps17
    go_wp2_with (first
      | (go_at_call 20; refine (find_any _ _ _).mono ?_; rintro e w1 ⟨rfl, hb1⟩; rw [HT.out]; have B := Lib.hid hb1; clear hb1; unfold tagV fnV Tryd.tagF)
      | (go_at_call 36; refine (ine_any a c hc (by omega) _).mono ?_; rintro e w2 ⟨rfl, hb2⟩; have B2 := Lib.hid (below_step B.out hb2); clear hb2; rw [show goT .ine a c = _ from HO.out]; unfold rI))
    go_ret2
    exact ⟨by rw [HE.out, HO.out]; rfl, B2.out⟩
  | some n =>
    have hn1 : ¬ (n : Int) = -1 := by omega
    go_enter Tryd.func17, Tryd.ntmps17
    go_wp2_with (first
      | (go_at_call 20; refine (find_any _ _ _).mono ?_; rintro e w1 ⟨rfl, hb1⟩; rw [HT.out]; have B := Lib.hid hb1; clear hb1; unfold tagV fnV Tryd.tagF)
      | (go_at_call 36; refine (ine_any a c hc (by omega) _).mono ?_; rintro e w2 ⟨rfl, hb2⟩; have B2 := Lib.hid (below_step B.out hb2); clear hb2; rw [show goT .ine a c = _ from HO.out]; unfold rI))
    go_ret2
    exact ⟨by rw [HE.out, HO.out]; rfl, B2.out⟩

set_option maxHeartbeats 800000 in
theorem step_bd (k a c : Nat) (hc : c < 256) (ha : a < 14) (ht : tagI k a = some .bd) (w : World) :
    Calls Tryd.prog 17 #[.int .i64 (k : Int), .int .i64 (a : Int), .int .u8 (c : Int)] w fun e w' => e = stepE (stepI k a c) ∧ Below w.heap.size w w' := by
  have HE := Lib.hid (show stepI k a c = goT .bd a c by unfold stepI; rw [ht]; rfl)
  have HT := Lib.hid ht
  obtain ⟨o, ho⟩ : ∃ o, goT .bd a c = o := ⟨_, rfl⟩
  have HO := Lib.hid ho
  clear ht ho
  have hq : ∀ w, Sem.run Tryd.prog (binOp .eql 36 (.func (.func 37) #[] #[]) .nilFunc) w = .ok (.bool false) w := fun w => by kernel_rfl
  cases o with
  | none =>
    go_enter Tryd.func17, Tryd.ntmps17
    go_wp2_with (first
      | (go_at_call 20; refine (find_any _ _ _).mono ?_; rintro e w1 ⟨rfl, hb1⟩; rw [HT.out]; have B := Lib.hid hb1; clear hb1; unfold tagV fnV Tryd.tagF)
      | (go_at_call 37; refine (bd_any a c hc (by omega) _).mono ?_; rintro e w2 ⟨rfl, hb2⟩; have B2 := Lib.hid (below_step B.out hb2); clear hb2; rw [show bdO c = _ from HO.out]; unfold rI))
    go_ret2
    exact ⟨by rw [HE.out, HO.out]; rfl, B2.out⟩
  | some n =>
    have hn1 : ¬ (n : Int) = -1 := by omega
    go_enter Tryd.func17, Tryd.ntmps17
    go_wp2_with (first
      | (go_at_call 20; refine (find_any _ _ _).mono ?_; rintro e w1 ⟨rfl, hb1⟩; rw [HT.out]; have B := Lib.hid hb1; clear hb1; unfold tagV fnV Tryd.tagF)
      | (go_at_call 37; refine (bd_any a c hc (by omega) _).mono ?_; rintro e w2 ⟨rfl, hb2⟩; have B2 := Lib.hid (below_step B.out hb2); clear hb2; rw [show bdO c = _ from HO.out]; unfold rI))
    go_ret2
    exact ⟨by rw [HE.out, HO.out]; rfl, B2.out⟩

set_option maxHeartbeats 800000 in
theorem step_bg (k a c : Nat) (hc : c < 256) (ha : a < 14) (ht : tagI k a = some .bg) (w : World) :
    Calls Tryd.prog 17 #[.int .i64 (k : Int), .int .i64 (a : Int), .int .u8 (c : Int)] w fun e w' => e = stepE (stepI k a c) ∧ Below w.heap.size w w' := by
  have HE := Lib.hid (show stepI k a c = goT .bg a c by unfold stepI; rw [ht]; rfl)
  have HT := Lib.hid ht
  obtain ⟨o, ho⟩ : ∃ o, goT .bg a c = o := ⟨_, rfl⟩
  have HO := Lib.hid ho
  clear ht ho
  have hq : ∀ w, Sem.run Tryd.prog (binOp .eql 36 (.func (.func 38) #[] #[]) .nilFunc) w = .ok (.bool false) w := fun w => by kernel_rfl
  cases o with
  | none =>
    go_enter Tryd.func17, Tryd.ntmps17
    go_wp2_with (first
      | (go_at_call 20; refine (find_any _ _ _).mono ?_; rintro e w1 ⟨rfl, hb1⟩; rw [HT.out]; have B := Lib.hid hb1; clear hb1; unfold tagV fnV Tryd.tagF)
      | (go_at_call 38; refine (bg_any a c hc (by omega) _).mono ?_; rintro e w2 ⟨rfl, hb2⟩; have B2 := Lib.hid (below_step B.out hb2); clear hb2; rw [show goT .bg a c = _ from HO.out]; unfold rI))
    go_ret2
    exact ⟨by rw [HE.out, HO.out]; rfl, B2.out⟩
  | some n =>
    have hn1 : ¬ (n : Int) = -1 := by omega
    go_enter Tryd.func17, Tryd.ntmps17
    go_wp2_with (first
      | (go_at_call 20; refine (find_any _ _ _).mono ?_; rintro e w1 ⟨rfl, hb1⟩; rw [HT.out]; have B := Lib.hid hb1; clear hb1; unfold tagV fnV Tryd.tagF)
      | (go_at_call 38; refine (bg_any a c hc (by omega) _).mono ?_; rintro e w2 ⟨rfl, hb2⟩; have B2 := Lib.hid (below_step B.out hb2); clear hb2; rw [show goT .bg a c = _ from HO.out]; unfold rI))
    go_ret2
    exact ⟨by rw [HE.out, HO.out]; rfl, B2.out⟩

set_option maxHeartbeats 800000 in
theorem step_nm (k a c : Nat) (hc : c < 256) (ha : a < 14) (ht : tagI k a = some .nm) (w : World) :
    Calls Tryd.prog 17 #[.int .i64 (k : Int), .int .i64 (a : Int), .int .u8 (c : Int)] w fun e w' => e = stepE (stepI k a c) ∧ Below w.heap.size w w' := by
  have HE := Lib.hid (show stepI k a c = goT .nm a c by unfold stepI; rw [ht]; rfl)
  have HT := Lib.hid ht
  obtain ⟨o, ho⟩ : ∃ o, goT .nm a c = o := ⟨_, rfl⟩
  have HO := Lib.hid ho
  clear ht ho
  have hq : ∀ w, Sem.run Tryd.prog (binOp .eql 36 (.func (.func 39) #[] #[]) .nilFunc) w = .ok (.bool false) w := fun w => by kernel_rfl
  cases o with
  | none =>
    go_enter Tryd.func17, Tryd.ntmps17
    go_wp2_with (first
      | (go_at_call 20; refine (find_any _ _ _).mono ?_; rintro e w1 ⟨rfl, hb1⟩; rw [HT.out]; have B := Lib.hid hb1; clear hb1; unfold tagV fnV Tryd.tagF)
      | (go_at_call 39; refine (nm_any a c hc (by omega) _).mono ?_; rintro e w2 ⟨rfl, hb2⟩; have B2 := Lib.hid (below_step B.out hb2); clear hb2; rw [show goT .nm a c = _ from HO.out]; unfold rI))
    go_ret2
    exact ⟨by rw [HE.out, HO.out]; rfl, B2.out⟩
  | some n =>
    have hn1 : ¬ (n : Int) = -1 := by omega
    go_enter Tryd.func17, Tryd.ntmps17
    go_wp2_with (first
      | (go_at_call 20; refine (find_any _ _ _).mono ?_; rintro e w1 ⟨rfl, hb1⟩; rw [HT.out]; have B := Lib.hid hb1; clear hb1; unfold tagV fnV Tryd.tagF)
      | (go_at_call 39; refine (nm_any a c hc (by omega) _).mono ?_; rintro e w2 ⟨rfl, hb2⟩; have B2 := Lib.hid (below_step B.out hb2); clear hb2; rw [show goT .nm a c = _ from HO.out]; unfold rI))
    go_ret2
    exact ⟨by rw [HE.out, HO.out]; rfl, B2.out⟩

set_option maxHeartbeats 800000 in
theorem step_ze (k a c : Nat) (hc : c < 256) (ha : a < 14) (ht : tagI k a = some .ze) (w : World) :
    Calls Tryd.prog 17 #[.int .i64 (k : Int), .int .i64 (a : Int), .int .u8 (c : Int)] w fun e w' => e = stepE (stepI k a c) ∧ Below w.heap.size w w' := by
  have HE := Lib.hid (show stepI k a c = goT .ze a c by unfold stepI; rw [ht]; rfl)
  have HT := Lib.hid ht
  obtain ⟨o, ho⟩ : ∃ o, goT .ze a c = o := ⟨_, rfl⟩
  have HO := Lib.hid ho
  clear ht ho
  have hq : ∀ w, Sem.run Tryd.prog (binOp .eql 36 (.func (.func 40) #[] #[]) .nilFunc) w = .ok (.bool false) w := fun w => by kernel_rfl
  cases o with
  | none =>
    go_enter Tryd.func17, Tryd.ntmps17
    go_wp2_with (first
      | (go_at_call 20; refine (find_any _ _ _).mono ?_; rintro e w1 ⟨rfl, hb1⟩; rw [HT.out]; have B := Lib.hid hb1; clear hb1; unfold tagV fnV Tryd.tagF)
      | (go_at_call 40; refine (ze_any a c hc (by omega) _).mono ?_; rintro e w2 ⟨rfl, hb2⟩; have B2 := Lib.hid (below_step B.out hb2); clear hb2; rw [show zeO a c = _ from HO.out]; unfold rI))
    go_ret2
    exact ⟨by rw [HE.out, HO.out]; rfl, B2.out⟩
  | some n =>
    have hn1 : ¬ (n : Int) = -1 := by omega
    go_enter Tryd.func17, Tryd.ntmps17
    go_wp2_with (first
      | (go_at_call 20; refine (find_any _ _ _).mono ?_; rintro e w1 ⟨rfl, hb1⟩; rw [HT.out]; have B := Lib.hid hb1; clear hb1; unfold tagV fnV Tryd.tagF)
      | (go_at_call 40; refine (ze_any a c hc (by omega) _).mono ?_; rintro e w2 ⟨rfl, hb2⟩; have B2 := Lib.hid (below_step B.out hb2); clear hb2; rw [show zeO a c = _ from HO.out]; unfold rI))
    go_ret2
    exact ⟨by rw [HE.out, HO.out]; rfl, B2.out⟩

set_option maxHeartbeats 800000 in
theorem step_di (k a c : Nat) (hc : c < 256) (ha : a < 14) (h1 : 1 ≤ a) (ht : tagI k a = some .di) (w : World) :
    Calls Tryd.prog 17 #[.int .i64 (k : Int), .int .i64 (a : Int), .int .u8 (c : Int)] w fun e w' => e = stepE (stepI k a c) ∧ Below w.heap.size w w' := by
  have HE := Lib.hid (show stepI k a c = goT .di a c by unfold stepI; rw [ht]; rfl)
  have HT := Lib.hid ht
  obtain ⟨o, ho⟩ : ∃ o, goT .di a c = o := ⟨_, rfl⟩
  have HO := Lib.hid ho
  clear ht ho
  have hq : ∀ w, Sem.run Tryd.prog (binOp .eql 36 (.func (.func 41) #[] #[]) .nilFunc) w = .ok (.bool false) w := fun w => by kernel_rfl
  cases o with
  | none =>
    go_enter Tryd.func17, Tryd.ntmps17
    go_wp2_with (first
      | (go_at_call 20; refine (find_any _ _ _).mono ?_; rintro e w1 ⟨rfl, hb1⟩; rw [HT.out]; have B := Lib.hid hb1; clear hb1; unfold tagV fnV Tryd.tagF)
      | (go_at_call 41; refine (di_any a c hc h1 (by omega) _).mono ?_; rintro e w2 ⟨rfl, hb2⟩; have B2 := Lib.hid (below_step B.out hb2); clear hb2; rw [show goT .di a c = _ from HO.out]; unfold rI))
    go_ret2
    exact ⟨by rw [HE.out, HO.out]; rfl, B2.out⟩
  | some n =>
    have hn1 : ¬ (n : Int) = -1 := by omega
    go_enter Tryd.func17, Tryd.ntmps17
    go_wp2_with (first
      | (go_at_call 20; refine (find_any _ _ _).mono ?_; rintro e w1 ⟨rfl, hb1⟩; rw [HT.out]; have B := Lib.hid hb1; clear hb1; unfold tagV fnV Tryd.tagF)
      | (go_at_call 41; refine (di_any a c hc h1 (by omega) _).mono ?_; rintro e w2 ⟨rfl, hb2⟩; have B2 := Lib.hid (below_step B.out hb2); clear hb2; rw [show goT .di a c = _ from HO.out]; unfold rI))
    go_ret2
    exact ⟨by rw [HE.out, HO.out]; rfl, B2.out⟩

set_option maxHeartbeats 800000 in
theorem step_lz (k a c : Nat) (hc : c < 256) (ha : a < 14) (ht : tagI k a = some .lz) (w : World) :
    Calls Tryd.prog 17 #[.int .i64 (k : Int), .int .i64 (a : Int), .int .u8 (c : Int)] w fun e w' => e = stepE (stepI k a c) ∧ Below w.heap.size w w' := by
  have HE := Lib.hid (show stepI k a c = goT .lz a c by unfold stepI; rw [ht]; rfl)
  have HT := Lib.hid ht
  obtain ⟨o, ho⟩ : ∃ o, goT .lz a c = o := ⟨_, rfl⟩
  have HO := Lib.hid ho
  clear ht ho
  have hq : ∀ w, Sem.run Tryd.prog (binOp .eql 36 (.func (.func 42) #[] #[]) .nilFunc) w = .ok (.bool false) w := fun w => by kernel_rfl
  cases o with
  | none =>
    go_enter Tryd.func17, Tryd.ntmps17
    go_wp2_with (first
      | (go_at_call 20; refine (find_any _ _ _).mono ?_; rintro e w1 ⟨rfl, hb1⟩; rw [HT.out]; have B := Lib.hid hb1; clear hb1; unfold tagV fnV Tryd.tagF)
      | (go_at_call 42; refine (lz_any a c hc (by omega) _).mono ?_; rintro e w2 ⟨rfl, hb2⟩; have B2 := Lib.hid (below_step B.out hb2); clear hb2; rw [show lzO c = _ from HO.out]; unfold rI))
    go_ret2
    exact ⟨by rw [HE.out, HO.out]; rfl, B2.out⟩
  | some n =>
    have hn1 : ¬ (n : Int) = -1 := by omega
    go_enter Tryd.func17, Tryd.ntmps17
    go_wp2_with (first
      | (go_at_call 20; refine (find_any _ _ _).mono ?_; rintro e w1 ⟨rfl, hb1⟩; rw [HT.out]; have B := Lib.hid hb1; clear hb1; unfold tagV fnV Tryd.tagF)
      | (go_at_call 42; refine (lz_any a c hc (by omega) _).mono ?_; rintro e w2 ⟨rfl, hb2⟩; have B2 := Lib.hid (below_step B.out hb2); clear hb2; rw [show lzO c = _ from HO.out]; unfold rI))
    go_ret2
    exact ⟨by rw [HE.out, HO.out]; rfl, B2.out⟩

set_option maxHeartbeats 800000 in
theorem step_ld (k a c : Nat) (hc : c < 256) (ha : a < 14) (ht : tagI k a = some .ld) (w : World) :
    Calls Tryd.prog 17 #[.int .i64 (k : Int), .int .i64 (a : Int), .int .u8 (c : Int)] w fun e w' => e = stepE (stepI k a c) ∧ Below w.heap.size w w' := by
  have HE := Lib.hid (show stepI k a c = goT .ld a c by unfold stepI; rw [ht]; rfl)
  have HT := Lib.hid ht
  obtain ⟨o, ho⟩ : ∃ o, goT .ld a c = o := ⟨_, rfl⟩
  have HO := Lib.hid ho
  clear ht ho
  have hq : ∀ w, Sem.run Tryd.prog (binOp .eql 36 (.func (.func 43) #[] #[]) .nilFunc) w = .ok (.bool false) w := fun w => by kernel_rfl
  cases o with
  | none =>
    go_enter Tryd.func17, Tryd.ntmps17
    go_wp2_with (first
      | (go_at_call 20; refine (find_any _ _ _).mono ?_; rintro e w1 ⟨rfl, hb1⟩; rw [HT.out]; have B := Lib.hid hb1; clear hb1; unfold tagV fnV Tryd.tagF)
      | (go_at_call 43; refine (ld_any a c hc (by omega) _).mono ?_; rintro e w2 ⟨rfl, hb2⟩; have B2 := Lib.hid (below_step B.out hb2); clear hb2; rw [show goT .ld a c = _ from HO.out]; unfold rI))
    go_ret2
    exact ⟨by rw [HE.out, HO.out]; rfl, B2.out⟩
  | some n =>
    have hn1 : ¬ (n : Int) = -1 := by omega
    go_enter Tryd.func17, Tryd.ntmps17
    go_wp2_with (first
      | (go_at_call 20; refine (find_any _ _ _).mono ?_; rintro e w1 ⟨rfl, hb1⟩; rw [HT.out]; have B := Lib.hid hb1; clear hb1; unfold tagV fnV Tryd.tagF)
      | (go_at_call 43; refine (ld_any a c hc (by omega) _).mono ?_; rintro e w2 ⟨rfl, hb2⟩; have B2 := Lib.hid (below_step B.out hb2); clear hb2; rw [show goT .ld a c = _ from HO.out]; unfold rI))
    go_ret2
    exact ⟨by rw [HE.out, HO.out]; rfl, B2.out⟩

set_option maxHeartbeats 800000 in
theorem step_wd (k a c : Nat) (hc : c < 256) (ha : a < 14) (ht : tagI k a = some .wd) (w : World) :
    Calls Tryd.prog 17 #[.int .i64 (k : Int), .int .i64 (a : Int), .int .u8 (c : Int)] w fun e w' => e = stepE (stepI k a c) ∧ Below w.heap.size w w' := by
  have HE := Lib.hid (show stepI k a c = goT .wd a c by unfold stepI; rw [ht]; rfl)
  have HT := Lib.hid ht
  obtain ⟨o, ho⟩ : ∃ o, goT .wd a c = o := ⟨_, rfl⟩
  have HO := Lib.hid ho
  clear ht ho
  have hq : ∀ w, Sem.run Tryd.prog (binOp .eql 36 (.func (.func 44) #[] #[]) .nilFunc) w = .ok (.bool false) w := fun w => by kernel_rfl
  cases o with
  | none =>
    go_enter Tryd.func17, Tryd.ntmps17
    go_wp2_with (first
      | (go_at_call 20; refine (find_any _ _ _).mono ?_; rintro e w1 ⟨rfl, hb1⟩; rw [HT.out]; have B := Lib.hid hb1; clear hb1; unfold tagV fnV Tryd.tagF)
      | (go_at_call 44; refine (wd_any a c hc (by omega) _).mono ?_; rintro e w2 ⟨rfl, hb2⟩; have B2 := Lib.hid (below_step B.out hb2); clear hb2; rw [show goT .wd a c = _ from HO.out]; unfold rI))
    go_ret2
    exact ⟨by rw [HE.out, HO.out]; rfl, B2.out⟩
  | some n =>
    have hn1 : ¬ (n : Int) = -1 := by omega
    go_enter Tryd.func17, Tryd.ntmps17
    go_wp2_with (first
      | (go_at_call 20; refine (find_any _ _ _).mono ?_; rintro e w1 ⟨rfl, hb1⟩; rw [HT.out]; have B := Lib.hid hb1; clear hb1; unfold tagV fnV Tryd.tagF)
      | (go_at_call 44; refine (wd_any a c hc (by omega) _).mono ?_; rintro e w2 ⟨rfl, hb2⟩; have B2 := Lib.hid (below_step B.out hb2); clear hb2; rw [show goT .wd a c = _ from HO.out]; unfold rI))
    go_ret2
    exact ⟨by rw [HE.out, HO.out]; rfl, B2.out⟩

set_option maxHeartbeats 800000 in
theorem step_bz (k a c : Nat) (hc : c < 256) (ha : a < 14) (ht : tagI k a = some .bz) (w : World) :
    Calls Tryd.prog 17 #[.int .i64 (k : Int), .int .i64 (a : Int), .int .u8 (c : Int)] w fun e w' => e = stepE (stepI k a c) ∧ Below w.heap.size w w' := by
  have HE := Lib.hid (show stepI k a c = goT .bz a c by unfold stepI; rw [ht]; rfl)
  have HT := Lib.hid ht
  obtain ⟨o, ho⟩ : ∃ o, goT .bz a c = o := ⟨_, rfl⟩
  have HO := Lib.hid ho
  clear ht ho
  have hq : ∀ w, Sem.run Tryd.prog (binOp .eql 36 (.func (.func 45) #[] #[]) .nilFunc) w = .ok (.bool false) w := fun w => by kernel_rfl
  cases o with
  | none =>
    go_enter Tryd.func17, Tryd.ntmps17
    go_wp2_with (first
      | (go_at_call 20; refine (find_any _ _ _).mono ?_; rintro e w1 ⟨rfl, hb1⟩; rw [HT.out]; have B := Lib.hid hb1; clear hb1; unfold tagV fnV Tryd.tagF)
      | (go_at_call 45; refine (bz_any a c hc (by omega) _).mono ?_; rintro e w2 ⟨rfl, hb2⟩; have B2 := Lib.hid (below_step B.out hb2); clear hb2; rw [show bzO c = _ from HO.out]; unfold rI))
    go_ret2
    exact ⟨by rw [HE.out, HO.out]; rfl, B2.out⟩
  | some n =>
    have hn1 : ¬ (n : Int) = -1 := by omega
    go_enter Tryd.func17, Tryd.ntmps17
    go_wp2_with (first
      | (go_at_call 20; refine (find_any _ _ _).mono ?_; rintro e w1 ⟨rfl, hb1⟩; rw [HT.out]; have B := Lib.hid hb1; clear hb1; unfold tagV fnV Tryd.tagF)
      | (go_at_call 45; refine (bz_any a c hc (by omega) _).mono ?_; rintro e w2 ⟨rfl, hb2⟩; have B2 := Lib.hid (below_step B.out hb2); clear hb2; rw [show bzO c = _ from HO.out]; unfold rI))
    go_ret2
    exact ⟨by rw [HE.out, HO.out]; rfl, B2.out⟩

set_option maxHeartbeats 800000 in
theorem step_iw (k a c : Nat) (hc : c < 256) (ha : a < 14) (ht : tagI k a = some .iw) (w : World) :
    Calls Tryd.prog 17 #[.int .i64 (k : Int), .int .i64 (a : Int), .int .u8 (c : Int)] w fun e w' => e = stepE (stepI k a c) ∧ Below w.heap.size w w' := by
  have HE := Lib.hid (show stepI k a c = goT .iw a c by unfold stepI; rw [ht]; rfl)
  have HT := Lib.hid ht
  obtain ⟨o, ho⟩ : ∃ o, goT .iw a c = o := ⟨_, rfl⟩
  have HO := Lib.hid ho
  clear ht ho
  have hq : ∀ w, Sem.run Tryd.prog (binOp .eql 36 (.func (.func 46) #[] #[]) .nilFunc) w = .ok (.bool false) w := fun w => by kernel_rfl
  cases o with
  | none =>
    go_enter Tryd.func17, Tryd.ntmps17
    go_wp2_with (first
      | (go_at_call 20; refine (find_any _ _ _).mono ?_; rintro e w1 ⟨rfl, hb1⟩; rw [HT.out]; have B := Lib.hid hb1; clear hb1; unfold tagV fnV Tryd.tagF)
      | (go_at_call 46; refine (iw_any a c hc (by omega) _).mono ?_; rintro e w2 ⟨rfl, hb2⟩; have B2 := Lib.hid (below_step B.out hb2); clear hb2; rw [show iwO c = _ from HO.out]; unfold rI))
    go_ret2
    exact ⟨by rw [HE.out, HO.out]; rfl, B2.out⟩
  | some n =>
    have hn1 : ¬ (n : Int) = -1 := by omega
    go_enter Tryd.func17, Tryd.ntmps17
    go_wp2_with (first
      | (go_at_call 20; refine (find_any _ _ _).mono ?_; rintro e w1 ⟨rfl, hb1⟩; rw [HT.out]; have B := Lib.hid hb1; clear hb1; unfold tagV fnV Tryd.tagF)
      | (go_at_call 46; refine (iw_any a c hc (by omega) _).mono ?_; rintro e w2 ⟨rfl, hb2⟩; have B2 := Lib.hid (below_step B.out hb2); clear hb2; rw [show iwO c = _ from HO.out]; unfold rI))
    go_ret2
    exact ⟨by rw [HE.out, HO.out]; rfl, B2.out⟩

set_option maxHeartbeats 800000 in
theorem step_bzs (k a c : Nat) (hc : c < 256) (ha : a < 14) (ht : tagI k a = some .bzs) (w : World) :
    Calls Tryd.prog 17 #[.int .i64 (k : Int), .int .i64 (a : Int), .int .u8 (c : Int)] w fun e w' => e = stepE (stepI k a c) ∧ Below w.heap.size w w' := by
  have HE := Lib.hid (show stepI k a c = goT .bzs a c by unfold stepI; rw [ht]; rfl)
  have HT := Lib.hid ht
  obtain ⟨o, ho⟩ : ∃ o, goT .bzs a c = o := ⟨_, rfl⟩
  have HO := Lib.hid ho
  clear ht ho
  have hq : ∀ w, Sem.run Tryd.prog (binOp .eql 36 (.func (.func 47) #[] #[]) .nilFunc) w = .ok (.bool false) w := fun w => by kernel_rfl
  cases o with
  | none =>
    go_enter Tryd.func17, Tryd.ntmps17
    go_wp2_with (first
      | (go_at_call 20; refine (find_any _ _ _).mono ?_; rintro e w1 ⟨rfl, hb1⟩; rw [HT.out]; have B := Lib.hid hb1; clear hb1; unfold tagV fnV Tryd.tagF)
      | (go_at_call 47; refine (bzs_any a c hc (by omega) _).mono ?_; rintro e w2 ⟨rfl, hb2⟩; have B2 := Lib.hid (below_step B.out hb2); clear hb2; rw [show goT .bzs a c = _ from HO.out]; unfold rI))
    go_ret2
    exact ⟨by rw [HE.out, HO.out]; rfl, B2.out⟩
  | some n =>
    have hn1 : ¬ (n : Int) = -1 := by omega
    go_enter Tryd.func17, Tryd.ntmps17
    go_wp2_with (first
      | (go_at_call 20; refine (find_any _ _ _).mono ?_; rintro e w1 ⟨rfl, hb1⟩; rw [HT.out]; have B := Lib.hid hb1; clear hb1; unfold tagV fnV Tryd.tagF)
      | (go_at_call 47; refine (bzs_any a c hc (by omega) _).mono ?_; rintro e w2 ⟨rfl, hb2⟩; have B2 := Lib.hid (below_step B.out hb2); clear hb2; rw [show goT .bzs a c = _ from HO.out]; unfold rI))
    go_ret2
    exact ⟨by rw [HE.out, HO.out]; rfl, B2.out⟩

set_option maxHeartbeats 800000 in
theorem step_en (k a c : Nat) (hc : c < 256) (ha : a < 14) (ht : tagI k a = some .en) (w : World) :
    Calls Tryd.prog 17 #[.int .i64 (k : Int), .int .i64 (a : Int), .int .u8 (c : Int)] w fun e w' => e = stepE (stepI k a c) ∧ Below w.heap.size w w' := by
  have HE := Lib.hid (show stepI k a c = goT .en a c by unfold stepI; rw [ht]; rfl)
  have HT := Lib.hid ht
  obtain ⟨o, ho⟩ : ∃ o, goT .en a c = o := ⟨_, rfl⟩
  have HO := Lib.hid ho
  clear ht ho
  have hq : ∀ w, Sem.run Tryd.prog (binOp .eql 36 (.func (.func 48) #[] #[]) .nilFunc) w = .ok (.bool false) w := fun w => by kernel_rfl
  cases o with
  | none =>
    go_enter Tryd.func17, Tryd.ntmps17
    go_wp2_with (first
      | (go_at_call 20; refine (find_any _ _ _).mono ?_; rintro e w1 ⟨rfl, hb1⟩; rw [HT.out]; have B := Lib.hid hb1; clear hb1; unfold tagV fnV Tryd.tagF)
      | (go_at_call 48; refine (en_any a c hc (by omega) _).mono ?_; rintro e w2 ⟨rfl, hb2⟩; have B2 := Lib.hid (below_step B.out hb2); clear hb2; rw [show goT .en a c = _ from HO.out]; unfold rI))
    go_ret2
    exact ⟨by rw [HE.out, HO.out]; rfl, B2.out⟩
  | some n =>
    exact absurd HO.out (by simp [goT])

set_option maxHeartbeats 800000 in
theorem step_ed (k a c : Nat) (hc : c < 256) (ha : a < 14) (ht : tagI k a = some .ed) (w : World) :
    Calls Tryd.prog 17 #[.int .i64 (k : Int), .int .i64 (a : Int), .int .u8 (c : Int)] w fun e w' => e = stepE (stepI k a c) ∧ Below w.heap.size w w' := by
  have HE := Lib.hid (show stepI k a c = goT .ed a c by unfold stepI; rw [ht]; rfl)
  have HT := Lib.hid ht
  obtain ⟨o, ho⟩ : ∃ o, goT .ed a c = o := ⟨_, rfl⟩
  have HO := Lib.hid ho
  clear ht ho
  have hq : ∀ w, Sem.run Tryd.prog (binOp .eql 36 (.func (.func 49) #[] #[]) .nilFunc) w = .ok (.bool false) w := fun w => by kernel_rfl
  cases o with
  | none =>
    go_enter Tryd.func17, Tryd.ntmps17
    go_wp2_with (first
      | (go_at_call 20; refine (find_any _ _ _).mono ?_; rintro e w1 ⟨rfl, hb1⟩; rw [HT.out]; have B := Lib.hid hb1; clear hb1; unfold tagV fnV Tryd.tagF)
      | (go_at_call 49; refine (ed_any a c hc (by omega) _).mono ?_; rintro e w2 ⟨rfl, hb2⟩; have B2 := Lib.hid (below_step B.out hb2); clear hb2; rw [show goT .ed a c = _ from HO.out]; unfold rI))
    go_ret2
    exact ⟨by rw [HE.out, HO.out]; rfl, B2.out⟩
  | some n =>
    have hn1 : ¬ (n : Int) = -1 := by omega
    go_enter Tryd.func17, Tryd.ntmps17
    go_wp2_with (first
      | (go_at_call 20; refine (find_any _ _ _).mono ?_; rintro e w1 ⟨rfl, hb1⟩; rw [HT.out]; have B := Lib.hid hb1; clear hb1; unfold tagV fnV Tryd.tagF)
      | (go_at_call 49; refine (ed_any a c hc (by omega) _).mono ?_; rintro e w2 ⟨rfl, hb2⟩; have B2 := Lib.hid (below_step B.out hb2); clear hb2; rw [show goT .ed a c = _ from HO.out]; unfold rI))
    go_ret2
    exact ⟨by rw [HE.out, HO.out]; rfl, B2.out⟩

set_option maxHeartbeats 400000 in
theorem step_any (k a : Int) (c : Nat) (hc : c < 256) (w : World) :
    Calls Tryd.prog 17 #[.int .i64 k, .int .i64 a, .int .u8 (c : Int)] w fun e w' => e = stepE (stepI k a c) ∧ Below w.heap.size w w' := by
  cases ht : tagI k a with
  | none =>
    have E : stepI k a c = none := by unfold stepI; rw [ht]
    have hq : ∀ w, Sem.run Tryd.prog (binOp .eql 36 .nilFunc .nilFunc) w = .ok (.bool true) w := fun w => by kernel_rfl
    go_enter Tryd.func17, Tryd.ntmps17
    go_wp2_with (go_at_call 20; refine (find_any k a _).mono ?_; rintro e w1 ⟨rfl, hb1⟩; rw [ht]; unfold tagV)
    go_ret2
    exact ⟨by rw [E]; rfl, hb1⟩
  | some t =>
    obtain ⟨k', a', rfl, rfl, hk, ha, hn⟩ := tagI_bd ht
    cases t
    · exact step_el k' a' c hc ha ht w
    · exact step_ine k' a' c hc ha ht w
    · exact step_bd k' a' c hc ha ht w
    · exact step_bg k' a' c hc ha ht w
    · exact step_nm k' a' c hc ha ht w
    · exact step_ze k' a' c hc ha ht w
    · exact step_di k' a' c hc ha (di_pos ⟨k', hk⟩ ⟨a', ha⟩ hn) ht w
    · exact step_lz k' a' c hc ha ht w
    · exact step_ld k' a' c hc ha ht w
    · exact step_wd k' a' c hc ha ht w
    · exact step_bz k' a' c hc ha ht w
    · exact step_iw k' a' c hc ha ht w
    · exact step_bzs k' a' c hc ha ht w
    · exact step_en k' a' c hc ha ht w
    · exact step_ed k' a' c hc ha ht w
end Go.Proofs.YtjlnajokkhdhnaaDoor
