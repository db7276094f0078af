/- The contracts of word's states: what goes on from each by an octet. -/
import Derived.Test.YtjlnajokkhdhnaaDoorWorM
namespace Go.Proofs.YtjlnajokkhdhnaaDoor
open Go.RowKit
set_option maxRecDepth 100000
set_option linter.unusedSimpArgs false
set_option linter.unusedVariables false

/-- Where it goes, as the program tells it. -/
def rI (o : Option Nat) : Int := match o with
  | none => -1
  | some n => (n : Int)
theorem rI_none : rI none = -1 := rfl
theorem rI_some (n : Nat) : rI (some n) = (n : Int) := rfl

set_option maxHeartbeats 400000 in
theorem el_any (a c : Nat) (hc : c < 256) (_ha : a ≤ 1000) (w : World) :
    Calls Tryd.prog 35 #[.int .i64 (a : Int), .int .u8 (c : Int)] w fun e w' => e = .returned (.int .i64 (rI (elO c))) ∧ Below w.heap.size w w' := by
  by_cases h0 : c = 46
  · subst h0
    go_enter Tryd.func35, Tryd.ntmps35
    go_wp2
    go_ret
    exact ⟨ret_int (by simp [goT, elO, bdO, zeO, lzO, iwO, bzO, woO, dgO, rI]), Below.refl _ _⟩
  · have h0i : ¬ (c : Int) = 46 := by omega
    cases h1 : hasB [1, 2, 3] (clsI (c : Int))
    · go_enter Tryd.func35, Tryd.ntmps35
      go_wp2_with (first
        | (go_at_call 57; refine (in_any (c : Int) (by omega) (by omega) _ [1, 2, 3] _ (Ints.lit _ _ [1, 2, 3] _ rfl (by simp))).mono ?_; rintro e w1 ⟨rfl, hb1⟩; rw [h1]; have B := below_step ((Below.refl _ _).alloc (Nat.le_refl _) _) hb1; clear hb1))
      go_ret
      exact ⟨ret_int (by simp [goT, elO, bdO, zeO, lzO, iwO, bzO, woO, dgO, rI, h0, h1]), B⟩
    · go_enter Tryd.func35, Tryd.ntmps35
      go_wp2_with (first
        | (go_at_call 57; refine (in_any (c : Int) (by omega) (by omega) _ [1, 2, 3] _ (Ints.lit _ _ [1, 2, 3] _ rfl (by simp))).mono ?_; rintro e w1 ⟨rfl, hb1⟩; rw [h1]; have B := below_step ((Below.refl _ _).alloc (Nat.le_refl _) _) hb1; clear hb1))
      go_ret
      exact ⟨ret_int (by simp [goT, elO, bdO, zeO, lzO, iwO, bzO, woO, dgO, rI, h0, h1]), B⟩

set_option maxHeartbeats 400000 in
theorem bd_any (a c : Nat) (hc : c < 256) (_ha : a ≤ 1000) (w : World) :
    Calls Tryd.prog 37 #[.int .i64 (a : Int), .int .u8 (c : Int)] w fun e w' => e = .returned (.int .i64 (rI (bdO c))) ∧ Below w.heap.size w w' := by
  by_cases h0 : c = 46
  · subst h0
    go_enter Tryd.func37, Tryd.ntmps37
    go_wp2
    go_ret
    exact ⟨ret_int (by simp [goT, elO, bdO, zeO, lzO, iwO, bzO, woO, dgO, rI]), Below.refl _ _⟩
  · have h0i : ¬ (c : Int) = 46 := by omega
    go_enter Tryd.func37, Tryd.ntmps37
    go_wp2_with (first
      | (go_at_call 35; refine (el_any a c hc (by omega) _).mono ?_; rintro e w2 ⟨rfl, hb2⟩; have B2 := hb2))
    go_ret
    exact ⟨ret_int (by simp [goT, elO, bdO, zeO, lzO, iwO, bzO, woO, dgO, rI, h0]), B2⟩

set_option maxHeartbeats 400000 in
theorem ine_any (a c : Nat) (hc : c < 256) (_ha : a ≤ 1000) (w : World) :
    Calls Tryd.prog 36 #[.int .i64 (a : Int), .int .u8 (c : Int)] w fun e w' => e = .returned (.int .i64 (rI (goT .ine a c))) ∧ Below w.heap.size w w' := by
  by_cases h0 : c = 47
  · subst h0
    go_enter Tryd.func36, Tryd.ntmps36
    go_wp2
    go_ret
    exact ⟨ret_int (by simp [goT, elO, bdO, zeO, lzO, iwO, bzO, woO, dgO, rI]), Below.refl _ _⟩
  · have h0i : ¬ (c : Int) = 47 := by omega
    go_enter Tryd.func36, Tryd.ntmps36
    go_wp2_with (first
      | (go_at_call 37; refine (bd_any a c hc (by omega) _).mono ?_; rintro e w2 ⟨rfl, hb2⟩; have B2 := hb2))
    go_ret
    exact ⟨ret_int (by simp [goT, elO, bdO, zeO, lzO, iwO, bzO, woO, dgO, rI, h0]), B2⟩

set_option maxHeartbeats 400000 in
theorem bg_any (a c : Nat) (hc : c < 256) (_ha : a ≤ 1000) (w : World) :
    Calls Tryd.prog 38 #[.int .i64 (a : Int), .int .u8 (c : Int)] w fun e w' => e = .returned (.int .i64 (rI (goT .bg a c))) ∧ Below w.heap.size w w' := by
  by_cases h0 : c = 118
  · subst h0
    go_enter Tryd.func38, Tryd.ntmps38
    go_wp2
    go_ret
    exact ⟨ret_int (by simp [goT, elO, bdO, zeO, lzO, iwO, bzO, woO, dgO, rI]), Below.refl _ _⟩
  · have h0i : ¬ (c : Int) = 118 := by omega
    go_enter Tryd.func38, Tryd.ntmps38
    go_wp2
    go_ret
    exact ⟨ret_int (by simp [goT, elO, bdO, zeO, lzO, iwO, bzO, woO, dgO, rI, h0]), Below.refl _ _⟩

set_option maxHeartbeats 400000 in
theorem nm_any (a c : Nat) (hc : c < 256) (_ha : a ≤ 1000) (w : World) :
    Calls Tryd.prog 39 #[.int .i64 (a : Int), .int .u8 (c : Int)] w fun e w' => e = .returned (.int .i64 (rI (goT .nm a c))) ∧ Below w.heap.size w w' := by
  by_cases h0 : c = 48
  · subst h0
    go_enter Tryd.func39, Tryd.ntmps39
    go_wp2
    go_ret
    exact ⟨ret_int (by simp [goT, elO, bdO, zeO, lzO, iwO, bzO, woO, dgO, rI]), Below.refl _ _⟩
  · have h0i : ¬ (c : Int) = 48 := by omega
    cases h1 : hasB [1] (clsI (c : Int))
    · go_enter Tryd.func39, Tryd.ntmps39
      go_wp2_with (first
        | (go_at_call 57; refine (in_any (c : Int) (by omega) (by omega) _ [1] _ (Ints.lit _ _ [1] _ rfl (by simp))).mono ?_; rintro e w1 ⟨rfl, hb1⟩; rw [h1]; have B := below_step ((Below.refl _ _).alloc (Nat.le_refl _) _) hb1; clear hb1))
      go_ret
      exact ⟨ret_int (by simp [goT, elO, bdO, zeO, lzO, iwO, bzO, woO, dgO, rI, h0, h1]), B⟩
    · go_enter Tryd.func39, Tryd.ntmps39
      go_wp2_with (first
        | (go_at_call 57; refine (in_any (c : Int) (by omega) (by omega) _ [1] _ (Ints.lit _ _ [1] _ rfl (by simp))).mono ?_; rintro e w1 ⟨rfl, hb1⟩; rw [h1]; have B := below_step ((Below.refl _ _).alloc (Nat.le_refl _) _) hb1; clear hb1))
      go_ret
      exact ⟨ret_int (by simp [goT, elO, bdO, zeO, lzO, iwO, bzO, woO, dgO, rI, h0, h1]), B⟩

set_option maxHeartbeats 400000 in
theorem ze_any (a c : Nat) (hc : c < 256) (_ha : a ≤ 1000) (w : World) :
    Calls Tryd.prog 40 #[.int .i64 (a : Int), .int .u8 (c : Int)] w fun e w' => e = .returned (.int .i64 (rI (zeO a c))) ∧ Below w.heap.size w w' := by
  by_cases h0 : c = 46
  · subst h0
    go_enter Tryd.func40, Tryd.ntmps40
    go_wp2
    go_ret
    exact ⟨ret_int (by simp [goT, elO, bdO, zeO, lzO, iwO, bzO, woO, dgO, rI]), Below.refl _ _⟩
  · have h0i : ¬ (c : Int) = 46 := by omega
    go_enter Tryd.func40, Tryd.ntmps40
    go_wp2
    go_ret
    exact ⟨ret_int (by simp [goT, elO, bdO, zeO, lzO, iwO, bzO, woO, dgO, rI, h0]), Below.refl _ _⟩

set_option maxHeartbeats 400000 in
theorem di_any (a c : Nat) (hc : c < 256) (ha : 1 ≤ a) (ha2 : a ≤ 1000) (w : World) :
    Calls Tryd.prog 41 #[.int .i64 (a : Int), .int .u8 (c : Int)] w fun e w' => e = .returned (.int .i64 (rI (goT .di a c))) ∧ Below w.heap.size w w' := by
  cases h0 : hasB [1] (clsI (c : Int))
  · have E1 := Lib.hid (show (a : Int) - 1 = ((a - 1 : Nat) : Int) by omega)
    go_enter Tryd.func41, Tryd.ntmps41
    go_wp2_with (first
      | (go_at_call 57; refine (in_any (c : Int) (by omega) (by omega) _ [1] _ (Ints.lit _ _ [1] _ rfl (by simp))).mono ?_; rintro e w1 ⟨rfl, hb1⟩; rw [h0]; have B := below_step ((Below.refl _ _).alloc (Nat.le_refl _) _) hb1; clear hb1)
      | (go_at_call 40; (first | rw [E1.out] | skip); refine (ze_any (a - 1) c hc (by omega) _).mono ?_; rintro e w2 ⟨rfl, hb2⟩; have B2 := below_step B hb2))
    go_ret
    exact ⟨ret_int (by simp [goT, elO, bdO, zeO, lzO, iwO, bzO, woO, dgO, rI, h0]), B2⟩
  · go_enter Tryd.func41, Tryd.ntmps41
    go_wp2_with (first
      | (go_at_call 57; refine (in_any (c : Int) (by omega) (by omega) _ [1] _ (Ints.lit _ _ [1] _ rfl (by simp))).mono ?_; rintro e w1 ⟨rfl, hb1⟩; rw [h0]; have B := below_step ((Below.refl _ _).alloc (Nat.le_refl _) _) hb1; clear hb1))
    go_ret
    exact ⟨ret_int (by simp [goT, elO, bdO, zeO, lzO, iwO, bzO, woO, dgO, rI, h0]), B⟩

set_option maxHeartbeats 400000 in
theorem lz_any (a c : Nat) (hc : c < 256) (_ha : a ≤ 1000) (w : World) :
    Calls Tryd.prog 42 #[.int .i64 (a : Int), .int .u8 (c : Int)] w fun e w' => e = .returned (.int .i64 (rI (lzO c))) ∧ Below w.heap.size w w' := by
  by_cases h0 : c = 45
  · subst h0
    go_enter Tryd.func42, Tryd.ntmps42
    go_wp2
    go_ret
    exact ⟨ret_int (by simp [goT, elO, bdO, zeO, lzO, iwO, bzO, woO, dgO, rI]), Below.refl _ _⟩
  · have h0i : ¬ (c : Int) = 45 := by omega
    go_enter Tryd.func42, Tryd.ntmps42
    go_wp2
    go_ret
    exact ⟨ret_int (by simp [goT, elO, bdO, zeO, lzO, iwO, bzO, woO, dgO, rI, h0]), Below.refl _ _⟩

set_option maxHeartbeats 400000 in
theorem ld_any (a c : Nat) (hc : c < 256) (_ha : a ≤ 1000) (w : World) :
    Calls Tryd.prog 43 #[.int .i64 (a : Int), .int .u8 (c : Int)] w fun e w' => e = .returned (.int .i64 (rI (goT .ld a c))) ∧ Below w.heap.size w w' := by
  cases h0 : hasB [1] (clsI (c : Int))
  · go_enter Tryd.func43, Tryd.ntmps43
    go_wp2_with (first
      | (go_at_call 57; refine (in_any (c : Int) (by omega) (by omega) _ [1] _ (Ints.lit _ _ [1] _ rfl (by simp))).mono ?_; rintro e w1 ⟨rfl, hb1⟩; rw [h0]; have B := below_step ((Below.refl _ _).alloc (Nat.le_refl _) _) hb1; clear hb1)
      | (go_at_call 42; refine (lz_any a c hc (by omega) _).mono ?_; rintro e w2 ⟨rfl, hb2⟩; have B2 := below_step B hb2))
    go_ret
    exact ⟨ret_int (by simp [goT, elO, bdO, zeO, lzO, iwO, bzO, woO, dgO, rI, h0]), B2⟩
  · go_enter Tryd.func43, Tryd.ntmps43
    go_wp2_with (first
      | (go_at_call 57; refine (in_any (c : Int) (by omega) (by omega) _ [1] _ (Ints.lit _ _ [1] _ rfl (by simp))).mono ?_; rintro e w1 ⟨rfl, hb1⟩; rw [h0]; have B := below_step ((Below.refl _ _).alloc (Nat.le_refl _) _) hb1; clear hb1))
    go_ret
    exact ⟨ret_int (by simp [goT, elO, bdO, zeO, lzO, iwO, bzO, woO, dgO, rI, h0]), B⟩

set_option maxHeartbeats 400000 in
theorem wd_any (a c : Nat) (hc : c < 256) (_ha : a ≤ 1000) (w : World) :
    Calls Tryd.prog 44 #[.int .i64 (a : Int), .int .u8 (c : Int)] w fun e w' => e = .returned (.int .i64 (rI (goT .wd a c))) ∧ Below w.heap.size w w' := by
  by_cases h0 : c = 48
  · subst h0
    go_enter Tryd.func44, Tryd.ntmps44
    go_wp2
    go_ret
    exact ⟨ret_int (by simp [goT, elO, bdO, zeO, lzO, iwO, bzO, woO, dgO, rI]), Below.refl _ _⟩
  · have h0i : ¬ (c : Int) = 48 := by omega
    by_cases h1 : c = 45
    · subst h1
      go_enter Tryd.func44, Tryd.ntmps44
      go_wp2
      go_ret
      exact ⟨ret_int (by simp [goT, elO, bdO, zeO, lzO, iwO, bzO, woO, dgO, rI, h0]), Below.refl _ _⟩
    · have h1i : ¬ (c : Int) = 45 := by omega
      cases h2 : hasB [1, 2] (clsI (c : Int))
      · go_enter Tryd.func44, Tryd.ntmps44
        go_wp2_with (first
          | (go_at_call 57; refine (in_any (c : Int) (by omega) (by omega) _ [1, 2] _ (Ints.lit _ _ [1, 2] _ rfl (by simp))).mono ?_; rintro e w1 ⟨rfl, hb1⟩; rw [h2]; have B := below_step ((Below.refl _ _).alloc (Nat.le_refl _) _) hb1; clear hb1))
        go_ret
        exact ⟨ret_int (by simp [goT, elO, bdO, zeO, lzO, iwO, bzO, woO, dgO, rI, h0, h1, h2]), B⟩
      · go_enter Tryd.func44, Tryd.ntmps44
        go_wp2_with (first
          | (go_at_call 57; refine (in_any (c : Int) (by omega) (by omega) _ [1, 2] _ (Ints.lit _ _ [1, 2] _ rfl (by simp))).mono ?_; rintro e w1 ⟨rfl, hb1⟩; rw [h2]; have B := below_step ((Below.refl _ _).alloc (Nat.le_refl _) _) hb1; clear hb1))
        go_ret
        exact ⟨ret_int (by simp [goT, elO, bdO, zeO, lzO, iwO, bzO, woO, dgO, rI, h0, h1, h2]), B⟩

set_option maxHeartbeats 400000 in
theorem iw_any (a c : Nat) (hc : c < 256) (_ha : a ≤ 1000) (w : World) :
    Calls Tryd.prog 46 #[.int .i64 (a : Int), .int .u8 (c : Int)] w fun e w' => e = .returned (.int .i64 (rI (iwO c))) ∧ Below w.heap.size w w' := by
  by_cases h0 : c = 46
  · subst h0
    go_enter Tryd.func46, Tryd.ntmps46
    go_wp2
    go_ret
    exact ⟨ret_int (by simp [goT, elO, bdO, zeO, lzO, iwO, bzO, woO, dgO, rI]), Below.refl _ _⟩
  · have h0i : ¬ (c : Int) = 46 := by omega
    by_cases h1 : c = 45
    · subst h1
      go_enter Tryd.func46, Tryd.ntmps46
      go_wp2
      go_ret
      exact ⟨ret_int (by simp [goT, elO, bdO, zeO, lzO, iwO, bzO, woO, dgO, rI, h0]), Below.refl _ _⟩
    · have h1i : ¬ (c : Int) = 45 := by omega
      cases h2 : hasB [1, 2] (clsI (c : Int))
      · go_enter Tryd.func46, Tryd.ntmps46
        go_wp2_with (first
          | (go_at_call 57; refine (in_any (c : Int) (by omega) (by omega) _ [1, 2] _ (Ints.lit _ _ [1, 2] _ rfl (by simp))).mono ?_; rintro e w1 ⟨rfl, hb1⟩; rw [h2]; have B := below_step ((Below.refl _ _).alloc (Nat.le_refl _) _) hb1; clear hb1))
        go_ret
        exact ⟨ret_int (by simp [goT, elO, bdO, zeO, lzO, iwO, bzO, woO, dgO, rI, h0, h1, h2]), B⟩
      · go_enter Tryd.func46, Tryd.ntmps46
        go_wp2_with (first
          | (go_at_call 57; refine (in_any (c : Int) (by omega) (by omega) _ [1, 2] _ (Ints.lit _ _ [1, 2] _ rfl (by simp))).mono ?_; rintro e w1 ⟨rfl, hb1⟩; rw [h2]; have B := below_step ((Below.refl _ _).alloc (Nat.le_refl _) _) hb1; clear hb1))
        go_ret
        exact ⟨ret_int (by simp [goT, elO, bdO, zeO, lzO, iwO, bzO, woO, dgO, rI, h0, h1, h2]), B⟩

set_option maxHeartbeats 400000 in
theorem bz_any (a c : Nat) (hc : c < 256) (_ha : a ≤ 1000) (w : World) :
    Calls Tryd.prog 45 #[.int .i64 (a : Int), .int .u8 (c : Int)] w fun e w' => e = .returned (.int .i64 (rI (bzO c))) ∧ Below w.heap.size w w' := by
  cases h0 : hasB [1] (clsI (c : Int))
  · go_enter Tryd.func45, Tryd.ntmps45
    go_wp2_with (first
      | (go_at_call 57; refine (in_any (c : Int) (by omega) (by omega) _ [1] _ (Ints.lit _ _ [1] _ rfl (by simp))).mono ?_; rintro e w1 ⟨rfl, hb1⟩; rw [h0]; have B := below_step ((Below.refl _ _).alloc (Nat.le_refl _) _) hb1; clear hb1)
      | (go_at_call 46; refine (iw_any a c hc (by omega) _).mono ?_; rintro e w2 ⟨rfl, hb2⟩; have B2 := below_step B hb2))
    go_ret
    exact ⟨ret_int (by simp [goT, elO, bdO, zeO, lzO, iwO, bzO, woO, dgO, rI, h0]), B2⟩
  · go_enter Tryd.func45, Tryd.ntmps45
    go_wp2_with (first
      | (go_at_call 57; refine (in_any (c : Int) (by omega) (by omega) _ [1] _ (Ints.lit _ _ [1] _ rfl (by simp))).mono ?_; rintro e w1 ⟨rfl, hb1⟩; rw [h0]; have B := below_step ((Below.refl _ _).alloc (Nat.le_refl _) _) hb1; clear hb1))
    go_ret
    exact ⟨ret_int (by simp [goT, elO, bdO, zeO, lzO, iwO, bzO, woO, dgO, rI, h0]), B⟩

set_option maxHeartbeats 400000 in
theorem bzs_any (a c : Nat) (hc : c < 256) (_ha : a ≤ 1000) (w : World) :
    Calls Tryd.prog 47 #[.int .i64 (a : Int), .int .u8 (c : Int)] w fun e w' => e = .returned (.int .i64 (rI (goT .bzs a c))) ∧ Below w.heap.size w w' := by
  by_cases h0 : c = 46
  · subst h0
    go_enter Tryd.func47, Tryd.ntmps47
    go_wp2
    go_ret
    exact ⟨ret_int (by simp [goT, elO, bdO, zeO, lzO, iwO, bzO, woO, dgO, rI]), Below.refl _ _⟩
  · have h0i : ¬ (c : Int) = 46 := by omega
    go_enter Tryd.func47, Tryd.ntmps47
    go_wp2_with (first
      | (go_at_call 45; refine (bz_any a c hc (by omega) _).mono ?_; rintro e w2 ⟨rfl, hb2⟩; have B2 := hb2))
    go_ret
    exact ⟨ret_int (by simp [goT, elO, bdO, zeO, lzO, iwO, bzO, woO, dgO, rI, h0]), B2⟩

set_option maxHeartbeats 400000 in
theorem en_any (a c : Nat) (hc : c < 256) (_ha : a ≤ 1000) (w : World) :
    Calls Tryd.prog 48 #[.int .i64 (a : Int), .int .u8 (c : Int)] w fun e w' => e = .returned (.int .i64 (rI (goT .en a c))) ∧ Below w.heap.size w w' := by
  go_enter Tryd.func48, Tryd.ntmps48
  go_wp2
  go_ret
  exact ⟨ret_int (by simp [goT, elO, bdO, zeO, lzO, iwO, bzO, woO, dgO, rI]), Below.refl _ _⟩

set_option maxHeartbeats 400000 in
theorem ed_any (a c : Nat) (hc : c < 256) (_ha : a ≤ 1000) (w : World) :
    Calls Tryd.prog 49 #[.int .i64 (a : Int), .int .u8 (c : Int)] w fun e w' => e = .returned (.int .i64 (rI (goT .ed a c))) ∧ Below w.heap.size w w' := by
  cases h0 : hasB [1] (clsI (c : Int))
  · go_enter Tryd.func49, Tryd.ntmps49
    go_wp2_with (first
      | (go_at_call 57; refine (in_any (c : Int) (by omega) (by omega) _ [1] _ (Ints.lit _ _ [1] _ rfl (by simp))).mono ?_; rintro e w1 ⟨rfl, hb1⟩; rw [h0]; have B := below_step ((Below.refl _ _).alloc (Nat.le_refl _) _) hb1; clear hb1))
    go_ret
    exact ⟨ret_int (by simp [goT, elO, bdO, zeO, lzO, iwO, bzO, woO, dgO, rI, h0]), B⟩
  · go_enter Tryd.func49, Tryd.ntmps49
    go_wp2_with (first
      | (go_at_call 57; refine (in_any (c : Int) (by omega) (by omega) _ [1] _ (Ints.lit _ _ [1] _ rfl (by simp))).mono ?_; rintro e w1 ⟨rfl, hb1⟩; rw [h0]; have B := below_step ((Below.refl _ _).alloc (Nat.le_refl _) _) hb1; clear hb1))
    go_ret
    exact ⟨ret_int (by simp [goT, elO, bdO, zeO, lzO, iwO, bzO, woO, dgO, rI, h0]), B⟩
end Go.Proofs.YtjlnajokkhdhnaaDoor
