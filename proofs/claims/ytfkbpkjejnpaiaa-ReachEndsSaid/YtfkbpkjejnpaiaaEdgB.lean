/- Two numbers, and two pairs, held against one another: of the program and of the document; may a pair be asked. -/
import Derived.Test.YtfkbpkjejnpaiaaEdgA
import Derived.StillTailTactics
import Derived.Deep.CutRange
import Derived.Deep.DeepCutAuto
import Derived.Deep.DrawnRows
import Derived.Deep.RegionHeld3
namespace Go.Proofs.Ytfkbpkjejnpaiaa
open Go.RowKit
set_option maxRecDepth 100000

set_option maxHeartbeats 400000 in
theorem isnan_any (x : Int) (w : World) : Calls Try.prog 68 #[.int .i64 x] w fun e w' => e = .returned (.bool false) ∧ w' = w := by
  have hx : (x != x) = false := by simp
  go_enter Try.func68, Try.ntmps68
  go_wp2
  go_ret
  exact ⟨rfl, rfl⟩
set_option maxHeartbeats 400000 in
theorem compare_any (x y : Int) (w : World) : Calls Try.prog 57 #[.int .i64 x, .int .i64 y] w fun e w' => e = .returned (.int .i64 (cmpI x y)) ∧ w' = w := by
  rcases cmpI_cases x y with ⟨h, e⟩ | ⟨h, e⟩ | ⟨h, e⟩
  · rw [e]
    go_enter Try.func57, Try.ntmps57
    go_wp2_with (go_at_call 68; refine (isnan_any _ _).mono ?_; rintro e w1 ⟨rfl, rfl⟩)
    go_ret
    exact ⟨rfl, rfl⟩
  · rw [e]
    have h1 : ¬ x < y := by omega
    go_enter Try.func57, Try.ntmps57
    go_wp2_with (go_at_call 68; refine (isnan_any _ _).mono ?_; rintro e w1 ⟨rfl, rfl⟩)
    go_ret
    exact ⟨rfl, rfl⟩
  · rw [e]
    have h1 : ¬ x < y := by omega
    have h2 : ¬ y < x := by omega
    clear h
    go_enter Try.func57, Try.ntmps57
    go_wp2_with (go_at_call 68; refine (isnan_any _ _).mono ?_; rintro e w1 ⟨rfl, rfl⟩)
    go_ret
    exact ⟨rfl, rfl⟩

set_option maxHeartbeats 400000 in
theorem or_any (b : Nat) (p q : Int) (w : World) (h0 : w.cell? ⟨b, 0, none⟩ = some (.int .i64 p)) (h1 : w.cell? ⟨b, 1, none⟩ = some (.int .i64 q)) :
    Calls Try.prog 56 #[.slice (some ⟨b, 0, none⟩) 2 2] w fun e w' => e = .returned (.int .i64 (orI p q)) ∧ w' = w := by
  obtain ⟨T, hT⟩ : ∃ T, orI p q = T := ⟨_, rfl⟩
  rw [hT]
  have HT := Lib.hid hT; clear hT
  go_enter Try.func56, Try.ntmps56
  go_wp2
  go_loop [8] (fun i => ∃ k : Nat, k ≤ 2 ∧ i = .int .i64 k ∧ Hid ((1 ≤ k → p = 0) ∧ (2 ≤ k → q = 0))) (fun i => 2 - (intOf i).toNat)
  case atStart => exact ⟨0, Nat.zero_le _, rfl, Lib.hid ⟨by omega, by omega⟩⟩
  case round =>
    obtain ⟨k, hk, rfl, H⟩ := hrel
    match k, hk, H with
    | 0, _, H =>
      by_cases hp : p = 0
      · have hb : (p != 0) = false := by simp [hp]
        have H2 : Hid ((1 ≤ 1 → p = 0) ∧ (2 ≤ 1 → q = 0)) := Lib.hid ⟨fun _ => hp, by omega⟩
        clear hp
        go_wp2
        go_round
        case rel => exact ⟨1, by omega, by go_num, H2⟩
        case measure => simp [intOf]
      · have hb : (p != 0) = true := by simp [hp]
        have HP := Lib.hid hp; clear hp
        go_wp2
        go_ret
        exact ⟨ret_int (by rw [← HT.out]; unfold orI; rw [if_neg HP.out]), rfl⟩
    | 1, _, H =>
      by_cases hp : q = 0
      · have hb : (q != 0) = false := by simp [hp]
        have H2 : Hid ((1 ≤ 2 → p = 0) ∧ (2 ≤ 2 → q = 0)) := Lib.hid ⟨fun _ => H.out.1 (by omega), fun _ => hp⟩
        clear hp
        go_wp2
        go_round
        case rel => exact ⟨2, by omega, by go_num, H2⟩
        case measure => simp [intOf]
      · have hb : (q != 0) = true := by simp [hp]
        clear hp
        go_wp2
        go_ret
        exact ⟨ret_int (by rw [← HT.out]; unfold orI; rw [if_pos (H.out.1 (by omega))]), rfl⟩
    | 2, _, H =>
      go_wp2
      go_ret
      exact ⟨ret_int (by rw [← HT.out]; unfold orI; rw [if_pos (H.out.1 (by omega)), H.out.2 (by omega)]), rfl⟩
    | k + 3, hk, _ => omega

set_option maxHeartbeats 1600000 in
theorem order_any (x y z x' y' z' : Int) (w : World) :
    Calls Try.prog 48 #[.agg #[.int .i64 x, .int .i64 y, .int .i64 z], .agg #[.int .i64 x', .int .i64 y', .int .i64 z']] w fun e w' => e = .returned (.int .i64 (ordE (x, y, z) (x', y', z'))) ∧ Below w.heap.size w w' := by
  obtain ⟨T, hT⟩ : ∃ T, ordE (x, y, z) (x', y', z') = T := ⟨_, rfl⟩
  rw [hT]
  have hT2 : orI (cmpI x x') (cmpI y y') = T := hT
  obtain ⟨c, hc⟩ : ∃ c, cmpI x x' = c := ⟨_, rfl⟩
  obtain ⟨d, hd⟩ : ∃ d, cmpI y y' = d := ⟨_, rfl⟩
  have hcx := fun w => compare_any x x' w
  have hcy := fun w => compare_any y y' w
  rw [hc] at hcx hT2
  rw [hd] at hcy hT2
  have HT := Lib.hid hT2
  clear hT hT2 hc hd
  obtain ⟨W, g, g', hW, hg, hg', c0, c1, c2, d0, d1, d2, hb⟩ := boxE2 w (.int .i64 x) (.int .i64 y) (.int .i64 z) (.int .i64 x') (.int .i64 y') (.int .i64 z') 43
  have B := Lib.hid hb; have HW := Lib.hid hW; have HG := Lib.hid hg; have HG' := Lib.hid hg'; clear hb hW hg hg'
  go_enter Try.func48, Try.ntmps48
  go_upto_region 1 with fail
  rw [HW.out, HG'.out, HG.out]
  go_still_tail 10, (by kernel_rfl)
  still_call (hcx _)
  repeat still_step
  still_call (hcy _)
  repeat still_step
  refine wpStill_nil ?_
  go_wp2_with (go_at_call 56; refine (or_any _ c d _ (by exact cell_new rfl rfl) (by exact cell_new rfl rfl)).mono ?_; rintro e w1 ⟨rfl, rfl⟩; rw [HT.out])
  go_ret
  exact ⟨rfl, B.out.drew.alloc B.out.size _⟩

set_option maxHeartbeats 800000 in
theorem less_any (x y z x' y' z' : Int) (w : World) :
    Calls Try.prog 37 #[.agg #[.int .i64 x, .int .i64 y, .int .i64 z], .agg #[.int .i64 x', .int .i64 y', .int .i64 z']] w fun e w' => e = .returned (.bool (ltE (x, y, z) (x', y', z'))) ∧ Below w.heap.size w w' := by
  obtain ⟨T, hT⟩ : ∃ T, ltE (x, y, z) (x', y', z') = T := ⟨_, rfl⟩
  rw [hT]
  have hT2 : (decide (x < x') || (decide (x = x') && decide (y < y'))) = T := hT
  clear hT
  obtain ⟨W, g, g', hW, hg, hg', c0, c1, c2, d0, d1, d2, hb⟩ := boxE2 w (.int .i64 x) (.int .i64 y) (.int .i64 z) (.int .i64 x') (.int .i64 y') (.int .i64 z') 43
  have B := Lib.hid hb; have HW := Lib.hid hW; have HG := Lib.hid hg; have HG' := Lib.hid hg'; clear hb hW hg hg'
  by_cases h1 : x < x'
  · have hq : true = T := by rw [← hT2]; simp [h1]
    subst hq
    clear hT2
    go_enter Try.func37, Try.ntmps37
    go_upto_region 1 with fail
    rw [HW.out, HG'.out, HG.out]
    go_wp2
    go_ret
    exact ⟨rfl, B.out⟩
  · by_cases h2 : x = x'
    · have hx : (x == x') = true := by simp [h2]
      have hl : decide (x < x') = false := by simp [h1]
      have hq : decide (y < y') = T := by rw [← hT2]; simp [h2]
      have HQ := Lib.hid hq
      clear hT2 h1 h2 hq
      go_enter Try.func37, Try.ntmps37
      go_upto_region 1 with fail
      rw [HW.out, HG'.out, HG.out]
      go_wp2
      go_ret
      exact ⟨by rw [← HQ.out]; rfl, B.out⟩
    · have hx : (x == x') = false := by simp [h2]
      have hl : decide (x < x') = false := by simp [h1]
      have hq : false = T := by rw [← hT2]; simp [h1, h2]
      subst hq
      clear hT2 h1 h2
      go_enter Try.func37, Try.ntmps37
      go_upto_region 1 with fail
      rw [HW.out, HG'.out, HG.out]
      go_wp2
      go_ret
      exact ⟨rfl, B.out⟩

/-- May a pair be asked? -/
def ableE (f t : Int) : Bool := decide (-1 ≤ f) && decide (0 ≤ t)
set_option maxHeartbeats 400000 in
theorem able_any (f t : Int) (w : World) :
    Calls Try.prog 47 #[.int .i64 f, .int .i64 t] w fun e w' => e = .returned (.bool (ableE f t)) ∧ w' = w := by
  unfold ableE
  by_cases h : -1 ≤ f
  · rw [decide_eq_true h]
    go_enter Try.func47, Try.ntmps47
    go_wp2
    go_ret
    exact ⟨rfl, rfl⟩
  · rw [decide_eq_false h]
    have hl : decide (-1 ≤ f) = false := by simp; omega
    go_enter Try.func47, Try.ntmps47
    go_wp2
    go_ret
    exact ⟨rfl, rfl⟩
end Go.Proofs.Ytfkbpkjejnpaiaa
