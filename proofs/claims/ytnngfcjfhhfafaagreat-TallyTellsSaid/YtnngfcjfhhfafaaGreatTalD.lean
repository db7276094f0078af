/- Which rows may be: of the program. -/
import Derived.Test.YtnngfcjfhhfafaaGreatTalC
namespace Go.Proofs.YtnngfcjfhhfafaaGreat
open Go.RowKit
set_option linter.unusedVariables false
set_option maxRecDepth 100000

theorem bin_geq0 {C : Int} {b : Bool} {w : World} (h : decide (0 ≤ C) = b) : Sem.run Tryz.prog (binOp .geq 3 (.int .i64 C) (.int .i64 0)) w = .ok (.bool b) w := by
  subst h; go_simp
theorem bin_gtr0 {k : Nat} {b : Bool} {w : World} (h : decide (0 < k) = b) : Sem.run Tryz.prog (binOp .gtr 3 (.int .i64 (k : Int)) (.int .i64 0)) w = .ok (.bool b) w := by
  subst h; go_simp
theorem bin_sub1 {k m : Nat} {w : World} (h : k = m + 1) (hk : k ≤ 1000000) : Sem.run Tryz.prog (binOp .sub 3 (.int .i64 (k : Int)) (.int .i64 1)) w = .ok (.int .i64 (m : Int)) w := by
  have e2 : IntKind.i64.wrap (m : Int) = (m : Int) := by rw [IntKind.wrap_i64]; omega
  have e : (k : Int) - 1 = (m : Int) := by omega
  go_simp
theorem okR_len {l : List Rw} {k : Nat} (h : ∀ j, j < k → chainB okRow ltP zR l j = true) (hk : l.length ≤ k) : okR l = true := chain_yes fun j hj => h j (by omega)

set_option maxHeartbeats 3200000 in
theorem tcheck_any (V : Value) (l : List Rw) (w : World) (hV : Rws w V l) (hl : l.length ≤ 100000) (hp : ∀ r ∈ l, r.1.length ≤ 1000000000) (hs : ∀ r ∈ l, ∀ x ∈ r.2, x.length ≤ 1000000000) :
    Calls Tryz.prog 12 #[V] w fun e w' => e = .returned (.int .i64 (if okR l = true then 0 else 1)) ∧ Below w.heap.size w w' := by
  obtain ⟨Al, cl, rfl, hl1, hl2, -, -⟩ := hV.ex
  unfold maxLen at hl2
  obtain ⟨n, hn⟩ : ∃ n, l.length = n := ⟨_, rfl⟩
  obtain ⟨T, hT⟩ : ∃ T : Int, (if okR l = true then 0 else 1) = T := ⟨_, rfl⟩
  rw [hT]
  rw [hn] at hl hl1 hV ⊢
  have SV := Lib.hid hV; have HN := Lib.hid hn; have HP := Lib.hid hp; have HS := Lib.hid hs; have HT := Lib.hid hT
  clear hV hn hp hs hT
  have e1 : ∀ args w, (callFunc 42 args).run Tryz.prog w = .ok (.enter 42 args) w := enters_of Tryz.func42 (by kernel_rfl) rfl
  have e2 : ∀ args w, (callFunc 43 args).run Tryz.prog w = .ok (.enter 43 args) w := enters_of Tryz.func43 (by kernel_rfl) rfl
  have e3 : ∀ args w, (callFunc 44 args).run Tryz.prog w = .ok (.enter 44 args) w := enters_of Tryz.func44 (by kernel_rfl) rfl
  go_enter Tryz.func12, Tryz.ntmps12
  go_wp2
  go_loopw [7] (fun i wr => ∃ k : Nat, k ≤ n ∧ i = .int .i64 k ∧ Hid (∀ j, j < k → chainB okRow ltP zR l j = true) ∧ Hid (Below w.heap.size w wr)) (fun i _ => n - (intOf i).toNat)
  case atStart => exact ⟨0, Nat.zero_le _, rfl, Lib.hid fun j hj => absurd hj (Nat.not_lt_zero j), Lib.hid (Below.refl _ _)⟩
  case round =>
    obtain ⟨k, hk, rfl, HJ, HB⟩ := hrel
    by_cases hlt : k < n
    · have hkl : k < l.length := by rw [HN.out]; exact hlt
      obtain ⟨bl, ol, ay, ny, cy, rfl, hc0, hc1, hsy⟩ := (SV.out.below HB.out).at k hkl
      have hq : wr.cell? ⟨bl, ol + (k - 1) * 2, none⟩ = some (.string (mkB (l.getD (k - 1) zR).1)) := by
        obtain ⟨b', off', _, _, _, e, q, -, -⟩ := (SV.out.below HB.out).at (k - 1) (by omega)
        cases e; exact q
      obtain ⟨y, hy⟩ : ∃ y, y = l.getD k zR := ⟨_, rfl⟩
      obtain ⟨q, hx⟩ : ∃ x, x = (l.getD (k - 1) zR).1 := ⟨_, rfl⟩
      have hst : chainB okRow ltP zR l k = ((pathB y.1 && fitV2 y.2) && (decide (k = 0) || decide (Lib.compareBytes q y.1 < 0))) := by unfold chainB ltP okRow; rw [← hy, ← hx]
      have hys : y.1.length ≤ 1000000000 := by rw [hy]; exact HP.out _ (gd_in hkl)
      have hvs : ∀ x ∈ y.2, x.length ≤ 1000000000 := by rw [hy]; exact HS.out _ (gd_in hkl)
      rw [← hy] at hc0 hsy
      rw [← hx] at hq
      obtain ⟨p, vs⟩ := y
      simp only at hc0 hsy hst hys hvs
      obtain ⟨o, ho⟩ : ∃ o, pathB p = o := ⟨_, rfl⟩
      obtain ⟨f, hf⟩ : ∃ f, fitV2 vs = f := ⟨_, rfl⟩
      have kp := fun w => pmay_b p w hys
      have kf := fun w h => tfit_any ay ny cy vs w h hvs
      have kc := fun w => ocmp_l q p w
      obtain ⟨C, hC⟩ : ∃ C, Lib.compareBytes q p = C := ⟨_, rfl⟩
      rw [ho] at kp hst
      rw [hf] at kf hst
      rw [hC] at kc hst
      have KP := Lib.hid kp; have KF := Lib.hid kf; have KC := Lib.hid kc; have HST := Lib.hid hst; have HKL := Lib.hid hkl
      have HKB := Lib.hid (show k ≤ 1000000 by omega)
      clear hy hx hst hys hvs kp kf kc ho hf hC hkl
      have hkb : (k : Int) < (n : Int) := by omega
      go_upto_region 4 with fail
      obtain ⟨W5, gk, hW5, hgk, r5, hb5⟩ := boxT wr (.string (mkB p)) (.slice ay ny cy) 58
      rw [hW5, hgk]
      obtain ⟨d0, d1, -, -⟩ := row2 r5
      have D0 := Lib.hid d0; have D1 := Lib.hid d1; have SY := Lib.hid (hsy.belowB hb5); have Q := Lib.hid (cell_keep hq hb5); have HB5 := Lib.hid (below_step HB.out hb5); have HNW := Lib.hid (Nat.le_refl W5.heap.size)
      clear hW5 hgk r5 hb5 hc0 hc1 d0 d1 hsy hq
      have hno : chainB okRow ltP zR l k = false → T = 1 := fun h => by rw [← HT.out, show okR l = false from chain_no HKL.out h]; rfl
      have hj2 : chainB okRow ltP zR l k = true → ∀ j, j < k + 1 → chainB okRow ltP zR l j = true := fun h j hj => by
        rcases Nat.lt_succ_iff_lt_or_eq.1 hj with q | rfl
        · exact HJ.out j q
        · exact h
      have HNO0 := Lib.hid hno; have HJ0 := Lib.hid hj2
      clear hno hj2
      cases o with
      | false =>
        have HNO := Lib.hid (HNO0.out (by rw [HST.out]; rfl))
        refine rol_run (by kernel_rfl) [[], [0], [0, 1], [0, 1, 2], [0, 1, 2, 3], [0, 1, 2, 3, 4], [0, 1, 2, 3, 4, 5], [0, 1, 2, 3, 4, 5, 6], [0, 1, 2, 3, 4, 5, 6, 7], [0, 1, 2, 3, 4, 5, 6, 7, 8], [0, 1, 2, 3, 4, 5, 6, 7, 8, 9], [0, 1, 2, 3, 4, 5, 6, 7, 8, 9, 10], [0, 1, 2, 3, 4, 5, 6, 7, 8, 9, 10, 11], [0, 1, 2, 3, 4, 5, 6, 7, 8, 9, 10, 11, 12], [0, 1, 2, 3, 4, 5, 6, 7, 8, 9, 10, 11, 12, 13], [0, 1, 2, 3, 4, 5, 6, 7, 8, 9, 10, 11, 12, 13], [0, 1, 2, 3, 4, 5, 6, 7, 8, 9, 10, 11, 12, 13, 15], [0, 1, 2, 3, 4, 5, 6, 7, 8, 9, 10, 11, 12, 13, 14, 15, 16], [0, 1, 2, 3, 4, 5, 6, 7, 8, 9, 10, 11, 12, 13, 14, 15, 16, 17], [0, 1, 2, 3, 4, 5, 6, 7, 8, 9, 10, 11, 12, 13, 14, 15, 16, 17, 18], [0, 1, 2, 3, 4, 5, 6, 7, 8, 9, 10, 11, 12, 13], [0, 1, 2, 3, 4, 5, 6, 7, 8, 9, 10, 11, 12, 13, 20], [0, 1, 2, 3, 4, 5, 6, 7, 8, 9, 10, 11, 12, 13, 14, 15, 16, 17, 18, 19, 20, 21], [0, 1, 2, 3, 4, 5, 6, 7, 8, 9, 10, 11, 12, 13, 14, 15, 16, 17, 18, 19, 20, 21, 22], [0, 1, 2, 3, 4, 5, 6, 7, 8, 9, 10, 11, 12, 13, 14, 15, 16, 17, 18, 19, 20, 21, 22, 23], [0, 1, 2, 3, 4, 5, 6, 7, 8, 9, 10, 11, 12, 13, 14, 15, 16, 17, 18, 19, 20, 21, 22, 23, 24]] (by kernel_rfl) [12, 13, 14, 15, 16, 17, 18, 19, 20, 21, 22, 23, 24, 25, 26, 27, 28, 29, 30, 31, 32, 33, 34, 35, 36, 37] [[], [0], [1], [2], [3], [4], [4], [4], [4], [4], [9], [10], [10], [10], [13], [13], [13], [13], [13], [13], [13], [13], [13], [13], [10], [10]] [0, 0, 0, 0, 0, 0, 0, 0, 0, 0, 0, 0, 0, 0, 0, 0, 0, 0, 0, 0, 0, 0, 0, 0, 0, 0] [0, 0, 0, 0, 0, 0, 0, 0, 0, 0, 0, 0, 0, 0, 0, 0, 0, 0, 0, 0, 0, 0, 0, 0, 0, 0] [1000, 1000, 1000, 1000, 1000, 1000, 1000, 1000, 1000, 1000, 1000, 1000, 1000, 1000, 1000, 1000, 1000, 1000, 1000, 1000, 1000, 1000, 1000, 1000, 1000, 1000] [.val 12 (.pointer (some ⟨gk, 0, none⟩)), .val 13 (.string (mkB p)), .val 14 (.bool false), .val 15 (.bool true), .val 16 (.bool true), .val 17 undef, .val 18 undef, .val 19 undef, .val 20 undef, .val 21 (.bool true), .val 22 (.bool true), .val 23 undef, .val 24 undef, .val 25 undef, .val 26 undef, .val 27 undef, .val 28 undef, .val 29 undef, .val 30 undef, .val 31 undef, .val 32 undef, .val 33 undef, .val 34 undef, .val 35 undef, .val 36 undef, .val 37 (.bool true)] (by kernel_rfl) ?_ (W5.heap.size) (W5.heap.size) rfl (Below.refl _ _) rfl (fun _ => 0) ?_ ?_ ?_
        · intro j hj
          have hj3 : j < 26 := hj
          have hj2 : j = 0 ∨ j = 1 ∨ j = 2 ∨ j = 3 ∨ j = 4 ∨ j = 5 ∨ j = 6 ∨ j = 7 ∨ j = 8 ∨ j = 9 ∨ j = 10 ∨ j = 11 ∨ j = 12 ∨ j = 13 ∨ j = 14 ∨ j = 15 ∨ j = 16 ∨ j = 17 ∨ j = 18 ∨ j = 19 ∨ j = 20 ∨ j = 21 ∨ j = 22 ∨ j = 23 ∨ j = 24 ∨ j = 25 := by omega
          clear hj hj3
          rcases hj2 with rfl | rfl | rfl | rfl | rfl | rfl | rfl | rfl | rfl | rfl | rfl | rfl | rfl | rfl | rfl | rfl | rfl | rfl | rfl | rfl | rfl | rfl | rfl | rfl | rfl | rfl
          · exact trivial
          · exact trivial
          · exact trivial
          · exact trivial
          · exact trivial
          · exact trivial
          · exact trivial
          · exact trivial
          · exact trivial
          · exact trivial
          · exact trivial
          · exact trivial
          · exact trivial
          · exact trivial
          · exact trivial
          · exact trivial
          · exact trivial
          · exact trivial
          · exact trivial
          · exact trivial
          · exact trivial
          · exact trivial
          · exact trivial
          · exact trivial
          · exact trivial
          · exact trivial
        · intro j hj0 hj
          exact absurd hj (Nat.not_lt.2 hj0)
        · intro i hi a wx who hG hF
          have hz : a.tmps.size = 39 := hG.size
          have hi3 : i < 26 := hi
          have hi2 : i = 0 ∨ i = 1 ∨ i = 2 ∨ i = 3 ∨ i = 4 ∨ i = 5 ∨ i = 6 ∨ i = 7 ∨ i = 8 ∨ i = 9 ∨ i = 10 ∨ i = 11 ∨ i = 12 ∨ i = 13 ∨ i = 14 ∨ i = 15 ∨ i = 16 ∨ i = 17 ∨ i = 18 ∨ i = 19 ∨ i = 20 ∨ i = 21 ∨ i = 22 ∨ i = 23 ∨ i = 24 ∨ i = 25 := by omega
          clear hi hi3
          rcases hi2 with rfl | rfl | rfl | rfl | rfl | rfl | rfl | rfl | rfl | rfl | rfl | rfl | rfl | rfl | rfl | rfl | rfl | rfl | rfl | rfl | rfl | rfl | rfl | rfl | rfl | rfl
          · exact rol_val rfl rfl rfl (by rw [hz]; decide) (ex_field rfl (eval_slot ((hG.slots 4 (by decide)).trans rfl)) (by go_simp)) hG.below
          · exact rol_val rfl rfl rfl (by rw [hz]; decide) (ex_load rfl (eval_slot (hF 0 (by decide))) (ld_strT (cell_keep D0.out hG.below))) hG.below
          · refine rol_call rfl rfl rfl (by rw [hz]; decide) (ex_call rfl (by simp [eval_slot (hF 1 (by decide))]) e1) (KP.out wx) ?_ hG.below (Nat.le_trans HNW.out hG.new)
            rintro e w1 ⟨rfl, hb1⟩
            exact ⟨_, rfl, hb1, .inl rfl⟩
          · exact rol_val rfl rfl rfl (by rw [hz]; decide) (ex_un rfl (eval_slot (hF 2 (by decide))) rfl) hG.below
          · exact rol_val rfl rfl rfl (by rw [hz]; decide) (ex_move (Or.inl rfl) (eval_slot (hF 3 (by decide)))) hG.below
          · exact rol_val_skip rfl (want_no rfl rfl (hF 4 (by decide)) (by decide)) rfl (by rw [hz]; decide) hG.below
          · exact rol_val_skip rfl (want_no rfl rfl (hF 4 (by decide)) (by decide)) rfl (by rw [hz]; decide) hG.below
          · exact rol_val_skip rfl (want_no rfl rfl (hF 4 (by decide)) (by decide)) rfl (by rw [hz]; decide) hG.below
          · exact rol_val_skip rfl (want_no rfl rfl (hF 4 (by decide)) (by decide)) rfl (by rw [hz]; decide) hG.below
          · exact rol_val rfl rfl rfl (by rw [hz]; decide) (ex_pick_yes rfl (eval_slot (hF 4 (by decide))) rfl) hG.below
          · exact rol_val rfl rfl rfl (by rw [hz]; decide) (ex_move (Or.inl rfl) (eval_slot (hF 9 (by decide)))) hG.below
          · exact rol_val_skip rfl (want_no rfl rfl (hF 10 (by decide)) (by decide)) rfl (by rw [hz]; decide) hG.below
          · exact rol_val_skip rfl (want_no rfl rfl (hF 10 (by decide)) (by decide)) rfl (by rw [hz]; decide) hG.below
          · exact rol_val_skip rfl (want_no rfl rfl (hF 10 (by decide)) (by decide)) rfl (by rw [hz]; decide) hG.below
          · exact rol_val_skip rfl (want_undef rfl rfl (hF 13 (by decide))) rfl (by rw [hz]; decide) hG.below
          · exact rol_val_skip rfl (want_undef rfl rfl (hF 13 (by decide))) rfl (by rw [hz]; decide) hG.below
          · exact rol_val_skip rfl (want_undef rfl rfl (hF 13 (by decide))) rfl (by rw [hz]; decide) hG.below
          · exact rol_val_skip rfl (want_undef rfl rfl (hF 13 (by decide))) rfl (by rw [hz]; decide) hG.below
          · exact rol_val_skip rfl (want_undef rfl rfl (hF 13 (by decide))) rfl (by rw [hz]; decide) hG.below
          · exact rol_val_skip rfl (want_undef rfl rfl (hF 13 (by decide))) rfl (by rw [hz]; decide) hG.below
          · exact rol_val_skip rfl (want_undef rfl rfl (hF 13 (by decide))) rfl (by rw [hz]; decide) hG.below
          · exact rol_val_skip rfl (want_undef rfl rfl (hF 13 (by decide))) rfl (by rw [hz]; decide) hG.below
          · exact rol_val_skip rfl (want_undef rfl rfl (hF 13 (by decide))) rfl (by rw [hz]; decide) hG.below
          · exact rol_val_skip rfl (want_undef rfl rfl (hF 13 (by decide))) rfl (by rw [hz]; decide) hG.below
          · exact rol_val_skip rfl (want_no rfl rfl (hF 10 (by decide)) (by decide)) rfl (by rw [hz]; decide) hG.below
          · exact rol_val rfl rfl rfl (by rw [hz]; decide) (ex_pick_yes rfl (eval_slot (hF 10 (by decide))) rfl) hG.below
        · intro a wx who hG hF
          have fv37 : a.tmps.getD 37 undef = .bool true := eval_slot (s := 37) (hF 25 (of_decide_eq_true (by kernel_rfl)) (of_decide_eq_true (by kernel_rfl)))
          have hbx := hG.below
          have hnx := hG.new
          rw [hG.frame]
          simp only [List.foldl_cons, List.foldl_nil, List.setIfInBounds_toArray, List.set_cons_zero, List.set_cons_succ]
          generalize a.tmps.getD 12 undef = u12
          generalize a.tmps.getD 13 undef = u13
          generalize a.tmps.getD 14 undef = u14
          generalize a.tmps.getD 15 undef = u15
          generalize a.tmps.getD 16 undef = u16
          generalize a.tmps.getD 17 undef = u17
          generalize a.tmps.getD 18 undef = u18
          generalize a.tmps.getD 19 undef = u19
          generalize a.tmps.getD 20 undef = u20
          generalize a.tmps.getD 21 undef = u21
          generalize a.tmps.getD 22 undef = u22
          generalize a.tmps.getD 23 undef = u23
          generalize a.tmps.getD 24 undef = u24
          generalize a.tmps.getD 25 undef = u25
          generalize a.tmps.getD 26 undef = u26
          generalize a.tmps.getD 27 undef = u27
          generalize a.tmps.getD 28 undef = u28
          generalize a.tmps.getD 29 undef = u29
          generalize a.tmps.getD 30 undef = u30
          generalize a.tmps.getD 31 undef = u31
          generalize a.tmps.getD 32 undef = u32
          generalize a.tmps.getD 33 undef = u33
          generalize a.tmps.getD 34 undef = u34
          generalize a.tmps.getD 35 undef = u35
          generalize a.tmps.getD 36 undef = u36
          rw [fv37]
          clear hF hG fv37
          have HB6 := Lib.hid (below_step HB5.out hbx)
          clear hbx hnx
          go_wp2
          go_ret
          exact ⟨by rw [HNO.out]; rfl, HB6.out⟩
      | true =>
        cases f with
        | false =>
          have HNO := Lib.hid (HNO0.out (by rw [HST.out]; rfl))
          refine rol_run (by kernel_rfl) [[], [0], [0, 1], [0, 1, 2], [0, 1, 2, 3], [0, 1, 2, 3, 4], [0, 1, 2, 3, 4, 5], [0, 1, 2, 3, 4, 5, 6], [0, 1, 2, 3, 4, 5, 6, 7], [0, 1, 2, 3, 4, 5, 6, 7, 8], [0, 1, 2, 3, 4, 5, 6, 7, 8, 9], [0, 1, 2, 3, 4, 5, 6, 7, 8, 9, 10], [0, 1, 2, 3, 4, 5, 6, 7, 8, 9, 10, 11], [0, 1, 2, 3, 4, 5, 6, 7, 8, 9, 10, 11, 12], [0, 1, 2, 3, 4, 5, 6, 7, 8, 9, 10, 11, 12, 13], [0, 1, 2, 3, 4, 5, 6, 7, 8, 9, 10, 11, 12, 13], [0, 1, 2, 3, 4, 5, 6, 7, 8, 9, 10, 11, 12, 13, 15], [0, 1, 2, 3, 4, 5, 6, 7, 8, 9, 10, 11, 12, 13, 14, 15, 16], [0, 1, 2, 3, 4, 5, 6, 7, 8, 9, 10, 11, 12, 13, 14, 15, 16, 17], [0, 1, 2, 3, 4, 5, 6, 7, 8, 9, 10, 11, 12, 13, 14, 15, 16, 17, 18], [0, 1, 2, 3, 4, 5, 6, 7, 8, 9, 10, 11, 12, 13], [0, 1, 2, 3, 4, 5, 6, 7, 8, 9, 10, 11, 12, 13, 20], [0, 1, 2, 3, 4, 5, 6, 7, 8, 9, 10, 11, 12, 13, 14, 15, 16, 17, 18, 19, 20, 21], [0, 1, 2, 3, 4, 5, 6, 7, 8, 9, 10, 11, 12, 13, 14, 15, 16, 17, 18, 19, 20, 21, 22], [0, 1, 2, 3, 4, 5, 6, 7, 8, 9, 10, 11, 12, 13, 14, 15, 16, 17, 18, 19, 20, 21, 22, 23], [0, 1, 2, 3, 4, 5, 6, 7, 8, 9, 10, 11, 12, 13, 14, 15, 16, 17, 18, 19, 20, 21, 22, 23, 24]] (by kernel_rfl) [12, 13, 14, 15, 16, 17, 18, 19, 20, 21, 22, 23, 24, 25, 26, 27, 28, 29, 30, 31, 32, 33, 34, 35, 36, 37] [[], [0], [1], [2], [3], [4], [4, 5], [4, 6], [4, 7], [4, 8], [9], [10], [10], [10], [13], [13], [13], [13], [13], [13], [13], [13], [13], [13], [10], [10]] [0, 0, 0, 0, 0, 0, 0, 0, 0, 0, 0, 0, 0, 0, 0, 0, 0, 0, 0, 0, 0, 0, 0, 0, 0, 0] [0, 0, 0, 0, 0, 0, 0, 0, 0, 0, 0, 0, 0, 0, 0, 0, 0, 0, 0, 0, 0, 0, 0, 0, 0, 0] [1000, 1000, 1000, 1000, 1000, 1000, 1000, 1000, 1000, 1000, 1000, 1000, 1000, 1000, 1000, 1000, 1000, 1000, 1000, 1000, 1000, 1000, 1000, 1000, 1000, 1000] [.val 12 (.pointer (some ⟨gk, 0, none⟩)), .val 13 (.string (mkB p)), .val 14 (.bool true), .val 15 (.bool false), .val 16 (.bool false), .val 17 (.pointer (some ⟨gk, 1, none⟩)), .val 18 (.slice ay ny cy), .val 19 (.bool false), .val 20 (.bool true), .val 21 (.bool true), .val 22 (.bool true), .val 23 undef, .val 24 undef, .val 25 undef, .val 26 undef, .val 27 undef, .val 28 undef, .val 29 undef, .val 30 undef, .val 31 undef, .val 32 undef, .val 33 undef, .val 34 undef, .val 35 undef, .val 36 undef, .val 37 (.bool true)] (by kernel_rfl) ?_ (W5.heap.size) (W5.heap.size) rfl (Below.refl _ _) rfl (fun _ => 0) ?_ ?_ ?_
          · intro j hj
            have hj3 : j < 26 := hj
            have hj2 : j = 0 ∨ j = 1 ∨ j = 2 ∨ j = 3 ∨ j = 4 ∨ j = 5 ∨ j = 6 ∨ j = 7 ∨ j = 8 ∨ j = 9 ∨ j = 10 ∨ j = 11 ∨ j = 12 ∨ j = 13 ∨ j = 14 ∨ j = 15 ∨ j = 16 ∨ j = 17 ∨ j = 18 ∨ j = 19 ∨ j = 20 ∨ j = 21 ∨ j = 22 ∨ j = 23 ∨ j = 24 ∨ j = 25 := by omega
            clear hj hj3
            rcases hj2 with rfl | rfl | rfl | rfl | rfl | rfl | rfl | rfl | rfl | rfl | rfl | rfl | rfl | rfl | rfl | rfl | rfl | rfl | rfl | rfl | rfl | rfl | rfl | rfl | rfl | rfl
            · exact trivial
            · exact trivial
            · exact trivial
            · exact trivial
            · exact trivial
            · exact trivial
            · exact trivial
            · exact trivial
            · exact trivial
            · exact trivial
            · exact trivial
            · exact trivial
            · exact trivial
            · exact trivial
            · exact trivial
            · exact trivial
            · exact trivial
            · exact trivial
            · exact trivial
            · exact trivial
            · exact trivial
            · exact trivial
            · exact trivial
            · exact trivial
            · exact trivial
            · exact trivial
          · intro j hj0 hj
            exact absurd hj (Nat.not_lt.2 hj0)
          · intro i hi a wx who hG hF
            have hz : a.tmps.size = 39 := hG.size
            have hi3 : i < 26 := hi
            have hi2 : i = 0 ∨ i = 1 ∨ i = 2 ∨ i = 3 ∨ i = 4 ∨ i = 5 ∨ i = 6 ∨ i = 7 ∨ i = 8 ∨ i = 9 ∨ i = 10 ∨ i = 11 ∨ i = 12 ∨ i = 13 ∨ i = 14 ∨ i = 15 ∨ i = 16 ∨ i = 17 ∨ i = 18 ∨ i = 19 ∨ i = 20 ∨ i = 21 ∨ i = 22 ∨ i = 23 ∨ i = 24 ∨ i = 25 := by omega
            clear hi hi3
            rcases hi2 with rfl | rfl | rfl | rfl | rfl | rfl | rfl | rfl | rfl | rfl | rfl | rfl | rfl | rfl | rfl | rfl | rfl | rfl | rfl | rfl | rfl | rfl | rfl | rfl | rfl | rfl
            · exact rol_val rfl rfl rfl (by rw [hz]; decide) (ex_field rfl (eval_slot ((hG.slots 4 (by decide)).trans rfl)) (by go_simp)) hG.below
            · exact rol_val rfl rfl rfl (by rw [hz]; decide) (ex_load rfl (eval_slot (hF 0 (by decide))) (ld_strT (cell_keep D0.out hG.below))) hG.below
            · refine rol_call rfl rfl rfl (by rw [hz]; decide) (ex_call rfl (by simp [eval_slot (hF 1 (by decide))]) e1) (KP.out wx) ?_ hG.below (Nat.le_trans HNW.out hG.new)
              rintro e w1 ⟨rfl, hb1⟩
              exact ⟨_, rfl, hb1, .inl rfl⟩
            · exact rol_val rfl rfl rfl (by rw [hz]; decide) (ex_un rfl (eval_slot (hF 2 (by decide))) rfl) hG.below
            · exact rol_val rfl rfl rfl (by rw [hz]; decide) (ex_move (Or.inl rfl) (eval_slot (hF 3 (by decide)))) hG.below
            · exact rol_val rfl (want_yes rfl rfl (hF 4 (by decide))) rfl (by rw [hz]; decide) (ex_field rfl (eval_slot ((hG.slots 4 (by decide)).trans rfl)) (by go_simp)) hG.below
            · exact rol_val rfl (want_yes rfl rfl (hF 4 (by decide))) rfl (by rw [hz]; decide) (ex_load rfl (eval_slot (hF 5 (by decide))) (ld_stsT (cell_keep D1.out hG.below))) hG.below
            · refine rol_call rfl (want_yes rfl rfl (hF 4 (by decide))) rfl (by rw [hz]; decide) (ex_call rfl (by simp [eval_slot (hF 6 (by decide))]) e2) (KF.out wx (SY.out.belowB hG.below)) ?_ hG.below (Nat.le_trans HNW.out hG.new)
              rintro e w1 ⟨rfl, hb1⟩
              exact ⟨_, rfl, hb1, .inl rfl⟩
            · exact rol_val rfl (want_yes rfl rfl (hF 4 (by decide))) rfl (by rw [hz]; decide) (ex_un rfl (eval_slot (hF 7 (by decide))) rfl) hG.below
            · exact rol_val rfl rfl rfl (by rw [hz]; decide) (ex_pick_no rfl (eval_slot (hF 4 (by decide))) (eval_slot (hF 8 (by decide)))) hG.below
            · exact rol_val rfl rfl rfl (by rw [hz]; decide) (ex_move (Or.inl rfl) (eval_slot (hF 9 (by decide)))) hG.below
            · exact rol_val_skip rfl (want_no rfl rfl (hF 10 (by decide)) (by decide)) rfl (by rw [hz]; decide) hG.below
            · exact rol_val_skip rfl (want_no rfl rfl (hF 10 (by decide)) (by decide)) rfl (by rw [hz]; decide) hG.below
            · exact rol_val_skip rfl (want_no rfl rfl (hF 10 (by decide)) (by decide)) rfl (by rw [hz]; decide) hG.below
            · exact rol_val_skip rfl (want_undef rfl rfl (hF 13 (by decide))) rfl (by rw [hz]; decide) hG.below
            · exact rol_val_skip rfl (want_undef rfl rfl (hF 13 (by decide))) rfl (by rw [hz]; decide) hG.below
            · exact rol_val_skip rfl (want_undef rfl rfl (hF 13 (by decide))) rfl (by rw [hz]; decide) hG.below
            · exact rol_val_skip rfl (want_undef rfl rfl (hF 13 (by decide))) rfl (by rw [hz]; decide) hG.below
            · exact rol_val_skip rfl (want_undef rfl rfl (hF 13 (by decide))) rfl (by rw [hz]; decide) hG.below
            · exact rol_val_skip rfl (want_undef rfl rfl (hF 13 (by decide))) rfl (by rw [hz]; decide) hG.below
            · exact rol_val_skip rfl (want_undef rfl rfl (hF 13 (by decide))) rfl (by rw [hz]; decide) hG.below
            · exact rol_val_skip rfl (want_undef rfl rfl (hF 13 (by decide))) rfl (by rw [hz]; decide) hG.below
            · exact rol_val_skip rfl (want_undef rfl rfl (hF 13 (by decide))) rfl (by rw [hz]; decide) hG.below
            · exact rol_val_skip rfl (want_undef rfl rfl (hF 13 (by decide))) rfl (by rw [hz]; decide) hG.below
            · exact rol_val_skip rfl (want_no rfl rfl (hF 10 (by decide)) (by decide)) rfl (by rw [hz]; decide) hG.below
            · exact rol_val rfl rfl rfl (by rw [hz]; decide) (ex_pick_yes rfl (eval_slot (hF 10 (by decide))) rfl) hG.below
          · intro a wx who hG hF
            have fv37 : a.tmps.getD 37 undef = .bool true := eval_slot (s := 37) (hF 25 (of_decide_eq_true (by kernel_rfl)) (of_decide_eq_true (by kernel_rfl)))
            have hbx := hG.below
            have hnx := hG.new
            rw [hG.frame]
            simp only [List.foldl_cons, List.foldl_nil, List.setIfInBounds_toArray, List.set_cons_zero, List.set_cons_succ]
            generalize a.tmps.getD 12 undef = u12
            generalize a.tmps.getD 13 undef = u13
            generalize a.tmps.getD 14 undef = u14
            generalize a.tmps.getD 15 undef = u15
            generalize a.tmps.getD 16 undef = u16
            generalize a.tmps.getD 17 undef = u17
            generalize a.tmps.getD 18 undef = u18
            generalize a.tmps.getD 19 undef = u19
            generalize a.tmps.getD 20 undef = u20
            generalize a.tmps.getD 21 undef = u21
            generalize a.tmps.getD 22 undef = u22
            generalize a.tmps.getD 23 undef = u23
            generalize a.tmps.getD 24 undef = u24
            generalize a.tmps.getD 25 undef = u25
            generalize a.tmps.getD 26 undef = u26
            generalize a.tmps.getD 27 undef = u27
            generalize a.tmps.getD 28 undef = u28
            generalize a.tmps.getD 29 undef = u29
            generalize a.tmps.getD 30 undef = u30
            generalize a.tmps.getD 31 undef = u31
            generalize a.tmps.getD 32 undef = u32
            generalize a.tmps.getD 33 undef = u33
            generalize a.tmps.getD 34 undef = u34
            generalize a.tmps.getD 35 undef = u35
            generalize a.tmps.getD 36 undef = u36
            rw [fv37]
            clear hF hG fv37
            have HB6 := Lib.hid (below_step HB5.out hbx)
            clear hbx hnx
            go_wp2
            go_ret
            exact ⟨by rw [HNO.out]; rfl, HB6.out⟩
        | true =>
          by_cases h0 : k = 0
          · have HZ := Lib.hid (show decide (0 < k) = false by simp [h0])
            have HJ2 := Lib.hid (show Hid (∀ j, j < k + 1 → chainB okRow ltP zR l j = true) from Lib.hid (HJ0.out (by rw [HST.out, decide_eq_true h0]; rfl)))
            clear h0
            refine rol_run (by kernel_rfl) [[], [0], [0, 1], [0, 1, 2], [0, 1, 2, 3], [0, 1, 2, 3, 4], [0, 1, 2, 3, 4, 5], [0, 1, 2, 3, 4, 5, 6], [0, 1, 2, 3, 4, 5, 6, 7], [0, 1, 2, 3, 4, 5, 6, 7, 8], [0, 1, 2, 3, 4, 5, 6, 7, 8, 9], [0, 1, 2, 3, 4, 5, 6, 7, 8, 9, 10], [0, 1, 2, 3, 4, 5, 6, 7, 8, 9, 10, 11], [0, 1, 2, 3, 4, 5, 6, 7, 8, 9, 10, 11, 12], [0, 1, 2, 3, 4, 5, 6, 7, 8, 9, 10, 11, 12, 13], [0, 1, 2, 3, 4, 5, 6, 7, 8, 9, 10, 11, 12, 13], [0, 1, 2, 3, 4, 5, 6, 7, 8, 9, 10, 11, 12, 13, 15], [0, 1, 2, 3, 4, 5, 6, 7, 8, 9, 10, 11, 12, 13, 14, 15, 16], [0, 1, 2, 3, 4, 5, 6, 7, 8, 9, 10, 11, 12, 13, 14, 15, 16, 17], [0, 1, 2, 3, 4, 5, 6, 7, 8, 9, 10, 11, 12, 13, 14, 15, 16, 17, 18], [0, 1, 2, 3, 4, 5, 6, 7, 8, 9, 10, 11, 12, 13], [0, 1, 2, 3, 4, 5, 6, 7, 8, 9, 10, 11, 12, 13, 20], [0, 1, 2, 3, 4, 5, 6, 7, 8, 9, 10, 11, 12, 13, 14, 15, 16, 17, 18, 19, 20, 21], [0, 1, 2, 3, 4, 5, 6, 7, 8, 9, 10, 11, 12, 13, 14, 15, 16, 17, 18, 19, 20, 21, 22], [0, 1, 2, 3, 4, 5, 6, 7, 8, 9, 10, 11, 12, 13, 14, 15, 16, 17, 18, 19, 20, 21, 22, 23], [0, 1, 2, 3, 4, 5, 6, 7, 8, 9, 10, 11, 12, 13, 14, 15, 16, 17, 18, 19, 20, 21, 22, 23, 24]] (by kernel_rfl) [12, 13, 14, 15, 16, 17, 18, 19, 20, 21, 22, 23, 24, 25, 26, 27, 28, 29, 30, 31, 32, 33, 34, 35, 36, 37] [[], [0], [1], [2], [3], [4], [4, 5], [4, 6], [4, 7], [4, 8], [9], [10], [10, 11], [10, 12], [13], [13], [13], [13], [13], [13], [13], [13], [13], [13], [10, 13], [10, 24]] [0, 0, 0, 0, 0, 0, 0, 0, 0, 0, 0, 0, 0, 0, 0, 0, 0, 0, 0, 0, 0, 0, 0, 0, 0, 0] [0, 0, 0, 0, 0, 0, 0, 0, 0, 0, 0, 0, 0, 0, 0, 0, 0, 0, 0, 0, 0, 0, 0, 0, 0, 0] [1000, 1000, 1000, 1000, 1000, 1000, 1000, 1000, 1000, 1000, 1000, 1000, 1000, 1000, 1000, 1000, 1000, 1000, 1000, 1000, 1000, 1000, 1000, 1000, 1000, 1000] [.val 12 (.pointer (some ⟨gk, 0, none⟩)), .val 13 (.string (mkB p)), .val 14 (.bool true), .val 15 (.bool false), .val 16 (.bool false), .val 17 (.pointer (some ⟨gk, 1, none⟩)), .val 18 (.slice ay ny cy), .val 19 (.bool true), .val 20 (.bool false), .val 21 (.bool false), .val 22 (.bool false), .val 23 (.int .i64 (k : Int)), .val 24 (.bool false), .val 25 (.bool false), .val 26 undef, .val 27 undef, .val 28 undef, .val 29 undef, .val 30 undef, .val 31 undef, .val 32 undef, .val 33 undef, .val 34 undef, .val 35 undef, .val 36 (.bool false), .val 37 (.bool false)] (by kernel_rfl) ?_ (W5.heap.size) (W5.heap.size) rfl (Below.refl _ _) rfl (fun _ => 0) ?_ ?_ ?_
            · intro j hj
              have hj3 : j < 26 := hj
              have hj2 : j = 0 ∨ j = 1 ∨ j = 2 ∨ j = 3 ∨ j = 4 ∨ j = 5 ∨ j = 6 ∨ j = 7 ∨ j = 8 ∨ j = 9 ∨ j = 10 ∨ j = 11 ∨ j = 12 ∨ j = 13 ∨ j = 14 ∨ j = 15 ∨ j = 16 ∨ j = 17 ∨ j = 18 ∨ j = 19 ∨ j = 20 ∨ j = 21 ∨ j = 22 ∨ j = 23 ∨ j = 24 ∨ j = 25 := by omega
              clear hj hj3
              rcases hj2 with rfl | rfl | rfl | rfl | rfl | rfl | rfl | rfl | rfl | rfl | rfl | rfl | rfl | rfl | rfl | rfl | rfl | rfl | rfl | rfl | rfl | rfl | rfl | rfl | rfl | rfl
              · exact trivial
              · exact trivial
              · exact trivial
              · exact trivial
              · exact trivial
              · exact trivial
              · exact trivial
              · exact trivial
              · exact trivial
              · exact trivial
              · exact trivial
              · exact trivial
              · exact trivial
              · exact trivial
              · exact trivial
              · exact trivial
              · exact trivial
              · exact trivial
              · exact trivial
              · exact trivial
              · exact trivial
              · exact trivial
              · exact trivial
              · exact trivial
              · exact trivial
              · exact trivial
            · intro j hj0 hj
              exact absurd hj (Nat.not_lt.2 hj0)
            · intro i hi a wx who hG hF
              have hz : a.tmps.size = 39 := hG.size
              have hi3 : i < 26 := hi
              have hi2 : i = 0 ∨ i = 1 ∨ i = 2 ∨ i = 3 ∨ i = 4 ∨ i = 5 ∨ i = 6 ∨ i = 7 ∨ i = 8 ∨ i = 9 ∨ i = 10 ∨ i = 11 ∨ i = 12 ∨ i = 13 ∨ i = 14 ∨ i = 15 ∨ i = 16 ∨ i = 17 ∨ i = 18 ∨ i = 19 ∨ i = 20 ∨ i = 21 ∨ i = 22 ∨ i = 23 ∨ i = 24 ∨ i = 25 := by omega
              clear hi hi3
              rcases hi2 with rfl | rfl | rfl | rfl | rfl | rfl | rfl | rfl | rfl | rfl | rfl | rfl | rfl | rfl | rfl | rfl | rfl | rfl | rfl | rfl | rfl | rfl | rfl | rfl | rfl | rfl
              · exact rol_val rfl rfl rfl (by rw [hz]; decide) (ex_field rfl (eval_slot ((hG.slots 4 (by decide)).trans rfl)) (by go_simp)) hG.below
              · exact rol_val rfl rfl rfl (by rw [hz]; decide) (ex_load rfl (eval_slot (hF 0 (by decide))) (ld_strT (cell_keep D0.out hG.below))) hG.below
              · refine rol_call rfl rfl rfl (by rw [hz]; decide) (ex_call rfl (by simp [eval_slot (hF 1 (by decide))]) e1) (KP.out wx) ?_ hG.below (Nat.le_trans HNW.out hG.new)
                rintro e w1 ⟨rfl, hb1⟩
                exact ⟨_, rfl, hb1, .inl rfl⟩
              · exact rol_val rfl rfl rfl (by rw [hz]; decide) (ex_un rfl (eval_slot (hF 2 (by decide))) rfl) hG.below
              · exact rol_val rfl rfl rfl (by rw [hz]; decide) (ex_move (Or.inl rfl) (eval_slot (hF 3 (by decide)))) hG.below
              · exact rol_val rfl (want_yes rfl rfl (hF 4 (by decide))) rfl (by rw [hz]; decide) (ex_field rfl (eval_slot ((hG.slots 4 (by decide)).trans rfl)) (by go_simp)) hG.below
              · exact rol_val rfl (want_yes rfl rfl (hF 4 (by decide))) rfl (by rw [hz]; decide) (ex_load rfl (eval_slot (hF 5 (by decide))) (ld_stsT (cell_keep D1.out hG.below))) hG.below
              · refine rol_call rfl (want_yes rfl rfl (hF 4 (by decide))) rfl (by rw [hz]; decide) (ex_call rfl (by simp [eval_slot (hF 6 (by decide))]) e2) (KF.out wx (SY.out.belowB hG.below)) ?_ hG.below (Nat.le_trans HNW.out hG.new)
                rintro e w1 ⟨rfl, hb1⟩
                exact ⟨_, rfl, hb1, .inl rfl⟩
              · exact rol_val rfl (want_yes rfl rfl (hF 4 (by decide))) rfl (by rw [hz]; decide) (ex_un rfl (eval_slot (hF 7 (by decide))) rfl) hG.below
              · exact rol_val rfl rfl rfl (by rw [hz]; decide) (ex_pick_no rfl (eval_slot (hF 4 (by decide))) (eval_slot (hF 8 (by decide)))) hG.below
              · exact rol_val rfl rfl rfl (by rw [hz]; decide) (ex_move (Or.inl rfl) (eval_slot (hF 9 (by decide)))) hG.below
              · exact rol_val rfl (want_yes rfl rfl (hF 10 (by decide))) rfl (by rw [hz]; decide) (ex_move (Or.inl rfl) (eval_slot ((hG.slots 3 (by decide)).trans rfl))) hG.below
              · exact rol_val rfl (want_yes rfl rfl (hF 10 (by decide))) rfl (by rw [hz]; decide) (ex_bin rfl (eval_slot (hF 11 (by decide))) rfl (by go_simp) (bin_gtr0 HZ.out)) hG.below
              · exact rol_val rfl (want_yes rfl rfl (hF 10 (by decide))) rfl (by rw [hz]; decide) (ex_move (Or.inl rfl) (eval_slot (hF 12 (by decide)))) hG.below
              · exact rol_val_skip rfl (want_no rfl rfl (hF 13 (by decide)) (by decide)) rfl (by rw [hz]; decide) hG.below
              · exact rol_val_skip rfl (want_no rfl rfl (hF 13 (by decide)) (by decide)) rfl (by rw [hz]; decide) hG.below
              · exact rol_val_skip rfl (want_no rfl rfl (hF 13 (by decide)) (by decide)) rfl (by rw [hz]; decide) hG.below
              · exact rol_val_skip rfl (want_no rfl rfl (hF 13 (by decide)) (by decide)) rfl (by rw [hz]; decide) hG.below
              · exact rol_val_skip rfl (want_no rfl rfl (hF 13 (by decide)) (by decide)) rfl (by rw [hz]; decide) hG.below
              · exact rol_val_skip rfl (want_no rfl rfl (hF 13 (by decide)) (by decide)) rfl (by rw [hz]; decide) hG.below
              · exact rol_val_skip rfl (want_no rfl rfl (hF 13 (by decide)) (by decide)) rfl (by rw [hz]; decide) hG.below
              · exact rol_val_skip rfl (want_no rfl rfl (hF 13 (by decide)) (by decide)) rfl (by rw [hz]; decide) hG.below
              · exact rol_val_skip rfl (want_no rfl rfl (hF 13 (by decide)) (by decide)) rfl (by rw [hz]; decide) hG.below
              · exact rol_val_skip rfl (want_no rfl rfl (hF 13 (by decide)) (by decide)) rfl (by rw [hz]; decide) hG.below
              · exact rol_val rfl (want_yes rfl rfl (hF 10 (by decide))) rfl (by rw [hz]; decide) (ex_pick_no rfl (eval_slot (hF 13 (by decide))) rfl) hG.below
              · exact rol_val rfl rfl rfl (by rw [hz]; decide) (ex_pick_no rfl (eval_slot (hF 10 (by decide))) (eval_slot (hF 24 (by decide)))) hG.below
            · intro a wx who hG hF
              have fv37 : a.tmps.getD 37 undef = .bool false := eval_slot (s := 37) (hF 25 (of_decide_eq_true (by kernel_rfl)) (of_decide_eq_true (by kernel_rfl)))
              have hbx := hG.below
              have hnx := hG.new
              rw [hG.frame]
              simp only [List.foldl_cons, List.foldl_nil, List.setIfInBounds_toArray, List.set_cons_zero, List.set_cons_succ]
              generalize a.tmps.getD 12 undef = u12
              generalize a.tmps.getD 13 undef = u13
              generalize a.tmps.getD 14 undef = u14
              generalize a.tmps.getD 15 undef = u15
              generalize a.tmps.getD 16 undef = u16
              generalize a.tmps.getD 17 undef = u17
              generalize a.tmps.getD 18 undef = u18
              generalize a.tmps.getD 19 undef = u19
              generalize a.tmps.getD 20 undef = u20
              generalize a.tmps.getD 21 undef = u21
              generalize a.tmps.getD 22 undef = u22
              generalize a.tmps.getD 23 undef = u23
              generalize a.tmps.getD 24 undef = u24
              generalize a.tmps.getD 25 undef = u25
              generalize a.tmps.getD 26 undef = u26
              generalize a.tmps.getD 27 undef = u27
              generalize a.tmps.getD 28 undef = u28
              generalize a.tmps.getD 29 undef = u29
              generalize a.tmps.getD 30 undef = u30
              generalize a.tmps.getD 31 undef = u31
              generalize a.tmps.getD 32 undef = u32
              generalize a.tmps.getD 33 undef = u33
              generalize a.tmps.getD 34 undef = u34
              generalize a.tmps.getD 35 undef = u35
              generalize a.tmps.getD 36 undef = u36
              rw [fv37]
              clear hF hG fv37
              have HB6 := Lib.hid (below_step HB5.out hbx)
              clear hbx hnx
              go_wp2
              go_roundw
              case rel => exact ⟨k + 1, by omega, by go_num, HJ2.out, HB6⟩
              case measure => simp [intOf]; omega
          · have HZ := Lib.hid (show decide (0 < k) = true by simp; omega)
            obtain ⟨m, hm⟩ : ∃ m, k - 1 = m := ⟨_, rfl⟩
            rw [hm] at Q
            have Q0 := Q
            have HM := Lib.hid (show k = m + 1 by omega); have HMN := Lib.hid (show m < n by omega)
            have hs2 : chainB okRow ltP zR l k = decide (C < 0) := by rw [HST.out, decide_eq_false h0]; simp
            clear hm h0
            by_cases hlt0 : C < 0
            · have HGE := Lib.hid (show decide (0 ≤ C) = false by simp; omega)
              have HJ2 := Lib.hid (show Hid (∀ j, j < k + 1 → chainB okRow ltP zR l j = true) from Lib.hid (HJ0.out (by rw [hs2, decide_eq_true hlt0])))
              clear hs2 hlt0
              refine rol_run (by kernel_rfl) [[], [0], [0, 1], [0, 1, 2], [0, 1, 2, 3], [0, 1, 2, 3, 4], [0, 1, 2, 3, 4, 5], [0, 1, 2, 3, 4, 5, 6], [0, 1, 2, 3, 4, 5, 6, 7], [0, 1, 2, 3, 4, 5, 6, 7, 8], [0, 1, 2, 3, 4, 5, 6, 7, 8, 9], [0, 1, 2, 3, 4, 5, 6, 7, 8, 9, 10], [0, 1, 2, 3, 4, 5, 6, 7, 8, 9, 10, 11], [0, 1, 2, 3, 4, 5, 6, 7, 8, 9, 10, 11, 12], [0, 1, 2, 3, 4, 5, 6, 7, 8, 9, 10, 11, 12, 13], [0, 1, 2, 3, 4, 5, 6, 7, 8, 9, 10, 11, 12, 13], [0, 1, 2, 3, 4, 5, 6, 7, 8, 9, 10, 11, 12, 13, 15], [0, 1, 2, 3, 4, 5, 6, 7, 8, 9, 10, 11, 12, 13, 14, 15, 16], [0, 1, 2, 3, 4, 5, 6, 7, 8, 9, 10, 11, 12, 13, 14, 15, 16, 17], [0, 1, 2, 3, 4, 5, 6, 7, 8, 9, 10, 11, 12, 13, 14, 15, 16, 17, 18], [0, 1, 2, 3, 4, 5, 6, 7, 8, 9, 10, 11, 12, 13], [0, 1, 2, 3, 4, 5, 6, 7, 8, 9, 10, 11, 12, 13, 20], [0, 1, 2, 3, 4, 5, 6, 7, 8, 9, 10, 11, 12, 13, 14, 15, 16, 17, 18, 19, 20, 21], [0, 1, 2, 3, 4, 5, 6, 7, 8, 9, 10, 11, 12, 13, 14, 15, 16, 17, 18, 19, 20, 21, 22], [0, 1, 2, 3, 4, 5, 6, 7, 8, 9, 10, 11, 12, 13, 14, 15, 16, 17, 18, 19, 20, 21, 22, 23], [0, 1, 2, 3, 4, 5, 6, 7, 8, 9, 10, 11, 12, 13, 14, 15, 16, 17, 18, 19, 20, 21, 22, 23, 24]] (by kernel_rfl) [12, 13, 14, 15, 16, 17, 18, 19, 20, 21, 22, 23, 24, 25, 26, 27, 28, 29, 30, 31, 32, 33, 34, 35, 36, 37] [[], [0], [1], [2], [3], [4], [4, 5], [4, 6], [4, 7], [4, 8], [9], [10], [10, 11], [10, 12], [13], [13], [13, 15], [13, 14, 16], [13, 17], [13, 18], [13], [13, 20], [13, 19, 21], [13, 22], [10, 13, 23], [10, 24]] [0, 0, 0, 0, 0, 0, 0, 0, 0, 0, 0, 0, 0, 0, 0, 0, 0, 0, 0, 0, 0, 0, 0, 0, 0, 0] [0, 0, 0, 0, 0, 0, 0, 0, 0, 0, 0, 0, 0, 0, 0, 0, 0, 0, 0, 0, 0, 0, 0, 0, 0, 0] [1000, 1000, 1000, 1000, 1000, 1000, 1000, 1000, 1000, 1000, 1000, 1000, 1000, 1000, 1000, 1000, 1000, 1000, 1000, 1000, 1000, 1000, 1000, 1000, 1000, 1000] [.val 12 (.pointer (some ⟨gk, 0, none⟩)), .val 13 (.string (mkB p)), .val 14 (.bool true), .val 15 (.bool false), .val 16 (.bool false), .val 17 (.pointer (some ⟨gk, 1, none⟩)), .val 18 (.slice ay ny cy), .val 19 (.bool true), .val 20 (.bool false), .val 21 (.bool false), .val 22 (.bool false), .val 23 (.int .i64 (k : Int)), .val 24 (.bool true), .val 25 (.bool true), .val 26 (.slice (some ⟨bl, ol, none⟩) n cl), .val 27 (.int .i64 (k : Int)), .val 28 (.int .i64 (m : Int)), .val 29 (.pointer (some ⟨bl, ol + m * 2, none⟩)), .val 30 (.pointer (some ⟨bl, ol + m * 2, none⟩)), .val 31 (.string (mkB q)), .val 32 (.pointer (some ⟨gk, 0, none⟩)), .val 33 (.string (mkB p)), .val 34 (.int .i64 C), .val 35 (.bool false), .val 36 (.bool false), .val 37 (.bool false)] (by kernel_rfl) ?_ (W5.heap.size) (W5.heap.size) rfl (Below.refl _ _) rfl (fun _ => 0) ?_ ?_ ?_
              · intro j hj
                have hj3 : j < 26 := hj
                have hj2 : j = 0 ∨ j = 1 ∨ j = 2 ∨ j = 3 ∨ j = 4 ∨ j = 5 ∨ j = 6 ∨ j = 7 ∨ j = 8 ∨ j = 9 ∨ j = 10 ∨ j = 11 ∨ j = 12 ∨ j = 13 ∨ j = 14 ∨ j = 15 ∨ j = 16 ∨ j = 17 ∨ j = 18 ∨ j = 19 ∨ j = 20 ∨ j = 21 ∨ j = 22 ∨ j = 23 ∨ j = 24 ∨ j = 25 := by omega
                clear hj hj3
                rcases hj2 with rfl | rfl | rfl | rfl | rfl | rfl | rfl | rfl | rfl | rfl | rfl | rfl | rfl | rfl | rfl | rfl | rfl | rfl | rfl | rfl | rfl | rfl | rfl | rfl | rfl | rfl
                · exact trivial
                · exact trivial
                · exact trivial
                · exact trivial
                · exact trivial
                · exact trivial
                · exact trivial
                · exact trivial
                · exact trivial
                · exact trivial
                · exact trivial
                · exact trivial
                · exact trivial
                · exact trivial
                · exact trivial
                · exact trivial
                · exact trivial
                · exact trivial
                · exact trivial
                · exact trivial
                · exact trivial
                · exact trivial
                · exact trivial
                · exact trivial
                · exact trivial
                · exact trivial
              · intro j hj0 hj
                exact absurd hj (Nat.not_lt.2 hj0)
              · intro i hi a wx who hG hF
                have hz : a.tmps.size = 39 := hG.size
                have hi3 : i < 26 := hi
                have hi2 : i = 0 ∨ i = 1 ∨ i = 2 ∨ i = 3 ∨ i = 4 ∨ i = 5 ∨ i = 6 ∨ i = 7 ∨ i = 8 ∨ i = 9 ∨ i = 10 ∨ i = 11 ∨ i = 12 ∨ i = 13 ∨ i = 14 ∨ i = 15 ∨ i = 16 ∨ i = 17 ∨ i = 18 ∨ i = 19 ∨ i = 20 ∨ i = 21 ∨ i = 22 ∨ i = 23 ∨ i = 24 ∨ i = 25 := by omega
                clear hi hi3
                rcases hi2 with rfl | rfl | rfl | rfl | rfl | rfl | rfl | rfl | rfl | rfl | rfl | rfl | rfl | rfl | rfl | rfl | rfl | rfl | rfl | rfl | rfl | rfl | rfl | rfl | rfl | rfl
                · exact rol_val rfl rfl rfl (by rw [hz]; decide) (ex_field rfl (eval_slot ((hG.slots 4 (by decide)).trans rfl)) (by go_simp)) hG.below
                · exact rol_val rfl rfl rfl (by rw [hz]; decide) (ex_load rfl (eval_slot (hF 0 (by decide))) (ld_strT (cell_keep D0.out hG.below))) hG.below
                · refine rol_call rfl rfl rfl (by rw [hz]; decide) (ex_call rfl (by simp [eval_slot (hF 1 (by decide))]) e1) (KP.out wx) ?_ hG.below (Nat.le_trans HNW.out hG.new)
                  rintro e w1 ⟨rfl, hb1⟩
                  exact ⟨_, rfl, hb1, .inl rfl⟩
                · exact rol_val rfl rfl rfl (by rw [hz]; decide) (ex_un rfl (eval_slot (hF 2 (by decide))) rfl) hG.below
                · exact rol_val rfl rfl rfl (by rw [hz]; decide) (ex_move (Or.inl rfl) (eval_slot (hF 3 (by decide)))) hG.below
                · exact rol_val rfl (want_yes rfl rfl (hF 4 (by decide))) rfl (by rw [hz]; decide) (ex_field rfl (eval_slot ((hG.slots 4 (by decide)).trans rfl)) (by go_simp)) hG.below
                · exact rol_val rfl (want_yes rfl rfl (hF 4 (by decide))) rfl (by rw [hz]; decide) (ex_load rfl (eval_slot (hF 5 (by decide))) (ld_stsT (cell_keep D1.out hG.below))) hG.below
                · refine rol_call rfl (want_yes rfl rfl (hF 4 (by decide))) rfl (by rw [hz]; decide) (ex_call rfl (by simp [eval_slot (hF 6 (by decide))]) e2) (KF.out wx (SY.out.belowB hG.below)) ?_ hG.below (Nat.le_trans HNW.out hG.new)
                  rintro e w1 ⟨rfl, hb1⟩
                  exact ⟨_, rfl, hb1, .inl rfl⟩
                · exact rol_val rfl (want_yes rfl rfl (hF 4 (by decide))) rfl (by rw [hz]; decide) (ex_un rfl (eval_slot (hF 7 (by decide))) rfl) hG.below
                · exact rol_val rfl rfl rfl (by rw [hz]; decide) (ex_pick_no rfl (eval_slot (hF 4 (by decide))) (eval_slot (hF 8 (by decide)))) hG.below
                · exact rol_val rfl rfl rfl (by rw [hz]; decide) (ex_move (Or.inl rfl) (eval_slot (hF 9 (by decide)))) hG.below
                · exact rol_val rfl (want_yes rfl rfl (hF 10 (by decide))) rfl (by rw [hz]; decide) (ex_move (Or.inl rfl) (eval_slot ((hG.slots 3 (by decide)).trans rfl))) hG.below
                · exact rol_val rfl (want_yes rfl rfl (hF 10 (by decide))) rfl (by rw [hz]; decide) (ex_bin rfl (eval_slot (hF 11 (by decide))) rfl (by go_simp) (bin_gtr0 HZ.out)) hG.below
                · exact rol_val rfl (want_yes rfl rfl (hF 10 (by decide))) rfl (by rw [hz]; decide) (ex_move (Or.inl rfl) (eval_slot (hF 12 (by decide)))) hG.below
                · exact rol_val rfl (want_yes rfl rfl (hF 13 (by decide))) rfl (by rw [hz]; decide) (ex_move (Or.inl rfl) (eval_slot ((hG.slots 0 (by decide)).trans rfl))) hG.below
                · exact rol_val rfl (want_yes rfl rfl (hF 13 (by decide))) rfl (by rw [hz]; decide) (ex_move (Or.inl rfl) (eval_slot ((hG.slots 3 (by decide)).trans rfl))) hG.below
                · exact rol_val rfl (want_yes rfl rfl (hF 13 (by decide))) rfl (by rw [hz]; decide) (ex_bin rfl (eval_slot (hF 15 (by decide))) rfl (by go_simp) (bin_sub1 HM.out HKB.out)) hG.below
                · exact rol_val rfl (want_yes rfl rfl (hF 13 (by decide))) rfl (by rw [hz]; decide) (ex_index rfl (eval_slot (hF 14 (by decide))) (eval_slot (hF 16 (by decide))) (idx_rws HMN.out)) hG.below
                · exact rol_val rfl (want_yes rfl rfl (hF 13 (by decide))) rfl (by rw [hz]; decide) (ex_field rfl (eval_slot (hF 17 (by decide))) (by go_simp)) hG.below
                · exact rol_val rfl (want_yes rfl rfl (hF 13 (by decide))) rfl (by rw [hz]; decide) (ex_load rfl (eval_slot (hF 18 (by decide))) (ld_strT (cell_keep Q0.out hG.below))) hG.below
                · exact rol_val rfl (want_yes rfl rfl (hF 13 (by decide))) rfl (by rw [hz]; decide) (ex_field rfl (eval_slot ((hG.slots 4 (by decide)).trans rfl)) (by go_simp)) hG.below
                · exact rol_val rfl (want_yes rfl rfl (hF 13 (by decide))) rfl (by rw [hz]; decide) (ex_load rfl (eval_slot (hF 20 (by decide))) (ld_strT (cell_keep D0.out hG.below))) hG.below
                · refine rol_call rfl (want_yes rfl rfl (hF 13 (by decide))) rfl (by rw [hz]; decide) (ex_call rfl (by simp [eval_slot (hF 19 (by decide)), eval_slot (hF 21 (by decide))]) e3) (KC.out wx) ?_ hG.below (Nat.le_trans HNW.out hG.new)
                  rintro e w1 ⟨rfl, rfl⟩
                  exact ⟨_, rfl, Below.refl _ _, .inl rfl⟩
                · exact rol_val rfl (want_yes rfl rfl (hF 13 (by decide))) rfl (by rw [hz]; decide) (ex_bin rfl (eval_slot (hF 22 (by decide))) rfl (by go_simp) (bin_geq0 HGE.out)) hG.below
                · exact rol_val rfl (want_yes rfl rfl (hF 10 (by decide))) rfl (by rw [hz]; decide) (ex_pick_yes rfl (eval_slot (hF 13 (by decide))) (eval_slot (hF 23 (by decide)))) hG.below
                · exact rol_val rfl rfl rfl (by rw [hz]; decide) (ex_pick_no rfl (eval_slot (hF 10 (by decide))) (eval_slot (hF 24 (by decide)))) hG.below
              · intro a wx who hG hF
                have fv37 : a.tmps.getD 37 undef = .bool false := eval_slot (s := 37) (hF 25 (of_decide_eq_true (by kernel_rfl)) (of_decide_eq_true (by kernel_rfl)))
                have hbx := hG.below
                have hnx := hG.new
                rw [hG.frame]
                simp only [List.foldl_cons, List.foldl_nil, List.setIfInBounds_toArray, List.set_cons_zero, List.set_cons_succ]
                generalize a.tmps.getD 12 undef = u12
                generalize a.tmps.getD 13 undef = u13
                generalize a.tmps.getD 14 undef = u14
                generalize a.tmps.getD 15 undef = u15
                generalize a.tmps.getD 16 undef = u16
                generalize a.tmps.getD 17 undef = u17
                generalize a.tmps.getD 18 undef = u18
                generalize a.tmps.getD 19 undef = u19
                generalize a.tmps.getD 20 undef = u20
                generalize a.tmps.getD 21 undef = u21
                generalize a.tmps.getD 22 undef = u22
                generalize a.tmps.getD 23 undef = u23
                generalize a.tmps.getD 24 undef = u24
                generalize a.tmps.getD 25 undef = u25
                generalize a.tmps.getD 26 undef = u26
                generalize a.tmps.getD 27 undef = u27
                generalize a.tmps.getD 28 undef = u28
                generalize a.tmps.getD 29 undef = u29
                generalize a.tmps.getD 30 undef = u30
                generalize a.tmps.getD 31 undef = u31
                generalize a.tmps.getD 32 undef = u32
                generalize a.tmps.getD 33 undef = u33
                generalize a.tmps.getD 34 undef = u34
                generalize a.tmps.getD 35 undef = u35
                generalize a.tmps.getD 36 undef = u36
                rw [fv37]
                clear hF hG fv37
                have HB6 := Lib.hid (below_step HB5.out hbx)
                clear hbx hnx
                go_wp2
                go_roundw
                case rel => exact ⟨k + 1, by omega, by go_num, HJ2.out, HB6⟩
                case measure => simp [intOf]; omega
            · have HGE := Lib.hid (show decide (0 ≤ C) = true by simp; omega)
              have HNO := Lib.hid (HNO0.out (by rw [hs2, decide_eq_false hlt0]))
              clear hs2 hlt0
              refine rol_run (by kernel_rfl) [[], [0], [0, 1], [0, 1, 2], [0, 1, 2, 3], [0, 1, 2, 3, 4], [0, 1, 2, 3, 4, 5], [0, 1, 2, 3, 4, 5, 6], [0, 1, 2, 3, 4, 5, 6, 7], [0, 1, 2, 3, 4, 5, 6, 7, 8], [0, 1, 2, 3, 4, 5, 6, 7, 8, 9], [0, 1, 2, 3, 4, 5, 6, 7, 8, 9, 10], [0, 1, 2, 3, 4, 5, 6, 7, 8, 9, 10, 11], [0, 1, 2, 3, 4, 5, 6, 7, 8, 9, 10, 11, 12], [0, 1, 2, 3, 4, 5, 6, 7, 8, 9, 10, 11, 12, 13], [0, 1, 2, 3, 4, 5, 6, 7, 8, 9, 10, 11, 12, 13], [0, 1, 2, 3, 4, 5, 6, 7, 8, 9, 10, 11, 12, 13, 15], [0, 1, 2, 3, 4, 5, 6, 7, 8, 9, 10, 11, 12, 13, 14, 15, 16], [0, 1, 2, 3, 4, 5, 6, 7, 8, 9, 10, 11, 12, 13, 14, 15, 16, 17], [0, 1, 2, 3, 4, 5, 6, 7, 8, 9, 10, 11, 12, 13, 14, 15, 16, 17, 18], [0, 1, 2, 3, 4, 5, 6, 7, 8, 9, 10, 11, 12, 13], [0, 1, 2, 3, 4, 5, 6, 7, 8, 9, 10, 11, 12, 13, 20], [0, 1, 2, 3, 4, 5, 6, 7, 8, 9, 10, 11, 12, 13, 14, 15, 16, 17, 18, 19, 20, 21], [0, 1, 2, 3, 4, 5, 6, 7, 8, 9, 10, 11, 12, 13, 14, 15, 16, 17, 18, 19, 20, 21, 22], [0, 1, 2, 3, 4, 5, 6, 7, 8, 9, 10, 11, 12, 13, 14, 15, 16, 17, 18, 19, 20, 21, 22, 23], [0, 1, 2, 3, 4, 5, 6, 7, 8, 9, 10, 11, 12, 13, 14, 15, 16, 17, 18, 19, 20, 21, 22, 23, 24]] (by kernel_rfl) [12, 13, 14, 15, 16, 17, 18, 19, 20, 21, 22, 23, 24, 25, 26, 27, 28, 29, 30, 31, 32, 33, 34, 35, 36, 37] [[], [0], [1], [2], [3], [4], [4, 5], [4, 6], [4, 7], [4, 8], [9], [10], [10, 11], [10, 12], [13], [13], [13, 15], [13, 14, 16], [13, 17], [13, 18], [13], [13, 20], [13, 19, 21], [13, 22], [10, 13, 23], [10, 24]] [0, 0, 0, 0, 0, 0, 0, 0, 0, 0, 0, 0, 0, 0, 0, 0, 0, 0, 0, 0, 0, 0, 0, 0, 0, 0] [0, 0, 0, 0, 0, 0, 0, 0, 0, 0, 0, 0, 0, 0, 0, 0, 0, 0, 0, 0, 0, 0, 0, 0, 0, 0] [1000, 1000, 1000, 1000, 1000, 1000, 1000, 1000, 1000, 1000, 1000, 1000, 1000, 1000, 1000, 1000, 1000, 1000, 1000, 1000, 1000, 1000, 1000, 1000, 1000, 1000] [.val 12 (.pointer (some ⟨gk, 0, none⟩)), .val 13 (.string (mkB p)), .val 14 (.bool true), .val 15 (.bool false), .val 16 (.bool false), .val 17 (.pointer (some ⟨gk, 1, none⟩)), .val 18 (.slice ay ny cy), .val 19 (.bool true), .val 20 (.bool false), .val 21 (.bool false), .val 22 (.bool false), .val 23 (.int .i64 (k : Int)), .val 24 (.bool true), .val 25 (.bool true), .val 26 (.slice (some ⟨bl, ol, none⟩) n cl), .val 27 (.int .i64 (k : Int)), .val 28 (.int .i64 (m : Int)), .val 29 (.pointer (some ⟨bl, ol + m * 2, none⟩)), .val 30 (.pointer (some ⟨bl, ol + m * 2, none⟩)), .val 31 (.string (mkB q)), .val 32 (.pointer (some ⟨gk, 0, none⟩)), .val 33 (.string (mkB p)), .val 34 (.int .i64 C), .val 35 (.bool true), .val 36 (.bool true), .val 37 (.bool true)] (by kernel_rfl) ?_ (W5.heap.size) (W5.heap.size) rfl (Below.refl _ _) rfl (fun _ => 0) ?_ ?_ ?_
              · intro j hj
                have hj3 : j < 26 := hj
                have hj2 : j = 0 ∨ j = 1 ∨ j = 2 ∨ j = 3 ∨ j = 4 ∨ j = 5 ∨ j = 6 ∨ j = 7 ∨ j = 8 ∨ j = 9 ∨ j = 10 ∨ j = 11 ∨ j = 12 ∨ j = 13 ∨ j = 14 ∨ j = 15 ∨ j = 16 ∨ j = 17 ∨ j = 18 ∨ j = 19 ∨ j = 20 ∨ j = 21 ∨ j = 22 ∨ j = 23 ∨ j = 24 ∨ j = 25 := by omega
                clear hj hj3
                rcases hj2 with rfl | rfl | rfl | rfl | rfl | rfl | rfl | rfl | rfl | rfl | rfl | rfl | rfl | rfl | rfl | rfl | rfl | rfl | rfl | rfl | rfl | rfl | rfl | rfl | rfl | rfl
                · exact trivial
                · exact trivial
                · exact trivial
                · exact trivial
                · exact trivial
                · exact trivial
                · exact trivial
                · exact trivial
                · exact trivial
                · exact trivial
                · exact trivial
                · exact trivial
                · exact trivial
                · exact trivial
                · exact trivial
                · exact trivial
                · exact trivial
                · exact trivial
                · exact trivial
                · exact trivial
                · exact trivial
                · exact trivial
                · exact trivial
                · exact trivial
                · exact trivial
                · exact trivial
              · intro j hj0 hj
                exact absurd hj (Nat.not_lt.2 hj0)
              · intro i hi a wx who hG hF
                have hz : a.tmps.size = 39 := hG.size
                have hi3 : i < 26 := hi
                have hi2 : i = 0 ∨ i = 1 ∨ i = 2 ∨ i = 3 ∨ i = 4 ∨ i = 5 ∨ i = 6 ∨ i = 7 ∨ i = 8 ∨ i = 9 ∨ i = 10 ∨ i = 11 ∨ i = 12 ∨ i = 13 ∨ i = 14 ∨ i = 15 ∨ i = 16 ∨ i = 17 ∨ i = 18 ∨ i = 19 ∨ i = 20 ∨ i = 21 ∨ i = 22 ∨ i = 23 ∨ i = 24 ∨ i = 25 := by omega
                clear hi hi3
                rcases hi2 with rfl | rfl | rfl | rfl | rfl | rfl | rfl | rfl | rfl | rfl | rfl | rfl | rfl | rfl | rfl | rfl | rfl | rfl | rfl | rfl | rfl | rfl | rfl | rfl | rfl | rfl
                · exact rol_val rfl rfl rfl (by rw [hz]; decide) (ex_field rfl (eval_slot ((hG.slots 4 (by decide)).trans rfl)) (by go_simp)) hG.below
                · exact rol_val rfl rfl rfl (by rw [hz]; decide) (ex_load rfl (eval_slot (hF 0 (by decide))) (ld_strT (cell_keep D0.out hG.below))) hG.below
                · refine rol_call rfl rfl rfl (by rw [hz]; decide) (ex_call rfl (by simp [eval_slot (hF 1 (by decide))]) e1) (KP.out wx) ?_ hG.below (Nat.le_trans HNW.out hG.new)
                  rintro e w1 ⟨rfl, hb1⟩
                  exact ⟨_, rfl, hb1, .inl rfl⟩
                · exact rol_val rfl rfl rfl (by rw [hz]; decide) (ex_un rfl (eval_slot (hF 2 (by decide))) rfl) hG.below
                · exact rol_val rfl rfl rfl (by rw [hz]; decide) (ex_move (Or.inl rfl) (eval_slot (hF 3 (by decide)))) hG.below
                · exact rol_val rfl (want_yes rfl rfl (hF 4 (by decide))) rfl (by rw [hz]; decide) (ex_field rfl (eval_slot ((hG.slots 4 (by decide)).trans rfl)) (by go_simp)) hG.below
                · exact rol_val rfl (want_yes rfl rfl (hF 4 (by decide))) rfl (by rw [hz]; decide) (ex_load rfl (eval_slot (hF 5 (by decide))) (ld_stsT (cell_keep D1.out hG.below))) hG.below
                · refine rol_call rfl (want_yes rfl rfl (hF 4 (by decide))) rfl (by rw [hz]; decide) (ex_call rfl (by simp [eval_slot (hF 6 (by decide))]) e2) (KF.out wx (SY.out.belowB hG.below)) ?_ hG.below (Nat.le_trans HNW.out hG.new)
                  rintro e w1 ⟨rfl, hb1⟩
                  exact ⟨_, rfl, hb1, .inl rfl⟩
                · exact rol_val rfl (want_yes rfl rfl (hF 4 (by decide))) rfl (by rw [hz]; decide) (ex_un rfl (eval_slot (hF 7 (by decide))) rfl) hG.below
                · exact rol_val rfl rfl rfl (by rw [hz]; decide) (ex_pick_no rfl (eval_slot (hF 4 (by decide))) (eval_slot (hF 8 (by decide)))) hG.below
                · exact rol_val rfl rfl rfl (by rw [hz]; decide) (ex_move (Or.inl rfl) (eval_slot (hF 9 (by decide)))) hG.below
                · exact rol_val rfl (want_yes rfl rfl (hF 10 (by decide))) rfl (by rw [hz]; decide) (ex_move (Or.inl rfl) (eval_slot ((hG.slots 3 (by decide)).trans rfl))) hG.below
                · exact rol_val rfl (want_yes rfl rfl (hF 10 (by decide))) rfl (by rw [hz]; decide) (ex_bin rfl (eval_slot (hF 11 (by decide))) rfl (by go_simp) (bin_gtr0 HZ.out)) hG.below
                · exact rol_val rfl (want_yes rfl rfl (hF 10 (by decide))) rfl (by rw [hz]; decide) (ex_move (Or.inl rfl) (eval_slot (hF 12 (by decide)))) hG.below
                · exact rol_val rfl (want_yes rfl rfl (hF 13 (by decide))) rfl (by rw [hz]; decide) (ex_move (Or.inl rfl) (eval_slot ((hG.slots 0 (by decide)).trans rfl))) hG.below
                · exact rol_val rfl (want_yes rfl rfl (hF 13 (by decide))) rfl (by rw [hz]; decide) (ex_move (Or.inl rfl) (eval_slot ((hG.slots 3 (by decide)).trans rfl))) hG.below
                · exact rol_val rfl (want_yes rfl rfl (hF 13 (by decide))) rfl (by rw [hz]; decide) (ex_bin rfl (eval_slot (hF 15 (by decide))) rfl (by go_simp) (bin_sub1 HM.out HKB.out)) hG.below
                · exact rol_val rfl (want_yes rfl rfl (hF 13 (by decide))) rfl (by rw [hz]; decide) (ex_index rfl (eval_slot (hF 14 (by decide))) (eval_slot (hF 16 (by decide))) (idx_rws HMN.out)) hG.below
                · exact rol_val rfl (want_yes rfl rfl (hF 13 (by decide))) rfl (by rw [hz]; decide) (ex_field rfl (eval_slot (hF 17 (by decide))) (by go_simp)) hG.below
                · exact rol_val rfl (want_yes rfl rfl (hF 13 (by decide))) rfl (by rw [hz]; decide) (ex_load rfl (eval_slot (hF 18 (by decide))) (ld_strT (cell_keep Q0.out hG.below))) hG.below
                · exact rol_val rfl (want_yes rfl rfl (hF 13 (by decide))) rfl (by rw [hz]; decide) (ex_field rfl (eval_slot ((hG.slots 4 (by decide)).trans rfl)) (by go_simp)) hG.below
                · exact rol_val rfl (want_yes rfl rfl (hF 13 (by decide))) rfl (by rw [hz]; decide) (ex_load rfl (eval_slot (hF 20 (by decide))) (ld_strT (cell_keep D0.out hG.below))) hG.below
                · refine rol_call rfl (want_yes rfl rfl (hF 13 (by decide))) rfl (by rw [hz]; decide) (ex_call rfl (by simp [eval_slot (hF 19 (by decide)), eval_slot (hF 21 (by decide))]) e3) (KC.out wx) ?_ hG.below (Nat.le_trans HNW.out hG.new)
                  rintro e w1 ⟨rfl, rfl⟩
                  exact ⟨_, rfl, Below.refl _ _, .inl rfl⟩
                · exact rol_val rfl (want_yes rfl rfl (hF 13 (by decide))) rfl (by rw [hz]; decide) (ex_bin rfl (eval_slot (hF 22 (by decide))) rfl (by go_simp) (bin_geq0 HGE.out)) hG.below
                · exact rol_val rfl (want_yes rfl rfl (hF 10 (by decide))) rfl (by rw [hz]; decide) (ex_pick_yes rfl (eval_slot (hF 13 (by decide))) (eval_slot (hF 23 (by decide)))) hG.below
                · exact rol_val rfl rfl rfl (by rw [hz]; decide) (ex_pick_no rfl (eval_slot (hF 10 (by decide))) (eval_slot (hF 24 (by decide)))) hG.below
              · intro a wx who hG hF
                have fv37 : a.tmps.getD 37 undef = .bool true := eval_slot (s := 37) (hF 25 (of_decide_eq_true (by kernel_rfl)) (of_decide_eq_true (by kernel_rfl)))
                have hbx := hG.below
                have hnx := hG.new
                rw [hG.frame]
                simp only [List.foldl_cons, List.foldl_nil, List.setIfInBounds_toArray, List.set_cons_zero, List.set_cons_succ]
                generalize a.tmps.getD 12 undef = u12
                generalize a.tmps.getD 13 undef = u13
                generalize a.tmps.getD 14 undef = u14
                generalize a.tmps.getD 15 undef = u15
                generalize a.tmps.getD 16 undef = u16
                generalize a.tmps.getD 17 undef = u17
                generalize a.tmps.getD 18 undef = u18
                generalize a.tmps.getD 19 undef = u19
                generalize a.tmps.getD 20 undef = u20
                generalize a.tmps.getD 21 undef = u21
                generalize a.tmps.getD 22 undef = u22
                generalize a.tmps.getD 23 undef = u23
                generalize a.tmps.getD 24 undef = u24
                generalize a.tmps.getD 25 undef = u25
                generalize a.tmps.getD 26 undef = u26
                generalize a.tmps.getD 27 undef = u27
                generalize a.tmps.getD 28 undef = u28
                generalize a.tmps.getD 29 undef = u29
                generalize a.tmps.getD 30 undef = u30
                generalize a.tmps.getD 31 undef = u31
                generalize a.tmps.getD 32 undef = u32
                generalize a.tmps.getD 33 undef = u33
                generalize a.tmps.getD 34 undef = u34
                generalize a.tmps.getD 35 undef = u35
                generalize a.tmps.getD 36 undef = u36
                rw [fv37]
                clear hF hG fv37
                have HB6 := Lib.hid (below_step HB5.out hbx)
                clear hbx hnx
                go_wp2
                go_ret
                exact ⟨by rw [HNO.out]; rfl, HB6.out⟩
    · have e : k = n := by omega
      subst e
      have hy : okR l = true := okR_len HJ.out (by rw [HN.out]; exact Nat.le_refl _)
      have HT2 := Lib.hid (show T = 0 by rw [← HT.out, if_pos hy])
      clear hy
      go_wp2
      go_ret
      exact ⟨by rw [HT2.out]; rfl, HB.out⟩
end Go.Proofs.YtnngfcjfhhfafaaGreat
