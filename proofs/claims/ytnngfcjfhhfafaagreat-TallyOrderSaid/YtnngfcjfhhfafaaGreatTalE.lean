/- Are rows the same: of the program and of the document. -/
import Derived.Test.YtnngfcjfhhfafaaGreatTalD
namespace Go.Proofs.YtnngfcjfhhfafaaGreat
open Go.RowKit
set_option linter.unusedVariables false
set_option maxRecDepth 100000

theorem boxT2 (w : World) (x y x' y' : Value) (t t' : TypeId) : ∃ W g g', (w.alloc (.cells #[x, y] t)).alloc (.cells #[x', y'] t') = W ∧ w.heap.size = g ∧ w.heap.size + 1 = g' ∧ W.heap[g]? = some (.cells #[x, y] t (0, 0)) ∧ W.heap[g']? = some (.cells #[x', y'] t' (0, 0)) ∧ Below w.heap.size w W := by
  refine ⟨_, _, _, rfl, rfl, rfl, ?_, ?_, ((Below.refl _ _).alloc (Nat.le_refl _) _).alloc (by simp) _⟩
  · exact row_keepB (heap_alloc_new _ _) ((Below.refl _ _).alloc (Nat.le_refl _) _)
  · have := heap_alloc_new (w.alloc (.cells #[x, y] t)) (.cells #[x', y'] t')
    simpa using this
theorem row_dec {p q : List UInt8} {vs us : List (List UInt8)} : decide ((p, vs) = (q, us)) = (decide (p = q) && decide (vs = us)) := by
  rw [Bool.eq_iff_iff, Bool.and_eq_true, decide_eq_true_iff, decide_eq_true_iff, decide_eq_true_iff, Prod.mk.injEq]

set_option maxHeartbeats 800000 in
theorem same1_any (p q : List UInt8) (a b : Option Addr) (n c m d : Nat) (vs us : List (List UInt8)) (w : World) (h1 : Strs w (.slice a n c) vs) (h2 : Strs w (.slice b m d) us) :
    Calls Tryz.prog 46 #[.agg #[.string (mkB p), .slice a n c], .agg #[.string (mkB q), .slice b m d]] w fun e w' => e = .returned (.bool (decide ((p, vs) = (q, us)))) ∧ Below w.heap.size w w' := by
  rw [row_dec]
  have hpq := mk_beq p q
  obtain ⟨x, hx⟩ : ∃ x, decide (p = q) = x := ⟨_, rfl⟩
  have kc := fun w h1 h2 => sequal_any (.slice a n c) (.slice b m d) vs us w h1 h2
  unfold sameB at kc
  obtain ⟨y, hy⟩ : ∃ y, decide (vs = us) = y := ⟨_, rfl⟩
  rw [hx] at hpq ⊢
  rw [hy] at kc ⊢
  clear hx hy
  obtain ⟨W, g, g', hW, hg, hg', r0, r1, hb⟩ := boxT2 w (.string (mkB p)) (.slice a n c) (.string (mkB q)) (.slice b m d) 58 58
  obtain ⟨c0, c1, -, -⟩ := row2 r0
  obtain ⟨d0, d1, -, -⟩ := row2 r1
  have S1 := Lib.hid (h1.belowB hb); have S2 := Lib.hid (h2.belowB hb); have BB := Lib.hid hb; have HW := Lib.hid hW; have HG := Lib.hid hg; have HG' := Lib.hid hg'; have KC := Lib.hid kc
  clear h1 h2 hb hW hg hg' r0 r1 kc
  cases x <;> cases y
  all_goals
    go_enter Tryz.func46, Tryz.ntmps46
    go_upto_region 1 with fail
    rw [HW.out, HG'.out, HG.out]
    go_wp2_with (go_at_call 47; refine (KC.out _ S1.out S2.out).mono ?_; rintro e w1 ⟨rfl, hd1⟩; replace BB := Lib.hid (below_step BB.out (below_q hd1)); clear hd1)
    go_ret
    exact ⟨rfl, BB.out⟩

set_option maxHeartbeats 3200000 in
theorem eqf_any (U V : Value) (ns ms : List Rw) (w : World) (hu : Rws w U ns) (hv : Rws w V ms) :
    Calls Tryz.prog 45 #[U, V, .func (.func 46) #[] #[]] w fun e w' => e = .returned (.bool (decide (ns = ms))) ∧ Below w.heap.size w w' := by
  obtain ⟨a, c, rfl, h1, h2, -, -⟩ := hu.ex
  obtain ⟨a', c', rfl, h1', h2', -, -⟩ := hv.ex
  unfold maxLen at h2 h2'
  obtain ⟨n, hn⟩ : ∃ n, ns.length = n := ⟨_, rfl⟩
  obtain ⟨m, hm⟩ : ∃ m, ms.length = m := ⟨_, rfl⟩
  rw [hn] at h1 hu ⊢
  rw [hm] at h1' hv ⊢
  obtain ⟨R, hR⟩ : ∃ R, decide (ns = ms) = R := ⟨_, rfl⟩
  rw [hR]
  have HN := Lib.hid hn; have HM := Lib.hid hm; have SU := Lib.hid hu; have SV := Lib.hid hv; have HR := Lib.hid hR
  clear hu hv hn hm hR
  by_cases hl : n = m
  · subst hl
    have h0 : ((n : Int) != (n : Int)) = false := by simp
    go_enter Tryz.func45, Tryz.ntmps45
    go_wp2
    go_loopw [17] (fun i wr => ∃ k : Nat, k ≤ n ∧ i = .int .i64 k ∧ Hid (ns.take k = ms.take k) ∧ Hid (Below w.heap.size w wr)) (fun i _ => n - (intOf i).toNat)
    case atStart => exact ⟨0, Nat.zero_le _, rfl, Lib.hid (by simp), Lib.hid (Below.refl _ _)⟩
    case round =>
      obtain ⟨k, hk, rfl, H, HB⟩ := hrel
      by_cases hlt : k < n
      · have hkl : k < ns.length := by rw [HN.out]; exact hlt
        have hkm : k < ms.length := by rw [HM.out]; exact hlt
        obtain ⟨b, off, ax, nx, cx, rfl, hc0, hc1, hsx⟩ := (SU.out.below HB.out).at k hkl
        obtain ⟨b', off', ay, ny, cy, rfl, hd0, hd1, hsy⟩ := (SV.out.below HB.out).at k hkm
        obtain ⟨x, hx⟩ : ∃ x, x = ns.getD k zR := ⟨_, rfl⟩
        obtain ⟨y, hy⟩ : ∃ y, y = ms.getD k zR := ⟨_, rfl⟩
        rw [← hx] at hc0 hsx
        rw [← hy] at hd0 hsy
        have e1 : ns.take (k + 1) = ns.take k ++ [x] := by rw [List.take_succ_eq_append_getElem hkl, hx, gd_at hkl]
        have e2 : ms.take (k + 1) = ms.take k ++ [y] := by rw [List.take_succ_eq_append_getElem hkm, hy, gd_at hkm]
        obtain ⟨x1, x2⟩ := x
        obtain ⟨y1, y2⟩ := y
        simp only at hc0 hc1 hd0 hd1 hsx hsy
        have E1 := Lib.hid e1; have E2 := Lib.hid e2; clear hx hy e1 e2
        have kc := fun w h h' => same1_any x1 y1 ax ay nx cx ny cy x2 y2 w h h'
        obtain ⟨o, ho⟩ : ∃ o, decide ((x1, x2) = (y1, y2)) = o := ⟨_, rfl⟩
        rw [ho] at kc
        have HO := Lib.hid ho; clear ho
        have hkb : (k : Int) < (n : Int) := by omega
        have hd0x := fun o => cell_alloc hd0 o; have hd1x := fun o => cell_alloc hd1 o
        obtain ⟨W, g, g', hW, hg, hg', r0, r1, hb⟩ := boxT2 wr (.string (mkB x1)) (.slice ax nx cx) (.string (mkB y1)) (.slice ay ny cy) 58 58
        obtain ⟨p0, p1, -, -⟩ := row2 r0
        obtain ⟨q0, q1, -, -⟩ := row2 r1
        have S1 := Lib.hid (hsx.belowB hb); have S2 := Lib.hid (hsy.belowB hb); have HB5 := Lib.hid (below_step HB.out hb); have HW := Lib.hid hW; have HG := Lib.hid hg; have HG' := Lib.hid hg'; have KC := Lib.hid kc
        clear hsx hsy hb hW hg hg' r0 r1 kc
        go_upto_region 7 with fail
        rw [HW.out, HG'.out, HG.out]
        clear hd0x hd1x hc0 hc1 hd0 hd1
        cases o
        · have HNO : Hid (R = false) := Lib.hid (by
            rw [← HR.out]; refine decide_eq_false fun e => ?_
            have h5 := E1.out
            rw [e, E2.out] at h5
            have h6 := List.append_inj_right' h5 rfl
            simp only [List.cons.injEq, and_true] at h6
            exact of_decide_eq_false HO.out h6.symm)
          go_wp2_with (go_at_call 46; refine (KC.out _ S1.out S2.out).mono ?_; rintro e w1 ⟨rfl, hb1⟩; replace HB5 := Lib.hid (below_step HB5.out hb1); clear hb1)
          go_ret
          exact ⟨by rw [HNO.out]; rfl, HB5.out⟩
        · have H5 : Hid (ns.take (k + 1) = ms.take (k + 1)) := Lib.hid (by rw [E1.out, E2.out, H.out, of_decide_eq_true HO.out])
          go_wp2_with (go_at_call 46; refine (KC.out _ S1.out S2.out).mono ?_; rintro e w1 ⟨rfl, hb1⟩; replace HB5 := Lib.hid (below_step HB5.out hb1); clear hb1)
          go_roundw
          case rel => exact ⟨k + 1, by omega, by go_num, H5, HB5⟩
          case measure => simp [intOf]; omega
      · have e : k = n := by omega
        subst e
        have HYES : Hid (R = true) := Lib.hid (by
          have h5 := H.out
          rw [List.take_of_length_le (by rw [HN.out]; exact Nat.le_refl _), List.take_of_length_le (by rw [HM.out]; exact Nat.le_refl _)] at h5
          rw [← HR.out, decide_eq_true h5])
        go_wp2
        go_ret
        exact ⟨by rw [HYES.out]; rfl, HB.out⟩
  · have h0 : ((n : Int) != (m : Int)) = true := by simp; omega
    have HNO : Hid (R = false) := Lib.hid (by rw [← HR.out]; exact decide_eq_false fun e => hl (by rw [← HN.out, ← HM.out, e]))
    clear hl
    go_enter Tryz.func45, Tryz.ntmps45
    go_wp2
    go_ret
    exact ⟨by rw [HNO.out]; rfl, Below.refl _ _⟩

set_option maxHeartbeats 400000 in
theorem tsame_any (U V : Value) (ns ms : List Rw) (w : World) (hu : Rws w U ns) (hv : Rws w V ms) :
    Calls Tryz.prog 14 #[U, V] w fun e w' => e = .returned (.bool (decide (ns = ms))) ∧ Below w.heap.size w w' := by
  obtain ⟨a, c, rfl, -, -, -, -⟩ := hu.ex
  obtain ⟨a', c', rfl, -, -, -, -⟩ := hv.ex
  have kc := fun w h h' => eqf_any (.slice a ns.length c) (.slice a' ms.length c') ns ms w h h'
  obtain ⟨R, hR⟩ : ∃ R, decide (ns = ms) = R := ⟨_, rfl⟩
  rw [hR] at kc ⊢
  have SU := Lib.hid hu; have SV := Lib.hid hv; have KC := Lib.hid kc
  clear hu hv hR kc
  go_enter Tryz.func14, Tryz.ntmps14
  go_wp2_with (go_at_call 45; refine (KC.out _ SU.out SV.out).mono ?_; rintro e w1 ⟨rfl, hb1⟩; have B := Lib.hid hb1; clear hb1)
  go_ret
  exact ⟨rfl, B.out⟩

theorem bin_neqs {p q : List UInt8} {b : Bool} {w : World} (h : decide (p = q) = !b) : Sem.run Tryz.prog (binOp .neq 9 (.string (mkB p)) (.string (mkB q))) w = .ok (.bool b) w := by
  have e := mk_beq p q
  rw [h] at e
  cases b <;> simp only [Bool.not_true, Bool.not_false] at e <;> go_simp

set_option maxHeartbeats 3200000 in
theorem refsame16_any (U V : Value) (ns ms : List Rw) (w : World) (hu : Rws w U ns) (hv : Rws w V ms) :
    Calls Tryz.prog 15 #[U, V] w fun e w' => e = .returned (.bool (decide (ns = ms))) ∧ Below w.heap.size w w' := by
  obtain ⟨a, c, rfl, h1, h2, -, -⟩ := hu.ex
  obtain ⟨a', c', rfl, h1', h2', -, -⟩ := hv.ex
  unfold maxLen at h2 h2'
  obtain ⟨n, hn⟩ : ∃ n, ns.length = n := ⟨_, rfl⟩
  obtain ⟨m, hm⟩ : ∃ m, ms.length = m := ⟨_, rfl⟩
  rw [hn] at h1 hu ⊢
  rw [hm] at h1' hv ⊢
  obtain ⟨R, hR⟩ : ∃ R, decide (ns = ms) = R := ⟨_, rfl⟩
  rw [hR]
  have HN := Lib.hid hn; have HM := Lib.hid hm; have SU := Lib.hid hu; have SV := Lib.hid hv; have HR := Lib.hid hR
  clear hu hv hn hm hR
  have e1 : ∀ args w, (callFunc 48 args).run Tryz.prog w = .ok (.enter 48 args) w := enters_of Tryz.func48 (by kernel_rfl) rfl
  by_cases hl : n = m
  · subst hl
    have h0 : ((n : Int) != (n : Int)) = false := by simp
    go_enter Tryz.func15, Tryz.ntmps15
    go_wp2
    go_loopw [5] (fun i wr => ∃ k : Nat, k ≤ n ∧ i = .int .i64 k ∧ Hid (ns.take k = ms.take k) ∧ Hid (Below w.heap.size w wr)) (fun i _ => n - (intOf i).toNat)
    case atStart => exact ⟨0, Nat.zero_le _, rfl, Lib.hid (by simp), Lib.hid (Below.refl _ _)⟩
    case round =>
      obtain ⟨k, hk, rfl, H, HB⟩ := hrel
      by_cases hlt : k < n
      · have hkl : k < ns.length := by rw [HN.out]; exact hlt
        have hkm : k < ms.length := by rw [HM.out]; exact hlt
        obtain ⟨bx, ox, ax, nx, cx, rfl, hc0, hc1, hsx⟩ := (SU.out.below HB.out).at k hkl
        obtain ⟨bz, oy, ay, ny, cy, rfl, hd0, hd1, hsy⟩ := (SV.out.below HB.out).at k hkm
        obtain ⟨x, hx⟩ : ∃ x, x = ns.getD k zR := ⟨_, rfl⟩
        obtain ⟨y, hy⟩ : ∃ y, y = ms.getD k zR := ⟨_, rfl⟩
        rw [← hx] at hc0 hsx
        rw [← hy] at hd0 hsy
        have e1' : ns.take (k + 1) = ns.take k ++ [x] := by rw [List.take_succ_eq_append_getElem hkl, hx, gd_at hkl]
        have e2' : ms.take (k + 1) = ms.take k ++ [y] := by rw [List.take_succ_eq_append_getElem hkm, hy, gd_at hkm]
        obtain ⟨x1, x2⟩ := x
        obtain ⟨y1, y2⟩ := y
        simp only at hc0 hc1 hd0 hd1 hsx hsy
        have EE1 := Lib.hid e1'; have EE2 := Lib.hid e2'; clear hx hy e1' e2'
        have kc := fun w h h' => same_any (.slice ax nx cx) (.slice ay ny cy) x2 y2 w h h'
        unfold sameB at kc
        obtain ⟨o, ho⟩ : ∃ o, decide (x1 = y1) = o := ⟨_, rfl⟩
        obtain ⟨v, hv⟩ : ∃ o, decide (x2 = y2) = o := ⟨_, rfl⟩
        rw [hv] at kc
        have hno : (o && v) = false → R = false := fun q => by
          rw [← HR.out]; refine decide_eq_false fun e => ?_
          have h5 := EE1.out
          rw [e, EE2.out] at h5
          have h6 := List.append_inj_right' h5 rfl
          simp only [List.cons.injEq, and_true] at h6
          have h7 := row_dec (p := x1) (q := y1) (vs := x2) (us := y2)
          rw [ho, hv, q] at h7
          exact of_decide_eq_false h7 h6.symm
        have hyes : (o && v) = true → ns.take (k + 1) = ms.take (k + 1) := fun q => by
          have h7 := row_dec (p := x1) (q := y1) (vs := x2) (us := y2)
          rw [ho, hv, q] at h7
          rw [EE1.out, EE2.out, H.out, of_decide_eq_true h7]
        have HNO0 := Lib.hid hno; have HY0 := Lib.hid hyes; have HO := Lib.hid ho; have KC := Lib.hid kc; have SX := Lib.hid hsx; have SY := Lib.hid hsy; have C0 := Lib.hid hc0; have C1 := Lib.hid hc1; have E0 := Lib.hid hd0; have E1 := Lib.hid hd1; have HKN := Lib.hid hlt; have HNW := Lib.hid (Nat.le_refl wr.heap.size)
        clear hno hyes ho hv kc hsx hsy hc0 hc1 hd0 hd1
        have hkb : (k : Int) < (n : Int) := by omega
        go_upto_region 6 with fail
        cases o with
        | false =>
          have HNO := Lib.hid (HNO0.out rfl)
          have HPQ : Hid (decide (x1 = y1) = !true) := HO
          refine rol_run (by kernel_rfl) [[], [], [0, 1], [0, 1, 2], [0, 1, 2, 3], [], [], [5, 6], [5, 6, 7], [5, 6, 7, 8], [0, 1, 2, 3, 4, 5, 6, 7, 8, 9], [0, 1, 2, 3, 4, 5, 6, 7, 8, 9, 10], [0, 1, 2, 3, 4, 5, 6, 7, 8, 9, 10, 11], [0, 1, 2, 3, 4, 5, 6, 7, 8, 9, 10, 11], [0, 1, 2, 3, 4, 5, 6, 7, 8, 9, 10, 11, 12, 13], [0, 1, 2, 3, 4, 5, 6, 7, 8, 9, 10, 11, 12, 13, 14], [0, 1, 2, 3, 4, 5, 6, 7, 8, 9, 10, 11, 12, 13, 14, 15], [0, 1, 2, 3, 4, 5, 6, 7, 8, 9, 10, 11], [0, 1, 2, 3, 4, 5, 6, 7, 8, 9, 10, 11], [0, 1, 2, 3, 4, 5, 6, 7, 8, 9, 10, 11, 17, 18], [0, 1, 2, 3, 4, 5, 6, 7, 8, 9, 10, 11, 17, 18, 19], [0, 1, 2, 3, 4, 5, 6, 7, 8, 9, 10, 11, 17, 18, 19, 20], [0, 1, 2, 3, 4, 5, 6, 7, 8, 9, 10, 11, 12, 13, 14, 15, 16, 17, 18, 19, 20, 21], [0, 1, 2, 3, 4, 5, 6, 7, 8, 9, 10, 11, 12, 13, 14, 15, 16, 17, 18, 19, 20, 21, 22], [0, 1, 2, 3, 4, 5, 6, 7, 8, 9, 10, 11, 12, 13, 14, 15, 16, 17, 18, 19, 20, 21, 22, 23]] (by kernel_rfl) [17, 18, 19, 20, 21, 22, 23, 24, 25, 26, 27, 28, 29, 30, 31, 32, 33, 34, 35, 36, 37, 38, 39, 40, 41] [[], [], [0, 1], [2], [3], [], [], [5, 6], [7], [8], [4, 9], [10], [11], [11], [11], [11], [11], [11], [11], [11], [11], [11], [11], [11], [11]] [0, 0, 0, 0, 0, 0, 0, 0, 0, 0, 0, 0, 0, 0, 0, 0, 0, 0, 0, 0, 0, 0, 0, 0, 0] [0, 0, 0, 0, 0, 0, 0, 0, 0, 0, 0, 0, 0, 0, 0, 0, 0, 0, 0, 0, 0, 0, 0, 0, 0] [1000, 1000, 1000, 1000, 1000, 1000, 1000, 1000, 1000, 1000, 1000, 1000, 1000, 1000, 1000, 1000, 1000, 1000, 1000, 1000, 1000, 1000, 1000, 1000, 1000] [.val 17 (.slice (some ⟨bx, ox, none⟩) n c), .val 18 (.int .i64 (k : Int)), .val 19 (.pointer (some ⟨bx, ox + k * 2, none⟩)), .val 20 (.pointer (some ⟨bx, ox + k * 2, none⟩)), .val 21 (.string (mkB x1)), .val 22 (.slice (some ⟨bz, oy, none⟩) n c'), .val 23 (.int .i64 (k : Int)), .val 24 (.pointer (some ⟨bz, oy + k * 2, none⟩)), .val 25 (.pointer (some ⟨bz, oy + k * 2, none⟩)), .val 26 (.string (mkB y1)), .val 27 (.bool true), .val 28 (.bool true), .val 29 undef, .val 30 undef, .val 31 undef, .val 32 undef, .val 33 undef, .val 34 undef, .val 35 undef, .val 36 undef, .val 37 undef, .val 38 undef, .val 39 undef, .val 40 undef, .val 41 (.bool true)] (by kernel_rfl) ?_ (wr.heap.size) (wr.heap.size) rfl (Below.refl _ _) rfl (fun _ => 0) ?_ ?_ ?_
          · intro j hj
            have hj3 : j < 25 := hj
            have hj2 : j = 0 ∨ j = 1 ∨ j = 2 ∨ j = 3 ∨ j = 4 ∨ j = 5 ∨ j = 6 ∨ j = 7 ∨ j = 8 ∨ j = 9 ∨ j = 10 ∨ j = 11 ∨ j = 12 ∨ j = 13 ∨ j = 14 ∨ j = 15 ∨ j = 16 ∨ j = 17 ∨ j = 18 ∨ j = 19 ∨ j = 20 ∨ j = 21 ∨ j = 22 ∨ j = 23 ∨ j = 24 := by omega
            clear hj hj3
            rcases hj2 with rfl | rfl | rfl | rfl | rfl | rfl | rfl | rfl | rfl | rfl | rfl | rfl | rfl | rfl | rfl | rfl | rfl | rfl | rfl | rfl | rfl | rfl | rfl | rfl | rfl
            · exact trivial
            · exact trivial
            · exact trivial
            · exact trivial
            · exact trivial
            · exact trivial
            · exact trivial
            · exact trivial
            · exact trivial
            · exact trivial
            · exact trivial
            · exact trivial
            · exact trivial
            · exact trivial
            · exact trivial
            · exact trivial
            · exact trivial
            · exact trivial
            · exact trivial
            · exact trivial
            · exact trivial
            · exact trivial
            · exact trivial
            · exact trivial
            · exact trivial
          · intro j hj0 hj
            exact absurd hj (Nat.not_lt.2 hj0)
          · intro i hi a wx who hG hF
            have hz : a.tmps.size = 42 := hG.size
            have hi3 : i < 25 := hi
            have hi2 : i = 0 ∨ i = 1 ∨ i = 2 ∨ i = 3 ∨ i = 4 ∨ i = 5 ∨ i = 6 ∨ i = 7 ∨ i = 8 ∨ i = 9 ∨ i = 10 ∨ i = 11 ∨ i = 12 ∨ i = 13 ∨ i = 14 ∨ i = 15 ∨ i = 16 ∨ i = 17 ∨ i = 18 ∨ i = 19 ∨ i = 20 ∨ i = 21 ∨ i = 22 ∨ i = 23 ∨ i = 24 := by omega
            clear hi hi3
            rcases hi2 with rfl | rfl | rfl | rfl | rfl | rfl | rfl | rfl | rfl | rfl | rfl | rfl | rfl | rfl | rfl | rfl | rfl | rfl | rfl | rfl | rfl | rfl | rfl | rfl | rfl
            · exact rol_val rfl rfl rfl (by rw [hz]; decide) (ex_move (Or.inl rfl) (eval_slot ((hG.slots 0 (by decide)).trans rfl))) hG.below
            · exact rol_val rfl rfl rfl (by rw [hz]; decide) (ex_move (Or.inl rfl) (eval_slot ((hG.slots 5 (by decide)).trans rfl))) hG.below
            · exact rol_val rfl rfl rfl (by rw [hz]; decide) (ex_index rfl (eval_slot (hF 0 (by decide))) (eval_slot (hF 1 (by decide))) (idx_rws HKN.out)) hG.below
            · exact rol_val rfl rfl rfl (by rw [hz]; decide) (ex_field rfl (eval_slot (hF 2 (by decide))) (by go_simp)) hG.below
            · exact rol_val rfl rfl rfl (by rw [hz]; decide) (ex_load rfl (eval_slot (hF 3 (by decide))) (ld_strT (cell_keep C0.out hG.below))) hG.below
            · exact rol_val rfl rfl rfl (by rw [hz]; decide) (ex_move (Or.inl rfl) (eval_slot ((hG.slots 1 (by decide)).trans rfl))) hG.below
            · exact rol_val rfl rfl rfl (by rw [hz]; decide) (ex_move (Or.inl rfl) (eval_slot ((hG.slots 5 (by decide)).trans rfl))) hG.below
            · exact rol_val rfl rfl rfl (by rw [hz]; decide) (ex_index rfl (eval_slot (hF 5 (by decide))) (eval_slot (hF 6 (by decide))) (idx_rws HKN.out)) hG.below
            · exact rol_val rfl rfl rfl (by rw [hz]; decide) (ex_field rfl (eval_slot (hF 7 (by decide))) (by go_simp)) hG.below
            · exact rol_val rfl rfl rfl (by rw [hz]; decide) (ex_load rfl (eval_slot (hF 8 (by decide))) (ld_strT (cell_keep E0.out hG.below))) hG.below
            · exact rol_val rfl rfl rfl (by rw [hz]; decide) (ex_bin rfl (eval_slot (hF 4 (by decide))) (eval_slot (hF 9 (by decide))) (by go_simp) (bin_neqs HPQ.out)) hG.below
            · exact rol_val rfl rfl rfl (by rw [hz]; decide) (ex_move (Or.inl rfl) (eval_slot (hF 10 (by decide)))) hG.below
            · exact rol_val_skip rfl (want_no rfl rfl (hF 11 (by decide)) (by decide)) rfl (by rw [hz]; decide) hG.below
            · exact rol_val_skip rfl (want_no rfl rfl (hF 11 (by decide)) (by decide)) rfl (by rw [hz]; decide) hG.below
            · exact rol_val_skip rfl (want_no rfl rfl (hF 11 (by decide)) (by decide)) rfl (by rw [hz]; decide) hG.below
            · exact rol_val_skip rfl (want_no rfl rfl (hF 11 (by decide)) (by decide)) rfl (by rw [hz]; decide) hG.below
            · exact rol_val_skip rfl (want_no rfl rfl (hF 11 (by decide)) (by decide)) rfl (by rw [hz]; decide) hG.below
            · exact rol_val_skip rfl (want_no rfl rfl (hF 11 (by decide)) (by decide)) rfl (by rw [hz]; decide) hG.below
            · exact rol_val_skip rfl (want_no rfl rfl (hF 11 (by decide)) (by decide)) rfl (by rw [hz]; decide) hG.below
            · exact rol_val_skip rfl (want_no rfl rfl (hF 11 (by decide)) (by decide)) rfl (by rw [hz]; decide) hG.below
            · exact rol_val_skip rfl (want_no rfl rfl (hF 11 (by decide)) (by decide)) rfl (by rw [hz]; decide) hG.below
            · exact rol_val_skip rfl (want_no rfl rfl (hF 11 (by decide)) (by decide)) rfl (by rw [hz]; decide) hG.below
            · exact rol_val_skip rfl (want_no rfl rfl (hF 11 (by decide)) (by decide)) rfl (by rw [hz]; decide) hG.below
            · exact rol_val_skip rfl (want_no rfl rfl (hF 11 (by decide)) (by decide)) rfl (by rw [hz]; decide) hG.below
            · exact rol_val rfl rfl rfl (by rw [hz]; decide) (ex_pick_yes rfl (eval_slot (hF 11 (by decide))) rfl) hG.below
          · intro a wx who hG hF
            have fv41 : a.tmps.getD 41 undef = .bool true := eval_slot (s := 41) (hF 24 (of_decide_eq_true (by kernel_rfl)) (of_decide_eq_true (by kernel_rfl)))
            have hbx := hG.below
            have hnx := hG.new
            rw [hG.frame]
            simp only [List.foldl_cons, List.foldl_nil, List.setIfInBounds_toArray, List.set_cons_zero, List.set_cons_succ]
            generalize a.tmps.getD 17 undef = u17
            generalize a.tmps.getD 18 undef = u18
            generalize a.tmps.getD 19 undef = u19
            generalize a.tmps.getD 20 undef = u20
            generalize a.tmps.getD 21 undef = u21
            generalize a.tmps.getD 22 undef = u22
            generalize a.tmps.getD 23 undef = u23
            generalize a.tmps.getD 24 undef = u24
            generalize a.tmps.getD 25 undef = u25
            generalize a.tmps.getD 26 undef = u26
            generalize a.tmps.getD 27 undef = u27
            generalize a.tmps.getD 28 undef = u28
            generalize a.tmps.getD 29 undef = u29
            generalize a.tmps.getD 30 undef = u30
            generalize a.tmps.getD 31 undef = u31
            generalize a.tmps.getD 32 undef = u32
            generalize a.tmps.getD 33 undef = u33
            generalize a.tmps.getD 34 undef = u34
            generalize a.tmps.getD 35 undef = u35
            generalize a.tmps.getD 36 undef = u36
            generalize a.tmps.getD 37 undef = u37
            generalize a.tmps.getD 38 undef = u38
            generalize a.tmps.getD 39 undef = u39
            generalize a.tmps.getD 40 undef = u40
            rw [fv41]
            clear hF hG fv41
            have HB6 := Lib.hid (below_step HB.out hbx)
            clear hbx hnx
            go_wp2
            go_ret
            exact ⟨by rw [HNO.out]; rfl, HB6.out⟩
        | true =>
          have HPQ : Hid (decide (x1 = y1) = !false) := HO
          cases v with
          | false =>
            have HNO := Lib.hid (HNO0.out rfl)
            refine rol_run (by kernel_rfl) [[], [], [0, 1], [0, 1, 2], [0, 1, 2, 3], [], [], [5, 6], [5, 6, 7], [5, 6, 7, 8], [0, 1, 2, 3, 4, 5, 6, 7, 8, 9], [0, 1, 2, 3, 4, 5, 6, 7, 8, 9, 10], [0, 1, 2, 3, 4, 5, 6, 7, 8, 9, 10, 11], [0, 1, 2, 3, 4, 5, 6, 7, 8, 9, 10, 11], [0, 1, 2, 3, 4, 5, 6, 7, 8, 9, 10, 11, 12, 13], [0, 1, 2, 3, 4, 5, 6, 7, 8, 9, 10, 11, 12, 13, 14], [0, 1, 2, 3, 4, 5, 6, 7, 8, 9, 10, 11, 12, 13, 14, 15], [0, 1, 2, 3, 4, 5, 6, 7, 8, 9, 10, 11], [0, 1, 2, 3, 4, 5, 6, 7, 8, 9, 10, 11], [0, 1, 2, 3, 4, 5, 6, 7, 8, 9, 10, 11, 17, 18], [0, 1, 2, 3, 4, 5, 6, 7, 8, 9, 10, 11, 17, 18, 19], [0, 1, 2, 3, 4, 5, 6, 7, 8, 9, 10, 11, 17, 18, 19, 20], [0, 1, 2, 3, 4, 5, 6, 7, 8, 9, 10, 11, 12, 13, 14, 15, 16, 17, 18, 19, 20, 21], [0, 1, 2, 3, 4, 5, 6, 7, 8, 9, 10, 11, 12, 13, 14, 15, 16, 17, 18, 19, 20, 21, 22], [0, 1, 2, 3, 4, 5, 6, 7, 8, 9, 10, 11, 12, 13, 14, 15, 16, 17, 18, 19, 20, 21, 22, 23]] (by kernel_rfl) [17, 18, 19, 20, 21, 22, 23, 24, 25, 26, 27, 28, 29, 30, 31, 32, 33, 34, 35, 36, 37, 38, 39, 40, 41] [[], [], [0, 1], [2], [3], [], [], [5, 6], [7], [8], [4, 9], [10], [11], [11], [11, 12, 13], [11, 14], [11, 15], [11], [11], [11, 17, 18], [11, 19], [11, 20], [11, 16, 21], [11, 22], [11, 23]] [0, 0, 0, 0, 0, 0, 0, 0, 0, 0, 0, 0, 0, 0, 0, 0, 0, 0, 0, 0, 0, 0, 0, 0, 0] [0, 0, 0, 0, 0, 0, 0, 0, 0, 0, 0, 0, 0, 0, 0, 0, 0, 0, 0, 0, 0, 0, 0, 0, 0] [1000, 1000, 1000, 1000, 1000, 1000, 1000, 1000, 1000, 1000, 1000, 1000, 1000, 1000, 1000, 1000, 1000, 1000, 1000, 1000, 1000, 1000, 1000, 1000, 1000] [.val 17 (.slice (some ⟨bx, ox, none⟩) n c), .val 18 (.int .i64 (k : Int)), .val 19 (.pointer (some ⟨bx, ox + k * 2, none⟩)), .val 20 (.pointer (some ⟨bx, ox + k * 2, none⟩)), .val 21 (.string (mkB x1)), .val 22 (.slice (some ⟨bz, oy, none⟩) n c'), .val 23 (.int .i64 (k : Int)), .val 24 (.pointer (some ⟨bz, oy + k * 2, none⟩)), .val 25 (.pointer (some ⟨bz, oy + k * 2, none⟩)), .val 26 (.string (mkB y1)), .val 27 (.bool false), .val 28 (.bool false), .val 29 (.slice (some ⟨bx, ox, none⟩) n c), .val 30 (.int .i64 (k : Int)), .val 31 (.pointer (some ⟨bx, ox + k * 2, none⟩)), .val 32 (.pointer (some ⟨bx, ox + k * 2 + 1, none⟩)), .val 33 (.slice ax nx cx), .val 34 (.slice (some ⟨bz, oy, none⟩) n c'), .val 35 (.int .i64 (k : Int)), .val 36 (.pointer (some ⟨bz, oy + k * 2, none⟩)), .val 37 (.pointer (some ⟨bz, oy + k * 2 + 1, none⟩)), .val 38 (.slice ay ny cy), .val 39 (.bool false), .val 40 (.bool true), .val 41 (.bool true)] (by kernel_rfl) ?_ (wr.heap.size) (wr.heap.size) rfl (Below.refl _ _) rfl (fun _ => 0) ?_ ?_ ?_
            · intro j hj
              have hj3 : j < 25 := hj
              have hj2 : j = 0 ∨ j = 1 ∨ j = 2 ∨ j = 3 ∨ j = 4 ∨ j = 5 ∨ j = 6 ∨ j = 7 ∨ j = 8 ∨ j = 9 ∨ j = 10 ∨ j = 11 ∨ j = 12 ∨ j = 13 ∨ j = 14 ∨ j = 15 ∨ j = 16 ∨ j = 17 ∨ j = 18 ∨ j = 19 ∨ j = 20 ∨ j = 21 ∨ j = 22 ∨ j = 23 ∨ j = 24 := by omega
              clear hj hj3
              rcases hj2 with rfl | rfl | rfl | rfl | rfl | rfl | rfl | rfl | rfl | rfl | rfl | rfl | rfl | rfl | rfl | rfl | rfl | rfl | rfl | rfl | rfl | rfl | rfl | rfl | rfl
              · exact trivial
              · exact trivial
              · exact trivial
              · exact trivial
              · exact trivial
              · exact trivial
              · exact trivial
              · exact trivial
              · exact trivial
              · exact trivial
              · exact trivial
              · exact trivial
              · exact trivial
              · exact trivial
              · exact trivial
              · exact trivial
              · exact trivial
              · exact trivial
              · exact trivial
              · exact trivial
              · exact trivial
              · exact trivial
              · exact trivial
              · exact trivial
              · exact trivial
            · intro j hj0 hj
              exact absurd hj (Nat.not_lt.2 hj0)
            · intro i hi a wx who hG hF
              have hz : a.tmps.size = 42 := hG.size
              have hi3 : i < 25 := hi
              have hi2 : i = 0 ∨ i = 1 ∨ i = 2 ∨ i = 3 ∨ i = 4 ∨ i = 5 ∨ i = 6 ∨ i = 7 ∨ i = 8 ∨ i = 9 ∨ i = 10 ∨ i = 11 ∨ i = 12 ∨ i = 13 ∨ i = 14 ∨ i = 15 ∨ i = 16 ∨ i = 17 ∨ i = 18 ∨ i = 19 ∨ i = 20 ∨ i = 21 ∨ i = 22 ∨ i = 23 ∨ i = 24 := by omega
              clear hi hi3
              rcases hi2 with rfl | rfl | rfl | rfl | rfl | rfl | rfl | rfl | rfl | rfl | rfl | rfl | rfl | rfl | rfl | rfl | rfl | rfl | rfl | rfl | rfl | rfl | rfl | rfl | rfl
              · exact rol_val rfl rfl rfl (by rw [hz]; decide) (ex_move (Or.inl rfl) (eval_slot ((hG.slots 0 (by decide)).trans rfl))) hG.below
              · exact rol_val rfl rfl rfl (by rw [hz]; decide) (ex_move (Or.inl rfl) (eval_slot ((hG.slots 5 (by decide)).trans rfl))) hG.below
              · exact rol_val rfl rfl rfl (by rw [hz]; decide) (ex_index rfl (eval_slot (hF 0 (by decide))) (eval_slot (hF 1 (by decide))) (idx_rws HKN.out)) hG.below
              · exact rol_val rfl rfl rfl (by rw [hz]; decide) (ex_field rfl (eval_slot (hF 2 (by decide))) (by go_simp)) hG.below
              · exact rol_val rfl rfl rfl (by rw [hz]; decide) (ex_load rfl (eval_slot (hF 3 (by decide))) (ld_strT (cell_keep C0.out hG.below))) hG.below
              · exact rol_val rfl rfl rfl (by rw [hz]; decide) (ex_move (Or.inl rfl) (eval_slot ((hG.slots 1 (by decide)).trans rfl))) hG.below
              · exact rol_val rfl rfl rfl (by rw [hz]; decide) (ex_move (Or.inl rfl) (eval_slot ((hG.slots 5 (by decide)).trans rfl))) hG.below
              · exact rol_val rfl rfl rfl (by rw [hz]; decide) (ex_index rfl (eval_slot (hF 5 (by decide))) (eval_slot (hF 6 (by decide))) (idx_rws HKN.out)) hG.below
              · exact rol_val rfl rfl rfl (by rw [hz]; decide) (ex_field rfl (eval_slot (hF 7 (by decide))) (by go_simp)) hG.below
              · exact rol_val rfl rfl rfl (by rw [hz]; decide) (ex_load rfl (eval_slot (hF 8 (by decide))) (ld_strT (cell_keep E0.out hG.below))) hG.below
              · exact rol_val rfl rfl rfl (by rw [hz]; decide) (ex_bin rfl (eval_slot (hF 4 (by decide))) (eval_slot (hF 9 (by decide))) (by go_simp) (bin_neqs HPQ.out)) hG.below
              · exact rol_val rfl rfl rfl (by rw [hz]; decide) (ex_move (Or.inl rfl) (eval_slot (hF 10 (by decide)))) hG.below
              · exact rol_val rfl (want_yes rfl rfl (hF 11 (by decide))) rfl (by rw [hz]; decide) (ex_move (Or.inl rfl) (eval_slot ((hG.slots 0 (by decide)).trans rfl))) hG.below
              · exact rol_val rfl (want_yes rfl rfl (hF 11 (by decide))) rfl (by rw [hz]; decide) (ex_move (Or.inl rfl) (eval_slot ((hG.slots 5 (by decide)).trans rfl))) hG.below
              · exact rol_val rfl (want_yes rfl rfl (hF 11 (by decide))) rfl (by rw [hz]; decide) (ex_index rfl (eval_slot (hF 12 (by decide))) (eval_slot (hF 13 (by decide))) (idx_rws HKN.out)) hG.below
              · exact rol_val rfl (want_yes rfl rfl (hF 11 (by decide))) rfl (by rw [hz]; decide) (ex_field rfl (eval_slot (hF 14 (by decide))) (by go_simp)) hG.below
              · exact rol_val rfl (want_yes rfl rfl (hF 11 (by decide))) rfl (by rw [hz]; decide) (ex_load rfl (eval_slot (hF 15 (by decide))) (ld_stsT (cell_keep C1.out hG.below))) hG.below
              · exact rol_val rfl (want_yes rfl rfl (hF 11 (by decide))) rfl (by rw [hz]; decide) (ex_move (Or.inl rfl) (eval_slot ((hG.slots 1 (by decide)).trans rfl))) hG.below
              · exact rol_val rfl (want_yes rfl rfl (hF 11 (by decide))) rfl (by rw [hz]; decide) (ex_move (Or.inl rfl) (eval_slot ((hG.slots 5 (by decide)).trans rfl))) hG.below
              · exact rol_val rfl (want_yes rfl rfl (hF 11 (by decide))) rfl (by rw [hz]; decide) (ex_index rfl (eval_slot (hF 17 (by decide))) (eval_slot (hF 18 (by decide))) (idx_rws HKN.out)) hG.below
              · exact rol_val rfl (want_yes rfl rfl (hF 11 (by decide))) rfl (by rw [hz]; decide) (ex_field rfl (eval_slot (hF 19 (by decide))) (by go_simp)) hG.below
              · exact rol_val rfl (want_yes rfl rfl (hF 11 (by decide))) rfl (by rw [hz]; decide) (ex_load rfl (eval_slot (hF 20 (by decide))) (ld_stsT (cell_keep E1.out hG.below))) hG.below
              · refine rol_call rfl (want_yes rfl rfl (hF 11 (by decide))) rfl (by rw [hz]; decide) (ex_call rfl (by simp [eval_slot (hF 16 (by decide)), eval_slot (hF 21 (by decide))]) e1) (KC.out wx (SX.out.belowB hG.below) (SY.out.belowB hG.below)) ?_ hG.below (Nat.le_trans HNW.out hG.new)
                rintro e w1 ⟨rfl, hd1⟩
                exact ⟨_, rfl, below_q hd1, .inl rfl⟩
              · exact rol_val rfl (want_yes rfl rfl (hF 11 (by decide))) rfl (by rw [hz]; decide) (ex_un rfl (eval_slot (hF 22 (by decide))) rfl) hG.below
              · exact rol_val rfl rfl rfl (by rw [hz]; decide) (ex_pick_no rfl (eval_slot (hF 11 (by decide))) (eval_slot (hF 23 (by decide)))) hG.below
            · intro a wx who hG hF
              have fv41 : a.tmps.getD 41 undef = .bool true := eval_slot (s := 41) (hF 24 (of_decide_eq_true (by kernel_rfl)) (of_decide_eq_true (by kernel_rfl)))
              have hbx := hG.below
              have hnx := hG.new
              rw [hG.frame]
              simp only [List.foldl_cons, List.foldl_nil, List.setIfInBounds_toArray, List.set_cons_zero, List.set_cons_succ]
              generalize a.tmps.getD 17 undef = u17
              generalize a.tmps.getD 18 undef = u18
              generalize a.tmps.getD 19 undef = u19
              generalize a.tmps.getD 20 undef = u20
              generalize a.tmps.getD 21 undef = u21
              generalize a.tmps.getD 22 undef = u22
              generalize a.tmps.getD 23 undef = u23
              generalize a.tmps.getD 24 undef = u24
              generalize a.tmps.getD 25 undef = u25
              generalize a.tmps.getD 26 undef = u26
              generalize a.tmps.getD 27 undef = u27
              generalize a.tmps.getD 28 undef = u28
              generalize a.tmps.getD 29 undef = u29
              generalize a.tmps.getD 30 undef = u30
              generalize a.tmps.getD 31 undef = u31
              generalize a.tmps.getD 32 undef = u32
              generalize a.tmps.getD 33 undef = u33
              generalize a.tmps.getD 34 undef = u34
              generalize a.tmps.getD 35 undef = u35
              generalize a.tmps.getD 36 undef = u36
              generalize a.tmps.getD 37 undef = u37
              generalize a.tmps.getD 38 undef = u38
              generalize a.tmps.getD 39 undef = u39
              generalize a.tmps.getD 40 undef = u40
              rw [fv41]
              clear hF hG fv41
              have HB6 := Lib.hid (below_step HB.out hbx)
              clear hbx hnx
              go_wp2
              go_ret
              exact ⟨by rw [HNO.out]; rfl, HB6.out⟩
          | true =>
            have H5 := Lib.hid (HY0.out rfl)
            refine rol_run (by kernel_rfl) [[], [], [0, 1], [0, 1, 2], [0, 1, 2, 3], [], [], [5, 6], [5, 6, 7], [5, 6, 7, 8], [0, 1, 2, 3, 4, 5, 6, 7, 8, 9], [0, 1, 2, 3, 4, 5, 6, 7, 8, 9, 10], [0, 1, 2, 3, 4, 5, 6, 7, 8, 9, 10, 11], [0, 1, 2, 3, 4, 5, 6, 7, 8, 9, 10, 11], [0, 1, 2, 3, 4, 5, 6, 7, 8, 9, 10, 11, 12, 13], [0, 1, 2, 3, 4, 5, 6, 7, 8, 9, 10, 11, 12, 13, 14], [0, 1, 2, 3, 4, 5, 6, 7, 8, 9, 10, 11, 12, 13, 14, 15], [0, 1, 2, 3, 4, 5, 6, 7, 8, 9, 10, 11], [0, 1, 2, 3, 4, 5, 6, 7, 8, 9, 10, 11], [0, 1, 2, 3, 4, 5, 6, 7, 8, 9, 10, 11, 17, 18], [0, 1, 2, 3, 4, 5, 6, 7, 8, 9, 10, 11, 17, 18, 19], [0, 1, 2, 3, 4, 5, 6, 7, 8, 9, 10, 11, 17, 18, 19, 20], [0, 1, 2, 3, 4, 5, 6, 7, 8, 9, 10, 11, 12, 13, 14, 15, 16, 17, 18, 19, 20, 21], [0, 1, 2, 3, 4, 5, 6, 7, 8, 9, 10, 11, 12, 13, 14, 15, 16, 17, 18, 19, 20, 21, 22], [0, 1, 2, 3, 4, 5, 6, 7, 8, 9, 10, 11, 12, 13, 14, 15, 16, 17, 18, 19, 20, 21, 22, 23]] (by kernel_rfl) [17, 18, 19, 20, 21, 22, 23, 24, 25, 26, 27, 28, 29, 30, 31, 32, 33, 34, 35, 36, 37, 38, 39, 40, 41] [[], [], [0, 1], [2], [3], [], [], [5, 6], [7], [8], [4, 9], [10], [11], [11], [11, 12, 13], [11, 14], [11, 15], [11], [11], [11, 17, 18], [11, 19], [11, 20], [11, 16, 21], [11, 22], [11, 23]] [0, 0, 0, 0, 0, 0, 0, 0, 0, 0, 0, 0, 0, 0, 0, 0, 0, 0, 0, 0, 0, 0, 0, 0, 0] [0, 0, 0, 0, 0, 0, 0, 0, 0, 0, 0, 0, 0, 0, 0, 0, 0, 0, 0, 0, 0, 0, 0, 0, 0] [1000, 1000, 1000, 1000, 1000, 1000, 1000, 1000, 1000, 1000, 1000, 1000, 1000, 1000, 1000, 1000, 1000, 1000, 1000, 1000, 1000, 1000, 1000, 1000, 1000] [.val 17 (.slice (some ⟨bx, ox, none⟩) n c), .val 18 (.int .i64 (k : Int)), .val 19 (.pointer (some ⟨bx, ox + k * 2, none⟩)), .val 20 (.pointer (some ⟨bx, ox + k * 2, none⟩)), .val 21 (.string (mkB x1)), .val 22 (.slice (some ⟨bz, oy, none⟩) n c'), .val 23 (.int .i64 (k : Int)), .val 24 (.pointer (some ⟨bz, oy + k * 2, none⟩)), .val 25 (.pointer (some ⟨bz, oy + k * 2, none⟩)), .val 26 (.string (mkB y1)), .val 27 (.bool false), .val 28 (.bool false), .val 29 (.slice (some ⟨bx, ox, none⟩) n c), .val 30 (.int .i64 (k : Int)), .val 31 (.pointer (some ⟨bx, ox + k * 2, none⟩)), .val 32 (.pointer (some ⟨bx, ox + k * 2 + 1, none⟩)), .val 33 (.slice ax nx cx), .val 34 (.slice (some ⟨bz, oy, none⟩) n c'), .val 35 (.int .i64 (k : Int)), .val 36 (.pointer (some ⟨bz, oy + k * 2, none⟩)), .val 37 (.pointer (some ⟨bz, oy + k * 2 + 1, none⟩)), .val 38 (.slice ay ny cy), .val 39 (.bool true), .val 40 (.bool false), .val 41 (.bool false)] (by kernel_rfl) ?_ (wr.heap.size) (wr.heap.size) rfl (Below.refl _ _) rfl (fun _ => 0) ?_ ?_ ?_
            · intro j hj
              have hj3 : j < 25 := hj
              have hj2 : j = 0 ∨ j = 1 ∨ j = 2 ∨ j = 3 ∨ j = 4 ∨ j = 5 ∨ j = 6 ∨ j = 7 ∨ j = 8 ∨ j = 9 ∨ j = 10 ∨ j = 11 ∨ j = 12 ∨ j = 13 ∨ j = 14 ∨ j = 15 ∨ j = 16 ∨ j = 17 ∨ j = 18 ∨ j = 19 ∨ j = 20 ∨ j = 21 ∨ j = 22 ∨ j = 23 ∨ j = 24 := by omega
              clear hj hj3
              rcases hj2 with rfl | rfl | rfl | rfl | rfl | rfl | rfl | rfl | rfl | rfl | rfl | rfl | rfl | rfl | rfl | rfl | rfl | rfl | rfl | rfl | rfl | rfl | rfl | rfl | rfl
              · exact trivial
              · exact trivial
              · exact trivial
              · exact trivial
              · exact trivial
              · exact trivial
              · exact trivial
              · exact trivial
              · exact trivial
              · exact trivial
              · exact trivial
              · exact trivial
              · exact trivial
              · exact trivial
              · exact trivial
              · exact trivial
              · exact trivial
              · exact trivial
              · exact trivial
              · exact trivial
              · exact trivial
              · exact trivial
              · exact trivial
              · exact trivial
              · exact trivial
            · intro j hj0 hj
              exact absurd hj (Nat.not_lt.2 hj0)
            · intro i hi a wx who hG hF
              have hz : a.tmps.size = 42 := hG.size
              have hi3 : i < 25 := hi
              have hi2 : i = 0 ∨ i = 1 ∨ i = 2 ∨ i = 3 ∨ i = 4 ∨ i = 5 ∨ i = 6 ∨ i = 7 ∨ i = 8 ∨ i = 9 ∨ i = 10 ∨ i = 11 ∨ i = 12 ∨ i = 13 ∨ i = 14 ∨ i = 15 ∨ i = 16 ∨ i = 17 ∨ i = 18 ∨ i = 19 ∨ i = 20 ∨ i = 21 ∨ i = 22 ∨ i = 23 ∨ i = 24 := by omega
              clear hi hi3
              rcases hi2 with rfl | rfl | rfl | rfl | rfl | rfl | rfl | rfl | rfl | rfl | rfl | rfl | rfl | rfl | rfl | rfl | rfl | rfl | rfl | rfl | rfl | rfl | rfl | rfl | rfl
              · exact rol_val rfl rfl rfl (by rw [hz]; decide) (ex_move (Or.inl rfl) (eval_slot ((hG.slots 0 (by decide)).trans rfl))) hG.below
              · exact rol_val rfl rfl rfl (by rw [hz]; decide) (ex_move (Or.inl rfl) (eval_slot ((hG.slots 5 (by decide)).trans rfl))) hG.below
              · exact rol_val rfl rfl rfl (by rw [hz]; decide) (ex_index rfl (eval_slot (hF 0 (by decide))) (eval_slot (hF 1 (by decide))) (idx_rws HKN.out)) hG.below
              · exact rol_val rfl rfl rfl (by rw [hz]; decide) (ex_field rfl (eval_slot (hF 2 (by decide))) (by go_simp)) hG.below
              · exact rol_val rfl rfl rfl (by rw [hz]; decide) (ex_load rfl (eval_slot (hF 3 (by decide))) (ld_strT (cell_keep C0.out hG.below))) hG.below
              · exact rol_val rfl rfl rfl (by rw [hz]; decide) (ex_move (Or.inl rfl) (eval_slot ((hG.slots 1 (by decide)).trans rfl))) hG.below
              · exact rol_val rfl rfl rfl (by rw [hz]; decide) (ex_move (Or.inl rfl) (eval_slot ((hG.slots 5 (by decide)).trans rfl))) hG.below
              · exact rol_val rfl rfl rfl (by rw [hz]; decide) (ex_index rfl (eval_slot (hF 5 (by decide))) (eval_slot (hF 6 (by decide))) (idx_rws HKN.out)) hG.below
              · exact rol_val rfl rfl rfl (by rw [hz]; decide) (ex_field rfl (eval_slot (hF 7 (by decide))) (by go_simp)) hG.below
              · exact rol_val rfl rfl rfl (by rw [hz]; decide) (ex_load rfl (eval_slot (hF 8 (by decide))) (ld_strT (cell_keep E0.out hG.below))) hG.below
              · exact rol_val rfl rfl rfl (by rw [hz]; decide) (ex_bin rfl (eval_slot (hF 4 (by decide))) (eval_slot (hF 9 (by decide))) (by go_simp) (bin_neqs HPQ.out)) hG.below
              · exact rol_val rfl rfl rfl (by rw [hz]; decide) (ex_move (Or.inl rfl) (eval_slot (hF 10 (by decide)))) hG.below
              · exact rol_val rfl (want_yes rfl rfl (hF 11 (by decide))) rfl (by rw [hz]; decide) (ex_move (Or.inl rfl) (eval_slot ((hG.slots 0 (by decide)).trans rfl))) hG.below
              · exact rol_val rfl (want_yes rfl rfl (hF 11 (by decide))) rfl (by rw [hz]; decide) (ex_move (Or.inl rfl) (eval_slot ((hG.slots 5 (by decide)).trans rfl))) hG.below
              · exact rol_val rfl (want_yes rfl rfl (hF 11 (by decide))) rfl (by rw [hz]; decide) (ex_index rfl (eval_slot (hF 12 (by decide))) (eval_slot (hF 13 (by decide))) (idx_rws HKN.out)) hG.below
              · exact rol_val rfl (want_yes rfl rfl (hF 11 (by decide))) rfl (by rw [hz]; decide) (ex_field rfl (eval_slot (hF 14 (by decide))) (by go_simp)) hG.below
              · exact rol_val rfl (want_yes rfl rfl (hF 11 (by decide))) rfl (by rw [hz]; decide) (ex_load rfl (eval_slot (hF 15 (by decide))) (ld_stsT (cell_keep C1.out hG.below))) hG.below
              · exact rol_val rfl (want_yes rfl rfl (hF 11 (by decide))) rfl (by rw [hz]; decide) (ex_move (Or.inl rfl) (eval_slot ((hG.slots 1 (by decide)).trans rfl))) hG.below
              · exact rol_val rfl (want_yes rfl rfl (hF 11 (by decide))) rfl (by rw [hz]; decide) (ex_move (Or.inl rfl) (eval_slot ((hG.slots 5 (by decide)).trans rfl))) hG.below
              · exact rol_val rfl (want_yes rfl rfl (hF 11 (by decide))) rfl (by rw [hz]; decide) (ex_index rfl (eval_slot (hF 17 (by decide))) (eval_slot (hF 18 (by decide))) (idx_rws HKN.out)) hG.below
              · exact rol_val rfl (want_yes rfl rfl (hF 11 (by decide))) rfl (by rw [hz]; decide) (ex_field rfl (eval_slot (hF 19 (by decide))) (by go_simp)) hG.below
              · exact rol_val rfl (want_yes rfl rfl (hF 11 (by decide))) rfl (by rw [hz]; decide) (ex_load rfl (eval_slot (hF 20 (by decide))) (ld_stsT (cell_keep E1.out hG.below))) hG.below
              · refine rol_call rfl (want_yes rfl rfl (hF 11 (by decide))) rfl (by rw [hz]; decide) (ex_call rfl (by simp [eval_slot (hF 16 (by decide)), eval_slot (hF 21 (by decide))]) e1) (KC.out wx (SX.out.belowB hG.below) (SY.out.belowB hG.below)) ?_ hG.below (Nat.le_trans HNW.out hG.new)
                rintro e w1 ⟨rfl, hd1⟩
                exact ⟨_, rfl, below_q hd1, .inl rfl⟩
              · exact rol_val rfl (want_yes rfl rfl (hF 11 (by decide))) rfl (by rw [hz]; decide) (ex_un rfl (eval_slot (hF 22 (by decide))) rfl) hG.below
              · exact rol_val rfl rfl rfl (by rw [hz]; decide) (ex_pick_no rfl (eval_slot (hF 11 (by decide))) (eval_slot (hF 23 (by decide)))) hG.below
            · intro a wx who hG hF
              have fv41 : a.tmps.getD 41 undef = .bool false := eval_slot (s := 41) (hF 24 (of_decide_eq_true (by kernel_rfl)) (of_decide_eq_true (by kernel_rfl)))
              have hbx := hG.below
              have hnx := hG.new
              rw [hG.frame]
              simp only [List.foldl_cons, List.foldl_nil, List.setIfInBounds_toArray, List.set_cons_zero, List.set_cons_succ]
              generalize a.tmps.getD 17 undef = u17
              generalize a.tmps.getD 18 undef = u18
              generalize a.tmps.getD 19 undef = u19
              generalize a.tmps.getD 20 undef = u20
              generalize a.tmps.getD 21 undef = u21
              generalize a.tmps.getD 22 undef = u22
              generalize a.tmps.getD 23 undef = u23
              generalize a.tmps.getD 24 undef = u24
              generalize a.tmps.getD 25 undef = u25
              generalize a.tmps.getD 26 undef = u26
              generalize a.tmps.getD 27 undef = u27
              generalize a.tmps.getD 28 undef = u28
              generalize a.tmps.getD 29 undef = u29
              generalize a.tmps.getD 30 undef = u30
              generalize a.tmps.getD 31 undef = u31
              generalize a.tmps.getD 32 undef = u32
              generalize a.tmps.getD 33 undef = u33
              generalize a.tmps.getD 34 undef = u34
              generalize a.tmps.getD 35 undef = u35
              generalize a.tmps.getD 36 undef = u36
              generalize a.tmps.getD 37 undef = u37
              generalize a.tmps.getD 38 undef = u38
              generalize a.tmps.getD 39 undef = u39
              generalize a.tmps.getD 40 undef = u40
              rw [fv41]
              clear hF hG fv41
              have HB6 := Lib.hid (below_step HB.out hbx)
              clear hbx hnx
              go_wp2
              go_roundw
              case rel => exact ⟨k + 1, by omega, by go_num, H5, HB6⟩
              case measure => simp [intOf]; omega
      · have e : k = n := by omega
        subst e
        have HYES : Hid (R = true) := Lib.hid (by
          have h5 := H.out
          rw [List.take_of_length_le (by rw [HN.out]; exact Nat.le_refl _), List.take_of_length_le (by rw [HM.out]; exact Nat.le_refl _)] at h5
          rw [← HR.out, decide_eq_true h5])
        go_wp2
        go_ret
        exact ⟨by rw [HYES.out]; rfl, HB.out⟩
  · have h0 : ((n : Int) != (m : Int)) = true := by simp; omega
    have HNO : Hid (R = false) := Lib.hid (by rw [← HR.out]; exact decide_eq_false fun e => hl (by rw [← HN.out, ← HM.out, e]))
    clear hl
    go_enter Tryz.func15, Tryz.ntmps15
    go_wp2
    go_ret
    exact ⟨by rw [HNO.out]; rfl, Below.refl _ _⟩
end Go.Proofs.YtnngfcjfhhfafaaGreat
