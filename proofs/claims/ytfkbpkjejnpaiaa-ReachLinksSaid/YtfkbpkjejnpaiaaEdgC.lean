/- May edges be: of the program and of the document. -/
import Derived.Test.YtfkbpkjejnpaiaaEdgB
namespace Go.Proofs.Ytfkbpkjejnpaiaa
open Go.RowKit
set_option maxRecDepth 100000

/-- Whether edges may be, as a number. -/
def chkE (l : List Ed) : Int := if okE l then 0 else 1
theorem step_parts (l : List Ed) (k : Nat) {y1 y2 y3 : Int} (h : l.getD k zE = (y1, y2, y3)) :
    stepE l k = (ableE y1 y2 && decide (1 ≤ y3) && decide (y3 ≤ topE) && (k == 0 || ltE (l.getD (k - 1) zE) (y1, y2, y3))) := by
  unfold stepE ableE oneE; rw [h]

set_option maxHeartbeats 3200000 in
theorem check_any (V : Value) (es : List Ed) (w : World) (h : Eds w V es) :
    Calls Try.prog 29 #[V] w fun e w' => e = .returned (.int .i64 (chkE es)) ∧ Below w.heap.size w w' := by
  obtain ⟨a, c, rfl, h1, h2, -, -⟩ := h.ex
  unfold maxLen at h2
  obtain ⟨n, hn⟩ : ∃ n, es.length = n := ⟨_, rfl⟩
  rw [hn] at h1 h ⊢
  obtain ⟨R, hR⟩ : ∃ R, chkE es = R := ⟨_, rfl⟩
  rw [hR]
  have HN := Lib.hid hn; have ST := Lib.hid h; have HR := Lib.hid hR
  clear h hn hR
  go_enter Try.func29, Try.ntmps29
  go_wp2
  go_loopw [7] (fun i wr => ∃ k : Nat, k ≤ n ∧ i = .int .i64 k ∧ Hid (∀ j, j < k → stepE es j = true) ∧ Hid (Below w.heap.size w wr)) (fun i _ => n - (intOf i).toNat)
  case atStart => exact ⟨0, Nat.zero_le _, rfl, Lib.hid (fun j hj => absurd hj (Nat.not_lt_zero j)), Lib.hid (Below.refl _ _)⟩
  case round =>
    obtain ⟨k, hk, rfl, H, HB⟩ := hrel
    by_cases hlt : k < n
    · have hkl : k < es.length := by rw [HN.out]; exact hlt
      obtain ⟨b, off, rfl, hbk, hc0, hc1, hc2⟩ := (ST.out.below HB.out).at k hkl
      obtain ⟨y, hy⟩ : ∃ y, y = es.getD k zE := ⟨_, rfl⟩
      rw [← hy] at hc0 hc1 hc2
      obtain ⟨y1, y2, y3⟩ := y
      simp only at hc0 hc1 hc2
      have hst := step_parts es k hy.symm
      have HST := Lib.hid hst; have HY := Lib.hid hy
      clear hst hy
      obtain ⟨o, ho⟩ : ∃ o, ableE y1 y2 = o := ⟨_, rfl⟩
      have kab := fun w => able_any y1 y2 w
      rw [ho] at kab
      have HO := Lib.hid ho
      clear ho
      have hkb : (k : Int) < (n : Int) := by omega
      obtain ⟨W, g, hW, hg, d0, d1, d2, hb⟩ := boxE1 wr (.int .i64 y1) (.int .i64 y2) (.int .i64 y3) 43
      have HW := Lib.hid hW; have HG := Lib.hid hg; have B := Lib.hid (below_step HB.out hb); have HBW := Lib.hid hb
      clear hW hg hb
      have hno : ∀ c : Bool, stepE es k = c → c = false → R = 1 := fun c h1 h2 => by rw [← HR.out]; unfold chkE; rw [okE_no hkl (h1.trans h2)]; rfl
      have HNO := Lib.hid hno; clear hno
      cases o
      · go_upto_region 4 with fail
        rw [HW.out, HG.out]
        clear hc0 hc1 hc2
        go_quiet ((go_at_call 47; refine Calls.quiet_of_same (kab _)))
        go_wp2
        go_ret
        exact ⟨ret_int (HNO.out _ HST.out (by rw [HO.out]; rfl)).symm, below_step B.out (below_q ⟨nq, rfl⟩)⟩
      · by_cases h3 : y3 < 1
        · have hd : decide (y3 < 1) = true := by simp [h3]
          have H3 := Lib.hid h3; clear h3
          go_upto_region 4 with fail
          rw [HW.out, HG.out]
          clear hc0 hc1 hc2
          go_quiet ((go_at_call 47; refine Calls.quiet_of_same (kab _)))
          go_wp2
          go_ret
          exact ⟨ret_int (HNO.out _ HST.out (by rw [decide_eq_false (p := 1 ≤ y3) (by have := H3.out; omega)]; simp)).symm, below_step B.out (below_q ⟨nq, rfl⟩)⟩
        · have hd : decide (y3 < 1) = false := by simp [h3]
          have H3 : Hid (decide (1 ≤ y3) = true) := Lib.hid (by simp; omega)
          clear h3
          by_cases h4 : 1099511627776 < y3
          · have hd4 : decide (1099511627776 < y3) = true := by simp [h4]
            have H4 : Hid (decide (y3 ≤ topE) = false) := Lib.hid (decide_eq_false (by show ¬ y3 ≤ 1099511627776; omega))
            clear h4
            go_upto_region 4 with fail
            rw [HW.out, HG.out]
            clear hc0 hc1 hc2
            go_quiet ((go_at_call 47; refine Calls.quiet_of_same (kab _)))
            go_wp2
            go_ret
            exact ⟨ret_int (HNO.out _ HST.out (by rw [H4.out]; simp)).symm, below_step B.out (below_q ⟨nq, rfl⟩)⟩
          · have hd4 : decide (1099511627776 < y3) = false := by simp [h4]
            have H4 : Hid (decide (y3 ≤ topE) = true) := Lib.hid (decide_eq_true (by show y3 ≤ 1099511627776; omega))
            clear h4
            by_cases hk0 : k = 0
            · have hd5 : decide (0 < k) = false := by rw [hk0]; rfl
              have H5 : Hid (∀ j, j < k + 1 → stepE es j = true) := Lib.hid fun j hj => by
                have e : j = k := by omega
                subst e
                rw [HST.out, HO.out, H3.out, H4.out, hk0]; rfl
              clear hk0
              go_upto_region 4 with fail
              rw [HW.out, HG.out]
              clear hc0 hc1 hc2
              go_quiet ((go_at_call 47; refine Calls.quiet_of_same (kab _)))
              go_wp2
              go_roundw
              case rel => exact ⟨k + 1, by omega, by go_num, H5, Lib.hid (below_step B.out (below_q ⟨nq, rfl⟩))⟩
              case measure => simp [intOf]; omega
            · have hd5 : decide (0 < k) = true := by simp; omega
              have hk1 : 0 < k := by omega
              obtain ⟨m, hm⟩ : ∃ m, k - 1 = m := ⟨_, rfl⟩
              have hst2 := HST.out
              rw [hm] at hst2
              have hwr : IntKind.i64.wrap ((k : Int) - 1) = (m : Int) := by rw [IntKind.wrap_i64]; omega
              have hmn : m < n := by omega
              have hmb : (m : Int) < (n : Int) := by omega
              obtain ⟨b', off', hab, -, hp0, hp1, hp2⟩ := (ST.out.below HB.out).at m (by rw [HN.out]; exact hmn)
              injection hab with hab
              injection hab with e1 e2
              subst e1 e2
              obtain ⟨x, hx⟩ : ∃ x, x = es.getD m zE := ⟨_, rfl⟩
              rw [← hx] at hst2
              rw [← hx] at hp0 hp1 hp2
              obtain ⟨x1, x2, x3⟩ := x
              simp only at hp0 hp1 hp2
              replace hp0 := cell_keep hp0 HBW.out; replace hp1 := cell_keep hp1 HBW.out; replace hp2 := cell_keep hp2 HBW.out
              have HX := Lib.hid hx; have HST2 := Lib.hid hst2
              clear hx hm hst2
              have kor := fun w => order_any x1 x2 x3 y1 y2 y3 w
              have hor := ord_lt (x1, x2, x3) (y1, y2, y3)
              obtain ⟨T, hT⟩ : ∃ T, ordE (x1, x2, x3) (y1, y2, y3) = T := ⟨_, rfl⟩
              rw [hT] at kor hor
              have HOR := Lib.hid hor
              clear hT hor
              have hs5 : Hid (stepE es k = decide (T < 0)) := Lib.hid (by rw [HST2.out, HO.out, H3.out, H4.out, ← HOR.out, beq_eq_false_iff_ne.2 (by omega)]; simp)
              go_upto_region 4 with fail
              rw [HW.out, HG.out]
              go_still_tail 26, (by kernel_rfl)
              still_call (kab _)
              repeat still_step
              refine wpStill_nil ?_
              by_cases hT0 : 0 ≤ T
              · have hd6 : decide (0 ≤ T) = true := by simp [hT0]
                have H6 : Hid (decide (T < 0) = false) := Lib.hid (by simp; omega)
                clear hT0
                go_wp2_with (go_at_call 48; refine (kor _).mono ?_; rintro e w1 ⟨rfl, hb1⟩; have B1 := Lib.hid (below_step (below_step B.out (below_q ⟨1, rfl⟩)) hb1); clear hb1)
                go_ret
                exact ⟨ret_int (HNO.out _ hs5.out H6.out).symm, B1.out⟩
              · have hd6 : decide (0 ≤ T) = false := by simp [hT0]
                have H6 : Hid (∀ j, j < k + 1 → stepE es j = true) := Lib.hid fun j hj => by
                  by_cases e : j = k
                  · subst e; rw [hs5.out]; simp; omega
                  · exact H.out j (by omega)
                clear hT0
                go_wp2_with (go_at_call 48; refine (kor _).mono ?_; rintro e w1 ⟨rfl, hb1⟩; have B1 := Lib.hid (below_step (below_step B.out (below_q ⟨1, rfl⟩)) hb1); clear hb1)
                go_roundw
                case rel => exact ⟨k + 1, by omega, by go_num, H6, B1⟩
                case measure => simp [intOf]; omega
    · go_wp2
      go_ret
      have e : k = n := by omega
      refine ⟨?_, HB.out⟩
      rw [← HR.out]; unfold chkE; rw [okE_yes (by rw [HN.out]; omega) H.out]; rfl
end Go.Proofs.Ytfkbpkjejnpaiaa
