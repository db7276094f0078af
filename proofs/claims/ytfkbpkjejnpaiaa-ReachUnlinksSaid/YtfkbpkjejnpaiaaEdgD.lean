/- May edges be: of the document; may they be asked of a pair. -/
import Derived.Test.YtfkbpkjejnpaiaaEdgC
namespace Go.Proofs.Ytfkbpkjejnpaiaa
open Go.RowKit
set_option maxRecDepth 100000

theorem step_parts2 (l : List Ed) (k : Nat) {y1 y2 y3 : Int} (h : l.getD k zE = (y1, y2, y3)) :
    stepE l k = (decide (-1 ≤ y1) && decide (0 ≤ y2) && decide (1 ≤ y3) && decide (y3 ≤ 1099511627776) && (k == 0 || ltE (l.getD (k - 1) zE) (y1, y2, y3))) := by
  unfold stepE oneE; rw [h]

set_option maxHeartbeats 3200000 in
theorem refmay_any (V : Value) (es : List Ed) (w : World) (h : Eds w V es) :
    Calls Try.prog 17 #[V] w fun e w' => e = .returned (.bool (okE es)) ∧ Below w.heap.size w w' := by
  obtain ⟨a, c, rfl, h1, h2, -, -⟩ := h.ex
  unfold maxLen at h2
  obtain ⟨n, hn⟩ : ∃ n, es.length = n := ⟨_, rfl⟩
  rw [hn] at h1 h ⊢
  obtain ⟨R, hR⟩ : ∃ R, okE es = R := ⟨_, rfl⟩
  rw [hR]
  have HN := Lib.hid hn; have ST := Lib.hid h; have HR := Lib.hid hR
  clear h hn hR
  go_enter Try.func17, Try.ntmps17
  go_wp2
  go_loopw [3] (fun i wr => ∃ k : Nat, k ≤ n ∧ i = .int .i64 k ∧ Hid (∀ j, j < k → stepE es j = true) ∧ Hid (Below w.heap.size w wr)) (fun i _ => n - (intOf i).toNat)
  case atStart => exact ⟨0, Nat.zero_le _, rfl, Lib.hid (fun j hj => absurd hj (Nat.not_lt_zero j)), Lib.hid (Below.refl _ _)⟩
  case round =>
    obtain ⟨k, hk, rfl, H, HB⟩ := hrel
    by_cases hlt : k < n
    · have hkl : k < es.length := by rw [HN.out]; exact hlt
      obtain ⟨b, off, rfl, hbk, hc0, hc1, hc2⟩ := (ST.out.below HB.out).at k hkl
      obtain ⟨y, hy⟩ : ∃ y, y = es.getD k zE := ⟨_, rfl⟩
      rw [← hy] at hc0 hc1 hc2
      obtain ⟨y1, y2, y3⟩ := y
      simp only at hc0 hc1 hc2
      have hst := step_parts2 es k hy.symm
      have HST := Lib.hid hst
      clear hst hy
      have hkb : (k : Int) < (n : Int) := by omega
      have hno : ∀ c : Bool, stepE es k = c → c = false → R = false := fun c h1 h2 => by rw [← HR.out]; exact okE_no hkl (h1.trans h2)
      have HNO := Lib.hid hno; clear hno

      by_cases t0 : y1 < -1
      · have d0 : decide (y1 < -1) = true := by simp [t0]
        have G0 : Hid (decide (-1 ≤ y1) = false) := Lib.hid (decide_eq_false (by omega))
        clear t0
        go_upto_region 4 with fail
        go_quiet (fail)
        go_wp2
        go_ret
        exact ⟨ret_bool (HNO.out _ HST.out (by rw [G0.out]; simp)).symm, below_step HB.out (below_q ⟨nq, rfl⟩)⟩
      · have d0 : decide (y1 < -1) = false := by simp [t0]
        have G0 : Hid (decide (-1 ≤ y1) = true) := Lib.hid (decide_eq_true (by omega))
        clear t0
        by_cases t1 : y2 < 0
        · have d1 : decide (y2 < 0) = true := by simp [t1]
          have G1 : Hid (decide (0 ≤ y2) = false) := Lib.hid (decide_eq_false (by omega))
          clear t1
          go_upto_region 4 with fail
          go_quiet (fail)
          go_wp2
          go_ret
          exact ⟨ret_bool (HNO.out _ HST.out (by rw [G1.out]; simp)).symm, below_step HB.out (below_q ⟨nq, rfl⟩)⟩
        · have d1 : decide (y2 < 0) = false := by simp [t1]
          have G1 : Hid (decide (0 ≤ y2) = true) := Lib.hid (decide_eq_true (by omega))
          clear t1
          by_cases t2 : y3 < 1
          · have d2 : decide (y3 < 1) = true := by simp [t2]
            have G2 : Hid (decide (1 ≤ y3) = false) := Lib.hid (decide_eq_false (by omega))
            clear t2
            go_upto_region 4 with fail
            go_quiet (fail)
            go_wp2
            go_ret
            exact ⟨ret_bool (HNO.out _ HST.out (by rw [G2.out]; simp)).symm, below_step HB.out (below_q ⟨nq, rfl⟩)⟩
          · have d2 : decide (y3 < 1) = false := by simp [t2]
            have G2 : Hid (decide (1 ≤ y3) = true) := Lib.hid (decide_eq_true (by omega))
            clear t2
            by_cases t3 : 1099511627776 < y3
            · have d3 : decide (1099511627776 < y3) = true := by simp [t3]
              have G3 : Hid (decide (y3 ≤ 1099511627776) = false) := Lib.hid (decide_eq_false (by omega))
              clear t3
              go_upto_region 4 with fail
              go_quiet (fail)
              go_wp2
              go_ret
              exact ⟨ret_bool (HNO.out _ HST.out (by rw [G3.out]; simp)).symm, below_step HB.out (below_q ⟨nq, rfl⟩)⟩
            · have d3 : decide (1099511627776 < y3) = false := by simp [t3]
              have G3 : Hid (decide (y3 ≤ 1099511627776) = true) := Lib.hid (decide_eq_true (by omega))
              clear t3
              by_cases hk0 : k = 0
              · have hd5 : decide (0 < k) = false := by rw [hk0]; rfl
                have H5 : Hid (∀ j, j < k + 1 → stepE es j = true) := Lib.hid fun j hj => by
                  have e : j = k := by omega
                  subst e
                  rw [HST.out, G0.out, G1.out, G2.out, G3.out, hk0]; rfl
                clear hk0
                go_upto_region 4 with fail
                go_quiet (fail)
                go_wp2
                go_roundw
                case rel => exact ⟨k + 1, by omega, by go_num, H5, Lib.hid (below_step HB.out (below_q ⟨nq, rfl⟩))⟩
                case measure => simp [intOf]; omega
              · have hd5 : decide (0 < k) = true := by simp; omega
                have hk1 : 0 < k := by omega
                obtain ⟨m, hm⟩ : ∃ m, k - 1 = m := ⟨_, rfl⟩
                have hst2 := HST.out
                rw [hm] at hst2
                have hwr : IntKind.i64.wrap ((k : Int) - 1) = (m : Int) := by rw [IntKind.wrap_i64]; omega
                have hmn : m < n := by omega
                have hmb : (m : Int) < (n : Int) := by omega
                obtain ⟨b', off', hab, -, hp0, hp1, hp2⟩ := (ST.out.below HB.out).at m (by rw [HN.out]; exact hmn)
                injection hab with hab
                injection hab with e1 e2
                subst e1 e2
                obtain ⟨x, hx⟩ : ∃ x, x = es.getD m zE := ⟨_, rfl⟩
                rw [← hx] at hst2
                rw [← hx] at hp0 hp1 hp2
                obtain ⟨x1, x2, x3⟩ := x
                simp only at hp0 hp1 hp2
                have HST2 := Lib.hid hst2
                clear hx hm hst2
                have kor := fun w => less_any x1 x2 x3 y1 y2 y3 w
                obtain ⟨T, hT⟩ : ∃ T, ltE (x1, x2, x3) (y1, y2, y3) = T := ⟨_, rfl⟩
                rw [hT] at kor
                have hs5 : Hid (stepE es k = T) := Lib.hid (by rw [HST2.out, G0.out, G1.out, G2.out, G3.out, hT, beq_eq_false_iff_ne.2 (by omega)]; simp)
                clear hT
                cases T
                · go_upto_region 4 with fail
                  go_still_tail 43, (by kernel_rfl)
                  go_wp2_with (go_at_call 37; refine (kor _).mono ?_; rintro e w1 ⟨rfl, hb1⟩; have B1 := Lib.hid (below_step (below_step HB.out (below_q ⟨1, rfl⟩)) hb1); clear hb1)
                  go_ret
                  exact ⟨ret_bool (HNO.out _ hs5.out rfl).symm, B1.out⟩
                · have H6 : Hid (∀ j, j < k + 1 → stepE es j = true) := Lib.hid fun j hj => by
                    by_cases e : j = k
                    · subst e; exact hs5.out
                    · exact H.out j (by omega)
                  go_upto_region 4 with fail
                  go_still_tail 43, (by kernel_rfl)
                  go_wp2_with (go_at_call 37; refine (kor _).mono ?_; rintro e w1 ⟨rfl, hb1⟩; have B1 := Lib.hid (below_step (below_step HB.out (below_q ⟨1, rfl⟩)) hb1); clear hb1)
                  go_roundw
                  case rel => exact ⟨k + 1, by omega, by go_num, H6, B1⟩
                  case measure => simp [intOf]; omega
    · go_wp2
      go_ret
      refine ⟨?_, HB.out⟩
      rw [← HR.out, okE_yes (by rw [HN.out]; omega) H.out]; rfl

/-- May edges be asked of a pair? -/
def mayE (l : List Ed) (f t : Int) : Bool := ableE f t && okE l
set_option maxHeartbeats 800000 in
theorem pmay_any (V : Value) (es : List Ed) (f t : Int) (w : World) (h : Eds w V es) :
    Calls Try.prog 62 #[V, .int .i64 f, .int .i64 t] w fun e w' => e = .returned (.bool (mayE es f t)) ∧ Below w.heap.size w w' := by
  unfold mayE
  obtain ⟨a, c, rfl, -⟩ := h.ex
  obtain ⟨n, hn⟩ : ∃ n, es.length = n := ⟨_, rfl⟩
  rw [hn] at h ⊢
  have ST := Lib.hid h
  clear h hn
  have kab := fun w => able_any f t w
  have kch := fun V w h => check_any V es w h
  unfold chkE at kch
  obtain ⟨o, ho⟩ : ∃ o, ableE f t = o := ⟨_, rfl⟩
  obtain ⟨o2, ho2⟩ : ∃ o, okE es = o := ⟨_, rfl⟩
  rw [ho] at kab ⊢
  rw [ho2] at kch ⊢
  clear ho ho2
  cases o
  · go_enter Try.func62, Try.ntmps62
    go_wp2_with (go_at_call 47; refine (kab _).mono ?_; rintro e w1 ⟨rfl, rfl⟩)
    go_ret
    exact ⟨rfl, Below.refl _ _⟩
  · cases o2
    all_goals
      simp only [if_true, if_false, Bool.false_eq_true] at kch
      go_enter Try.func62, Try.ntmps62
      go_wp2_with (first
        | (go_at_call 47; refine (kab _).mono ?_; rintro e w1 ⟨rfl, rfl⟩)
        | (go_at_call 29; refine (kch _ _ ST.out).mono ?_; rintro e w1 ⟨rfl, hb1⟩; have B1 := Lib.hid hb1; clear hb1))
      go_ret
      exact ⟨rfl, B1.out⟩
end Go.Proofs.Ytfkbpkjejnpaiaa
