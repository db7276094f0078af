/- Edges with a pair so often, and ends: of the document; no more edges than are looked at; the chapter's examples. -/
import Derived.Test.YtfkbpkjejnpaiaaEdgI
namespace Go.Proofs.Ytfkbpkjejnpaiaa
open Go.RowKit
set_option maxRecDepth 100000

/-! ### No more edges than are looked at -/
def fewE (l : List Ed) : List Ed := l.take 40
theorem fewE_len (l : List Ed) : (fewE l).length ≤ 40 := by unfold fewE; rw [List.length_take]; omega
set_option maxHeartbeats 400000 in
theorem efew_any (V : Value) (l : List Ed) (w : World) (h : Eds w V l) :
    Calls Try.prog 10 #[V] w fun e w' => ∃ a c, e = .returned (.slice a (fewE l).length c) ∧ Eds w (.slice a (fewE l).length c) (fewE l) ∧ w' = w := by
  obtain ⟨a, c, rfl, h1, h2, h3, h4⟩ := h.ex
  unfold maxLen at h2
  have hcut := fun k hk => h.cut k hk
  by_cases hl : 40 < l.length
  · have e : fewE l = l.take 40 := rfl
    have e2 : (fewE l).length = 40 := by rw [e, List.length_take]; omega
    obtain ⟨b, off, rfl, -⟩ := h4 (by omega)
    have hE := hcut 40 (by omega)
    rw [← e] at hE
    rw [e2]
    obtain ⟨n, hn⟩ : ∃ n, l.length = n := ⟨_, rfl⟩
    rw [hn] at h1 hl ⊢
    have HE := Lib.hid hE
    have hl2 : (40 : Int) < (n : Int) := by omega
    clear e e2 hE hcut h h3 h4 hn
    go_enter Try.func10, Try.ntmps10
    go_wp2
    go_ret
    exact ⟨_, _, rfl, HE.out, rfl⟩
  · have e : fewE l = l := List.take_of_length_le (by omega)
    rw [e]
    have HE := Lib.hid h
    obtain ⟨n, hn⟩ : ∃ n, l.length = n := ⟨_, rfl⟩
    rw [hn] at h1 hl HE ⊢
    have hl2 : ¬ (40 : Int) < (n : Int) := by omega
    clear e hcut h h3 h4 hn
    go_enter Try.func10, Try.ntmps10
    go_wp2
    go_ret
    exact ⟨_, _, rfl, HE.out, rfl⟩

/-! ### Edges with a pair so often -/

set_option maxHeartbeats 3200000 in
theorem refwith_any (V : Value) (l : List Ed) (x1 x2 x3 : Int) (w : World) (h : Eds w V l) (hl : l.length ≤ 1000000) :
    Calls Try.prog 22 #[V, .agg #[.int .i64 x1, .int .i64 x2, .int .i64 x3]] w fun e w' => ∃ v, e = .returned v ∧ w'.ownsRow w.heap.size 43 3 v (withE l (x1, x2, x3)).length (edC (withE l (x1, x2, x3))) ∧ Below w.heap.size w w' := by
  obtain ⟨a, c, rfl, -⟩ := h.ex
  have hR : withE l (x1, x2, x3) = (l.filter fun e => ltE e (x1, x2, x3)) ++ midE (x1, x2, x3) ++ l.filter fun e => ltE (x1, x2, x3) e := rfl
  obtain ⟨R, hR0⟩ : ∃ R, withE l (x1, x2, x3) = R := ⟨_, rfl⟩
  rw [hR0] at hR ⊢
  have hF1 := List.length_filter_le (fun e : Ed => ltE e (x1, x2, x3)) l
  obtain ⟨n, hn⟩ : ∃ n, l.length = n := ⟨_, rfl⟩
  rw [hn] at h hl hF1 ⊢
  obtain ⟨W, g, hW, hg, d0, d1, d2, hb⟩ := boxE1 w (.int .i64 x1) (.int .i64 x2) (.int .i64 x3) 43
  obtain ⟨N, hN⟩ : ∃ N, W.heap.size = N := ⟨_, rfl⟩
  have ST := Lib.hid (h.below hb); have B := Lib.hid hb; have HW := Lib.hid hW; have HG := Lib.hid hg; have HN := Lib.hid hn; have HN2 := Lib.hid hN; have HR := Lib.hid hR; have HF1 := Lib.hid hF1
  have D0 := Lib.hid d0; have D1 := Lib.hid d1; have D2 := Lib.hid d2
  clear h hb hW hg hn hN hR hR0 hF1 d0 d1 d2
  go_enter Try.func22, Try.ntmps22
  go_upto_region 1 with fail
  rw [HW.out, HG.out]
  go_wp2
  go_loopw [5, 6] (fun v i wr => ∃ k m : Nat, k ≤ n ∧ m ≤ 0 + k ∧ i = .int .i64 k ∧ Hid (((l.take k).filter (fun e : Ed => ltE e (x1, x2, x3))).length = m) ∧ Hid (wr.ownsRow N 43 3 v m (edC ((l.take k).filter (fun e : Ed => ltE e (x1, x2, x3))))) ∧ Hid (Below N W wr)) (fun _ i _ => n - (intOf i).toNat)
  case atStart => exact ⟨0, 0, Nat.zero_le _, by omega, rfl, Lib.hid (by simp), Lib.hid (World.ownsRow_nil _ _ _ _), Lib.hid (Below.refl _ _)⟩
  case round =>
    obtain ⟨k, m, hk, hmk, rfl, HL, HOWN, HB⟩ := hrel
    have HBW : Hid (Below W.heap.size W wr) := Lib.hid (by rw [HN2.out]; exact HB.out)
    have HZ : Hid (N ≤ wr.heap.size) := Lib.hid (by have := HB.out.size; have := HN2.out; omega)
    have d0 := cell_keep D0.out HBW.out; have d1 := cell_keep D1.out HBW.out; have d2 := cell_keep D2.out HBW.out
    by_cases hlt : k < n
    · have hkl : k < l.length := by rw [HN.out]; exact hlt
      obtain ⟨b, off, rfl, -, hc0, hc1, hc2⟩ := (ST.out.below HBW.out).at k hkl
      have htk := ed_take hkl
      obtain ⟨y, hy⟩ : ∃ y, y = l.getD k zE := ⟨_, rfl⟩
      rw [← hy] at hc0 hc1 hc2 htk
      obtain ⟨y1, y2, y3⟩ := y
      simp only at hc0 hc1 hc2
      have hf := filter_snoc (fun e : Ed => ltE e (x1, x2, x3)) (l.take k) (y1, y2, y3)
      rw [← htk] at hf
      have kl := fun w => less_any y1 y2 y3 x1 x2 x3 w
      obtain ⟨o, ho⟩ : ∃ o, ltE (y1, y2, y3) (x1, x2, x3) = o := ⟨_, rfl⟩
      rw [ho] at hf kl
      have HF := Lib.hid hf
      have hkb : (k : Int) < (n : Int) := by omega
      clear hy htk hf ho
      cases o
      · go_upto_region 5 with fail
        go_still_tail 5, (by kernel_rfl)
        go_wp2_with (go_at_call 37; refine (kl _).mono ?_; rintro e w1 ⟨rfl, hb1⟩; have hb2 : Below wr.heap.size wr w1 := below_step (below_q ⟨1, rfl⟩) hb1; replace HOWN := Lib.hid (ownsRow_belowB HOWN.out hb2); have HB1 := Lib.hid (HB.out.trans (hb2.mono HZ.out)); clear hb1 hb2)
        go_roundw
        case rel => exact ⟨k + 1, m, by omega, by omega, by go_num, Lib.hid (by rw [HF.out]; simp only [Bool.false_eq_true, if_false, List.append_nil]; exact HL.out), Lib.hid (by rw [HF.out]; simp only [Bool.false_eq_true, if_false, List.append_nil]; exact HOWN.out), HB1⟩
        case measure => simp [intOf]; omega
      · go_upto_region 5 with fail
        go_still_tail 5, (by kernel_rfl)
        go_wp2_with (first
          | (go_at_call 37; refine (kl _).mono ?_; rintro e w1 ⟨rfl, hb1⟩; have hb2 : Below wr.heap.size wr w1 := below_step (below_q ⟨1, rfl⟩) hb1; replace hc0 := cell_keep hc0 hb2; replace hc1 := cell_keep hc1 hb2; replace hc2 := cell_keep hc2 hb2; replace HOWN := Lib.hid (ownsRow_belowB HOWN.out hb2); have HB1 := Lib.hid (HB.out.trans (hb2.mono HZ.out)); clear hb1 hb2)
          | (at_builtin; refine wpList_append_new rfl _ _ 22 rfl N 43 (.agg #[.int .i64 0, .int .i64 0, .int .i64 0]) 3 24 Try.underlying22 Try.info_edge rfl (by decide) _ m _ rfl HOWN.out [.int .i64 y1, .int .i64 y2, .int .i64 y3] rfl rfl rfl (by omega) (by unfold maxLen; omega) (by have := HB1.out.size; have := HN2.out; omega) ?_; intro v2 w2 hown2 hb2; have HO2 := Lib.hid hown2; have HB2 := Lib.hid (HB1.out.trans hb2.toBelow); clear hown2 hb2))
        go_roundw
        case rel => exact ⟨k + 1, m + 1, by omega, by omega, by go_num, Lib.hid (by rw [HF.out]; simp only [if_true]; rw [List.length_append, HL.out]; rfl), Lib.hid (by rw [HF.out]; simp only [if_true]; rw [edC_snoc]; exact HO2.out), HB2⟩
        case measure => simp [intOf]; omega
    · have hL := HL.out
      have hO := HOWN.out
      rw [List.take_of_length_le (by rw [HN.out]; omega)] at hL hO
      obtain ⟨F1, hf1⟩ : ∃ F, (l.filter fun e : Ed => ltE e (x1, x2, x3)) = F := ⟨_, rfl⟩
      have hr := HR.out
      have hf1l := HF1.out
      rw [hf1] at hL hO hr hf1l
      replace HL := Lib.hid hL; replace HOWN := Lib.hid hO; replace HR := Lib.hid hr
      have hmn : m ≤ n := by omega
      have HSZ : Hid (N ≤ wr.heap.size) := Lib.hid (by have := HB.out.size; have := HN2.out; omega)
      clear hL hO hr hf1 hf1l
      by_cases h3 : 0 < x3
      · have hmid : midE (x1, x2, x3) = [(x1, x2, x3)] := if_pos h3
        rw [hmid] at HR
        have HMP := Lib.hid hmid
        clear hmid
        go_upto_region 9 with (at_builtin; refine wpList_append_new rfl _ _ 22 rfl N 43 (.agg #[.int .i64 0, .int .i64 0, .int .i64 0]) 3 24 Try.underlying22 Try.info_edge rfl (by decide) _ m _ rfl HOWN.out [.int .i64 x1, .int .i64 x2, .int .i64 x3] rfl rfl rfl (by omega) (by unfold maxLen; omega) HSZ.out ?_; intro v2 w2 hown2 hb2; have HO2 := Lib.hid hown2; have HB2 := Lib.hid (HB.out.trans hb2.toBelow); clear hown2 hb2)
        clear d0 d1 d2 hk hlt hmk HBW HB HSZ HZ
        obtain ⟨m1, hm1⟩ : ∃ j, m + 1 = j := ⟨_, rfl⟩
        have HM1 : Hid ((F1 ++ [(x1, x2, x3)]).length = m1) := Lib.hid (by rw [List.length_append, HL.out, ← hm1]; rfl)
        rw [hm1] at HO2
        have hm2 : m1 ≤ n + 1 := by omega
        go_wp2
        go_loopw [5, 7] (fun v i wr => ∃ k m : Nat, k ≤ n ∧ m ≤ m1 + k ∧ i = .int .i64 k ∧ Hid ((F1 ++ [(x1, x2, x3)] ++ (l.take k).filter (fun e : Ed => ltE (x1, x2, x3) e)).length = m) ∧ Hid (wr.ownsRow N 43 3 v m (edC (F1 ++ [(x1, x2, x3)] ++ (l.take k).filter (fun e : Ed => ltE (x1, x2, x3) e)))) ∧ Hid (Below N W wr)) (fun _ i _ => n - (intOf i).toNat)
        case atStart => exact ⟨0, m1, Nat.zero_le _, by omega, rfl, Lib.hid (by simp only [List.take_zero, List.filter_nil, List.append_nil]; exact HM1.out), Lib.hid (by simp only [List.take_zero, List.filter_nil, List.append_nil]; rw [edC_snoc]; exact HO2.out), HB2⟩
        case round =>
          obtain ⟨k, m, hk, hmk, rfl, HL, HOWN, HB⟩ := hrel
          have HBW : Hid (Below W.heap.size W wr) := Lib.hid (by rw [HN2.out]; exact HB.out)
          have HZ : Hid (N ≤ wr.heap.size) := Lib.hid (by have := HB.out.size; have := HN2.out; omega)
          have d0 := cell_keep D0.out HBW.out; have d1 := cell_keep D1.out HBW.out; have d2 := cell_keep D2.out HBW.out
          by_cases hlt : k < n
          · have hkl : k < l.length := by rw [HN.out]; exact hlt
            obtain ⟨b, off, rfl, -, hc0, hc1, hc2⟩ := (ST.out.below HBW.out).at k hkl
            have htk := ed_take hkl
            obtain ⟨y, hy⟩ : ∃ y, y = l.getD k zE := ⟨_, rfl⟩
            rw [← hy] at hc0 hc1 hc2 htk
            obtain ⟨y1, y2, y3⟩ := y
            simp only at hc0 hc1 hc2
            have hf := filter_snoc (fun e : Ed => ltE (x1, x2, x3) e) (l.take k) (y1, y2, y3)
            rw [← htk] at hf
            have kl := fun w => less_any x1 x2 x3 y1 y2 y3 w
            obtain ⟨o, ho⟩ : ∃ o, ltE (x1, x2, x3) (y1, y2, y3) = o := ⟨_, rfl⟩
            rw [ho] at hf kl
            have HF := Lib.hid hf
            have hkb : (k : Int) < (n : Int) := by omega
            clear hy htk hf ho
            cases o
            · go_upto_region 12 with fail
              go_still_tail 5, (by kernel_rfl)
              go_wp2_with (go_at_call 37; refine (kl _).mono ?_; rintro e w1 ⟨rfl, hb1⟩; have hb2 : Below wr.heap.size wr w1 := below_step (below_q ⟨1, rfl⟩) hb1; replace HOWN := Lib.hid (ownsRow_belowB HOWN.out hb2); have HB1 := Lib.hid (HB.out.trans (hb2.mono HZ.out)); clear hb1 hb2)
              go_roundw
              case rel => exact ⟨k + 1, m, by omega, by omega, by go_num, Lib.hid (by rw [HF.out]; simp only [Bool.false_eq_true, if_false, List.append_nil]; exact HL.out), Lib.hid (by rw [HF.out]; simp only [Bool.false_eq_true, if_false, List.append_nil]; exact HOWN.out), HB1⟩
              case measure => simp [intOf]; omega
            · go_upto_region 12 with fail
              go_still_tail 5, (by kernel_rfl)
              go_wp2_with (first
                | (go_at_call 37; refine (kl _).mono ?_; rintro e w1 ⟨rfl, hb1⟩; have hb2 : Below wr.heap.size wr w1 := below_step (below_q ⟨1, rfl⟩) hb1; replace hc0 := cell_keep hc0 hb2; replace hc1 := cell_keep hc1 hb2; replace hc2 := cell_keep hc2 hb2; replace HOWN := Lib.hid (ownsRow_belowB HOWN.out hb2); have HB1 := Lib.hid (HB.out.trans (hb2.mono HZ.out)); clear hb1 hb2)
                | (at_builtin; refine wpList_append_new rfl _ _ 22 rfl N 43 (.agg #[.int .i64 0, .int .i64 0, .int .i64 0]) 3 24 Try.underlying22 Try.info_edge rfl (by decide) _ m _ rfl HOWN.out [.int .i64 y1, .int .i64 y2, .int .i64 y3] rfl rfl rfl (by omega) (by unfold maxLen; omega) (by have := HB1.out.size; have := HN2.out; omega) ?_; intro v2 w2 hown2 hb2; have HO2 := Lib.hid hown2; have HB2 := Lib.hid (HB1.out.trans hb2.toBelow); clear hown2 hb2))
              go_roundw
              case rel => exact ⟨k + 1, m + 1, by omega, by omega, by go_num, Lib.hid (by rw [HF.out]; simp only [if_true]; rw [← List.append_assoc, List.length_append, HL.out]; rfl), Lib.hid (by rw [HF.out]; simp only [if_true]; rw [← List.append_assoc, edC_snoc]; exact HO2.out), HB2⟩
              case measure => simp [intOf]; omega
          · have hL := HL.out
            have hO := HOWN.out
            rw [List.take_of_length_le (by rw [HN.out]; omega)] at hL hO
            rw [← HR.out] at hL hO
            rw [← hL] at hO
            go_wp2
            go_ret
            exact ⟨_, rfl, row_base hO (by rw [← HN2.out]; exact B.out.size), B.out.trans (HB.out.mono (by rw [← HN2.out]; exact B.out.size))⟩
      · have hmid : midE (x1, x2, x3) = [] := if_neg h3
        rw [hmid, List.append_nil] at HR
        clear hmid
        go_upto_region 9 with fail
        clear d0 d1 d2 hk hlt hmk HBW HSZ HZ
        have HO2 := HOWN
        have HB2 := HB
        clear HOWN HB
        obtain ⟨m1, hm1⟩ : ∃ j, m = j := ⟨_, rfl⟩
        have HM1 : Hid (F1.length = m1) := Lib.hid (by rw [HL.out, hm1])
        rw [hm1] at HO2
        have hm2 : m1 ≤ n := by omega
        go_wp2
        go_loopw [5, 7] (fun v i wr => ∃ k m : Nat, k ≤ n ∧ m ≤ m1 + k ∧ i = .int .i64 k ∧ Hid ((F1 ++ (l.take k).filter (fun e : Ed => ltE (x1, x2, x3) e)).length = m) ∧ Hid (wr.ownsRow N 43 3 v m (edC (F1 ++ (l.take k).filter (fun e : Ed => ltE (x1, x2, x3) e)))) ∧ Hid (Below N W wr)) (fun _ i _ => n - (intOf i).toNat)
        case atStart => exact ⟨0, m1, Nat.zero_le _, by omega, rfl, Lib.hid (by simp only [List.take_zero, List.filter_nil, List.append_nil]; exact HM1.out), Lib.hid (by simp only [List.take_zero, List.filter_nil, List.append_nil]; exact HO2.out), HB2⟩
        case round =>
          obtain ⟨k, m, hk, hmk, rfl, HL, HOWN, HB⟩ := hrel
          have HBW : Hid (Below W.heap.size W wr) := Lib.hid (by rw [HN2.out]; exact HB.out)
          have HZ : Hid (N ≤ wr.heap.size) := Lib.hid (by have := HB.out.size; have := HN2.out; omega)
          have d0 := cell_keep D0.out HBW.out; have d1 := cell_keep D1.out HBW.out; have d2 := cell_keep D2.out HBW.out
          by_cases hlt : k < n
          · have hkl : k < l.length := by rw [HN.out]; exact hlt
            obtain ⟨b, off, rfl, -, hc0, hc1, hc2⟩ := (ST.out.below HBW.out).at k hkl
            have htk := ed_take hkl
            obtain ⟨y, hy⟩ : ∃ y, y = l.getD k zE := ⟨_, rfl⟩
            rw [← hy] at hc0 hc1 hc2 htk
            obtain ⟨y1, y2, y3⟩ := y
            simp only at hc0 hc1 hc2
            have hf := filter_snoc (fun e : Ed => ltE (x1, x2, x3) e) (l.take k) (y1, y2, y3)
            rw [← htk] at hf
            have kl := fun w => less_any x1 x2 x3 y1 y2 y3 w
            obtain ⟨o, ho⟩ : ∃ o, ltE (x1, x2, x3) (y1, y2, y3) = o := ⟨_, rfl⟩
            rw [ho] at hf kl
            have HF := Lib.hid hf
            have hkb : (k : Int) < (n : Int) := by omega
            clear hy htk hf ho
            cases o
            · go_upto_region 12 with fail
              go_still_tail 5, (by kernel_rfl)
              go_wp2_with (go_at_call 37; refine (kl _).mono ?_; rintro e w1 ⟨rfl, hb1⟩; have hb2 : Below wr.heap.size wr w1 := below_step (below_q ⟨1, rfl⟩) hb1; replace HOWN := Lib.hid (ownsRow_belowB HOWN.out hb2); have HB1 := Lib.hid (HB.out.trans (hb2.mono HZ.out)); clear hb1 hb2)
              go_roundw
              case rel => exact ⟨k + 1, m, by omega, by omega, by go_num, Lib.hid (by rw [HF.out]; simp only [Bool.false_eq_true, if_false, List.append_nil]; exact HL.out), Lib.hid (by rw [HF.out]; simp only [Bool.false_eq_true, if_false, List.append_nil]; exact HOWN.out), HB1⟩
              case measure => simp [intOf]; omega
            · go_upto_region 12 with fail
              go_still_tail 5, (by kernel_rfl)
              go_wp2_with (first
                | (go_at_call 37; refine (kl _).mono ?_; rintro e w1 ⟨rfl, hb1⟩; have hb2 : Below wr.heap.size wr w1 := below_step (below_q ⟨1, rfl⟩) hb1; replace hc0 := cell_keep hc0 hb2; replace hc1 := cell_keep hc1 hb2; replace hc2 := cell_keep hc2 hb2; replace HOWN := Lib.hid (ownsRow_belowB HOWN.out hb2); have HB1 := Lib.hid (HB.out.trans (hb2.mono HZ.out)); clear hb1 hb2)
                | (at_builtin; refine wpList_append_new rfl _ _ 22 rfl N 43 (.agg #[.int .i64 0, .int .i64 0, .int .i64 0]) 3 24 Try.underlying22 Try.info_edge rfl (by decide) _ m _ rfl HOWN.out [.int .i64 y1, .int .i64 y2, .int .i64 y3] rfl rfl rfl (by omega) (by unfold maxLen; omega) (by have := HB1.out.size; have := HN2.out; omega) ?_; intro v2 w2 hown2 hb2; have HO2 := Lib.hid hown2; have HB2 := Lib.hid (HB1.out.trans hb2.toBelow); clear hown2 hb2))
              go_roundw
              case rel => exact ⟨k + 1, m + 1, by omega, by omega, by go_num, Lib.hid (by rw [HF.out]; simp only [if_true]; rw [← List.append_assoc, List.length_append, HL.out]; rfl), Lib.hid (by rw [HF.out]; simp only [if_true]; rw [← List.append_assoc, edC_snoc]; exact HO2.out), HB2⟩
              case measure => simp [intOf]; omega
          · have hL := HL.out
            have hO := HOWN.out
            rw [List.take_of_length_le (by rw [HN.out]; omega)] at hL hO
            rw [← HR.out] at hL hO
            rw [← hL] at hO
            go_wp2
            go_ret
            exact ⟨_, rfl, row_base hO (by rw [← HN2.out]; exact B.out.size), B.out.trans (HB.out.mono (by rw [← HN2.out]; exact B.out.size))⟩

end Go.Proofs.Ytfkbpkjejnpaiaa
