/- Ends: of the document; the chapter's examples. -/
import Derived.Test.YtpbhngneciiaaaaEdgJ
namespace Go.Proofs.Ytpbhngneciiaaaa
open Go.RowKit
set_option maxRecDepth 100000

theorem addI_has (m : List Int) (x : Int) : addI m x = if hasB m x then m else m ++ [x] := by
  unfold addI hasB; by_cases h : x ∈ m <;> simp [h]

set_option maxHeartbeats 3200000 in
theorem refends_any (V : Value) (l : List Ed) (w : World) (h : Eds w V l) (hl : l.length ≤ 1000000) :
    Calls Try.prog 21 #[V] w fun e w' => e = .returned (.int .i64 (endsE l : Int)) ∧ Below w.heap.size w w' := by
  obtain ⟨a, c, rfl, -⟩ := h.ex
  have hE : endsE l = (metE l).length := rfl
  obtain ⟨R, hR⟩ : ∃ R, endsE l = R := ⟨_, rfl⟩
  rw [hR] at hE ⊢
  obtain ⟨n, hn⟩ : ∃ n, l.length = n := ⟨_, rfl⟩
  rw [hn] at h hl ⊢
  have ST := Lib.hid h; have HN := Lib.hid hn; have HE := Lib.hid hE
  clear h hn hE hR
  go_enter Try.func21, Try.ntmps21
  go_wp2
  go_loopw [3, 4] (fun v i wr => ∃ k m : Nat, k ≤ n ∧ m ≤ 2 * k ∧ i = .int .i64 k ∧ Hid ((metE (l.take k)).length = m) ∧ Hid (wr.ownsRow w.heap.size 3 1 v m (intZ (metE (l.take k)))) ∧ Hid (Below w.heap.size w wr)) (fun _ i _ => n - (intOf i).toNat)
  case atStart => exact ⟨0, 0, Nat.zero_le _, Nat.le_refl _, rfl, Lib.hid rfl, Lib.hid (World.ownsRow_nil _ _ _ _), Lib.hid (Below.refl _ _)⟩
  case round =>
    obtain ⟨k, m, hk, hmk, rfl, HL, HOWN, HB⟩ := hrel
    by_cases hlt : k < n
    · have hkl : k < l.length := by rw [HN.out]; exact hlt
      obtain ⟨b, off, rfl, -, hc0, hc1, hc2⟩ := (ST.out.below HB.out).at k hkl
      have htk := ed_take hkl
      obtain ⟨y, hy⟩ : ∃ y, y = l.getD k zE := ⟨_, rfl⟩
      rw [← hy] at hc0 hc1 hc2 htk
      obtain ⟨y1, y2, y3⟩ := y
      simp only at hc0 hc1 hc2
      have hs : metE (l.take (k + 1)) = addI (if 0 ≤ y1 then addI (metE (l.take k)) y1 else metE (l.take k)) y2 := by rw [htk, metE_snoc]; rfl
      obtain ⟨M0, hM0⟩ : ∃ M, metE (l.take k) = M := ⟨_, rfl⟩
      rw [hM0] at hs HL HOWN
      obtain ⟨aM, cM, rfl, hI⟩ := intsZ (by rw [HL.out]; exact HOWN.out)
      rw [HL.out] at hI HOWN ⊢
      have SI := Lib.hid hI; have HY := Lib.hid hy
      have hkb : (k : Int) < (n : Int) := by omega
      clear hy htk hM0 hI

      by_cases x1 : 0 ≤ y1
      · have d1 : decide (0 ≤ y1) = true := by simp [x1]
        rw [if_pos x1, addI_has M0 y1] at hs
        obtain ⟨o1, ho1⟩ : ∃ o, hasB M0 y1 = o := ⟨_, rfl⟩
        rw [ho1] at hs
        have HO1 := Lib.hid ho1
        clear ho1 x1
        cases o1
        · simp only [Bool.false_eq_true, if_false] at hs
          rw [addI_has] at hs
          go_upto_region 7 with (first
            | (go_at_call 26; refine (refhasz_any _ M0 _ _ SI.out).mono ?_; rintro e w1 ⟨rfl, rfl⟩; rw [HO1.out])
            | (at_builtin; refine wpList_append_new rfl _ _ 27 rfl w.heap.size 3 (.int .i64 0) 1 8 Try.underlying27 Try.info_int rfl (by decide) _ m _ rfl HOWN.out [.int .i64 y1] rfl rfl rfl (by omega) (by unfold maxLen; omega) HB.out.size ?_; intro v3 w3 hown3 hb3; have HO3 := Lib.hid hown3; have HB3 := Lib.hid (HB.out.trans hb3.toBelow); have hcc := fun (q : Addr) (hq : q.block < w.heap.size) => hb3.toBelow.cell (p := q) hq; clear hown3 hb3))
          obtain ⟨M1, hM1⟩ : ∃ M, M0 ++ [y1] = M := ⟨_, rfl⟩
          obtain ⟨m1, hm1⟩ : ∃ j, m + 1 = j := ⟨_, rfl⟩
          have hl1 : M1.length = m1 := by rw [← hM1, List.length_append, HL.out, ← hm1]; rfl
          have hO3 := HO3.out
          rw [← intZ_snoc, hM1, hm1] at hO3
          rw [hM1] at hs
          obtain ⟨aN, cN, rfl, hI⟩ := intsZ (by rw [hl1]; exact hO3)
          rw [hl1] at hI hO3 ⊢
          obtain ⟨b2, off2, hab, hbl, hq0, hq1, hq2⟩ := (ST.out.below HB3.out).at k hkl
          injection hab with hab
          injection hab with e1 e2
          subst e1 e2
          rw [← HY.out] at hq0 hq1 hq2
          simp only at hq0 hq1 hq2
          replace SI := Lib.hid hI; replace HL := Lib.hid hl1; replace HOWN := Lib.hid hO3; replace HB := HB3
          have hm2 : m1 ≤ 2 * k + 1 := by omega
          clear hc0 hc1 hc2 HO3 HB3 hcc hM1 hm1 hl1 hO3 hI hmk
          obtain ⟨o2, ho2⟩ : ∃ o, hasB M1 y2 = o := ⟨_, rfl⟩
          rw [ho2] at hs
          have HS := Lib.hid hs; have HO2 := Lib.hid ho2
          clear ho2 hs
          cases o2
          · go_wp2_with (first
              | (go_at_call 26; refine (refhasz_any _ M1 _ _ SI.out).mono ?_; rintro e w1 ⟨rfl, rfl⟩; (first | rw [HO2.out]))
              | (at_builtin; refine wpList_append_new rfl _ _ 27 rfl w.heap.size 3 (.int .i64 0) 1 8 Try.underlying27 Try.info_int rfl (by decide) _ m1 _ rfl HOWN.out [.int .i64 y2] rfl rfl rfl (by omega) (by unfold maxLen; omega) HB.out.size ?_; intro v3 w3 hown3 hb3; have HO3 := Lib.hid hown3; have HB3 := Lib.hid (HB.out.trans hb3.toBelow); have hcc := fun (q : Addr) (hq : q.block < w.heap.size) => hb3.toBelow.cell (p := q) hq; clear hown3 hb3))
            go_roundw
            case rel => exact ⟨k + 1, m1 + 1, by omega, by omega, by go_num, Lib.hid (by rw [HS.out]; simp only [Bool.false_eq_true, if_false]; rw [List.length_append, HL.out]; rfl), Lib.hid (by rw [HS.out]; simp only [Bool.false_eq_true, if_false]; rw [intZ_snoc]; exact HO3.out), HB3⟩
            case measure => simp [intOf]; omega
          · go_wp2_with (first
              | (go_at_call 26; refine (refhasz_any _ M1 _ _ SI.out).mono ?_; rintro e w1 ⟨rfl, rfl⟩; (first | rw [HO2.out])))
            go_roundw
            case rel => exact ⟨k + 1, m1, by omega, by omega, by go_num, Lib.hid (by rw [HS.out]; simp only [if_true]; exact HL.out), Lib.hid (by rw [HS.out]; simp only [if_true]; exact HOWN.out), HB⟩
            case measure => simp [intOf]; omega
        · simp only [if_true] at hs
          rw [addI_has] at hs
          obtain ⟨o2, ho2⟩ : ∃ o, hasB M0 y2 = o := ⟨_, rfl⟩
          rw [ho2] at hs
          have HS := Lib.hid hs; have HO2 := Lib.hid ho2
          clear ho2 hs
          cases o2
          · go_wp2_with (first
              | (go_at_call 26; refine (refhasz_any _ M0 _ _ SI.out).mono ?_; rintro e w1 ⟨rfl, rfl⟩; (first | rw [HO2.out] | rw [HO1.out]))
              | (at_builtin; refine wpList_append_new rfl _ _ 27 rfl w.heap.size 3 (.int .i64 0) 1 8 Try.underlying27 Try.info_int rfl (by decide) _ m _ rfl HOWN.out [.int .i64 y2] rfl rfl rfl (by omega) (by unfold maxLen; omega) HB.out.size ?_; intro v3 w3 hown3 hb3; have HO3 := Lib.hid hown3; have HB3 := Lib.hid (HB.out.trans hb3.toBelow); have hcc := fun (q : Addr) (hq : q.block < w.heap.size) => hb3.toBelow.cell (p := q) hq; clear hown3 hb3))
            go_roundw
            case rel => exact ⟨k + 1, m + 1, by omega, by omega, by go_num, Lib.hid (by rw [HS.out]; simp only [Bool.false_eq_true, if_false]; rw [List.length_append, HL.out]; rfl), Lib.hid (by rw [HS.out]; simp only [Bool.false_eq_true, if_false]; rw [intZ_snoc]; exact HO3.out), HB3⟩
            case measure => simp [intOf]; omega
          · go_wp2_with (first
              | (go_at_call 26; refine (refhasz_any _ M0 _ _ SI.out).mono ?_; rintro e w1 ⟨rfl, rfl⟩; (first | rw [HO2.out] | rw [HO1.out])))
            go_roundw
            case rel => exact ⟨k + 1, m, by omega, by omega, by go_num, Lib.hid (by rw [HS.out]; simp only [if_true]; exact HL.out), Lib.hid (by rw [HS.out]; simp only [if_true]; exact HOWN.out), HB⟩
            case measure => simp [intOf]; omega
      · have d1 : decide (0 ≤ y1) = false := by simp [x1]
        rw [if_neg x1, addI_has M0 y2] at hs
        clear x1
        obtain ⟨o2, ho2⟩ : ∃ o, hasB M0 y2 = o := ⟨_, rfl⟩
        rw [ho2] at hs
        have HS := Lib.hid hs; have HO2 := Lib.hid ho2
        clear ho2 hs
        cases o2
        · go_wp2_with (first
            | (go_at_call 26; refine (refhasz_any _ M0 _ _ SI.out).mono ?_; rintro e w1 ⟨rfl, rfl⟩; (first | rw [HO2.out]))
            | (at_builtin; refine wpList_append_new rfl _ _ 27 rfl w.heap.size 3 (.int .i64 0) 1 8 Try.underlying27 Try.info_int rfl (by decide) _ m _ rfl HOWN.out [.int .i64 y2] rfl rfl rfl (by omega) (by unfold maxLen; omega) HB.out.size ?_; intro v3 w3 hown3 hb3; have HO3 := Lib.hid hown3; have HB3 := Lib.hid (HB.out.trans hb3.toBelow); have hcc := fun (q : Addr) (hq : q.block < w.heap.size) => hb3.toBelow.cell (p := q) hq; clear hown3 hb3))
          go_roundw
          case rel => exact ⟨k + 1, m + 1, by omega, by omega, by go_num, Lib.hid (by rw [HS.out]; simp only [Bool.false_eq_true, if_false]; rw [List.length_append, HL.out]; rfl), Lib.hid (by rw [HS.out]; simp only [Bool.false_eq_true, if_false]; rw [intZ_snoc]; exact HO3.out), HB3⟩
          case measure => simp [intOf]; omega
        · go_wp2_with (first
            | (go_at_call 26; refine (refhasz_any _ M0 _ _ SI.out).mono ?_; rintro e w1 ⟨rfl, rfl⟩; (first | rw [HO2.out])))
          go_roundw
          case rel => exact ⟨k + 1, m, by omega, by omega, by go_num, Lib.hid (by rw [HS.out]; simp only [if_true]; exact HL.out), Lib.hid (by rw [HS.out]; simp only [if_true]; exact HOWN.out), HB⟩
          case measure => simp [intOf]; omega
    · have h5 := HOWN.out
      have h6 := HL.out
      rw [List.take_of_length_le (by rw [HN.out]; omega)] at h5 h6
      obtain ⟨aM, cM, rfl, -⟩ := intsZ (by rw [h6]; exact h5)
      rw [h6]
      have H6 : Hid (R = m) := Lib.hid (by rw [HE.out, h6])
      clear h5 h6
      go_wp2
      go_ret
      exact ⟨by rw [H6.out]; rfl, HB.out⟩
end Go.Proofs.Ytpbhngneciiaaaa
