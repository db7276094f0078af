/- Version's order of two versions. -/
import Derived.Test.YtglhjdbnpdoinaaGreatRolL
import Derived.Test.YtglhjdbnpdoinaaGreatVerG
import Derived.Deep.DrawnRows
import Derived.Deep.RegionHeld3
import Derived.Deep.CutRange
import Derived.Deep.DeepCutAuto
namespace Go.Proofs.YtglhjdbnpdoinaaGreat
open Go.RowKit
set_option maxRecDepth 100000
attribute [local go_sem ↓] Go.wp_at_zero Go.wp_at_succ

theorem str_eq (d : Nat) (a b : ByteArray) (w : World) : Sem.run Tryz.prog (Op.equalIn (d + 1) 9 (.string a) (.string b)) w = .ok (a == b) w := by
  simp [Op.equalIn, run_underlying Tryz.underlying9]
theorem arr_eq_d (d : Nat) (h9 : ∀ a b w, Sem.run Tryz.prog (Op.equalIn d 9 (.string a) (.string b)) w = .ok (a == b) w) (x0 x1 x2 y0 y1 y2 : ByteArray) (w : World) :
    Sem.run Tryz.prog (Op.equalIn (d + 1) 119 (.agg #[.string x0, .string x1, .string x2]) (.agg #[.string y0, .string y1, .string y2])) w = .ok (x0 == y0 && (x1 == y1 && x2 == y2)) w := by
  have hi : ∀ w, Sem.run Tryz.prog (sizeOf 9) w = .ok 1 w := by intro w; kernel_rfl
  have ha : ∀ w, Sem.run Tryz.prog (isAgg 9) w = .ok false w := by intro w; kernel_rfl
  simp only [Op.equalIn, Sem.run_bind, run_underlying Tryz.underlying119, Result.andThen_ok, hi]
  rw [Std.Legacy.Range.forIn_eq_forIn_range']
  simp [Std.Legacy.Range.size, List.range'_succ, part, ha, h9]
  cases (x0 == y0) <;> cases (x1 == y1) <;> cases (x2 == y2) <;> simp
theorem strs3 {w : World} {g : Nat} {x y z : List UInt8} (h0 : w.cell? ⟨g, 0, none⟩ = some (.string (mkB x))) (h1 : w.cell? ⟨g, 1, none⟩ = some (.string (mkB y))) (h2 : w.cell? ⟨g, 2, none⟩ = some (.string (mkB z))) :
    Strs w (.slice (some ⟨g, 0, none⟩) 3 3) [x, y, z] := by
  refine ⟨some ⟨g, 0, none⟩, 3, rfl, Nat.le_refl _, by unfold maxLen; omega, (fun h => by cases h), fun _ => ⟨g, 0, rfl, World.block_lt_of_cell? w _ h0, fun j hj => ?_⟩⟩
  have : j = 0 ∨ j = 1 ∨ j = 2 := by simp only [List.length_cons, List.length_nil] at hj; omega
  rcases this with rfl | rfl | rfl
  · exact h0
  · exact h1
  · exact h2
theorem lex_may {a b : List (List UInt8)} (ha : ∀ l ∈ a, mayL l = true) (hb : ∀ l ∈ b, mayL l = true) : lexI numC a b = lexI cmpN a b := by
  induction a generalizing b with
  | nil => cases b <;> rfl
  | cons x a ih =>
    cases b with
    | nil => rfl
    | cons y b =>
      rw [lexI, lexI, numC_may (ha x List.mem_cons_self) (hb y List.mem_cons_self), ih (fun l h => ha l (List.mem_cons_of_mem _ h)) (fun l h => hb l (List.mem_cons_of_mem _ h))]
theorem nums_may {v : Ver} (h : fitL v = true) : ∀ l ∈ numsL v, mayL l = true := by
  obtain ⟨h1, h2, h3, _⟩ := fit_parts h
  intro l hl
  simp only [numsL, List.mem_cons, List.not_mem_nil, or_false] at hl
  rcases hl with rfl | rfl | rfl
  · exact h1
  · exact h2
  · exact h3
theorem cmpV_ne {v u : Ver} (fv : fitL v = true) (fu : fitL u = true) (h : ¬ numsL v = numsL u) : cmpV v u = lexI numC (numsL v) (numsL u) := by
  rw [lex_may (nums_may fv) (nums_may fu)]
  unfold cmpV
  rw [if_pos (fun e => h (((ord_lex ord_N).zero _ _).1 e))]
theorem cmpV_eq {v u : Ver} (h : numsL v = numsL u) : cmpV v u = preC v.2.2.2 u.2.2.2 := by
  unfold cmpV
  rw [if_neg (by rw [((ord_lex ord_N).zero _ _).2 h]; simp)]

set_option maxHeartbeats 3200000 in
set_option maxRecDepth 100000 in
theorem order_any (V U : Value) (v u : Ver) (w : World) (hV : VerIn w V v) (hU : VerIn w U u) (fv : fitL v = true) (fu : fitL u = true) (sv : smallV 1000000000 v) (su : smallV 1000000000 u) :
    Calls Tryz.prog 89 #[V, U] w fun e w' => e = .returned (.int .i64 (cmpV v u)) ∧ Bel w.heap.size w w' := by
  obtain ⟨a, c, rfl, hst⟩ := hV.ex
  obtain ⟨a', c', rfl, hst'⟩ := hU.ex
  obtain ⟨ma, mi, pa, pre⟩ := v
  obtain ⟨ma', mi', pa', pre'⟩ := u
  simp only at hst hst' ⊢
  clear hV hU
  have HST := Lib.hid hst; have HST' := Lib.hid hst'; have FV := Lib.hid fv; have FU := Lib.hid fu; have SV := Lib.hid sv; have SU := Lib.hid su
  clear hst hst' fv fu sv su
  obtain ⟨T, hT⟩ : ∃ T, cmpV (ma, mi, pa, pre) (ma', mi', pa', pre') = T := ⟨_, rfl⟩
  rw [hT]
  have HT := Lib.hid hT; clear hT
  obtain ⟨n, hn⟩ : ∃ n, pre.length = n := ⟨_, rfl⟩
  obtain ⟨n', hn'⟩ : ∃ n, pre'.length = n := ⟨_, rfl⟩
  rw [hn, hn'] 
  have HN := Lib.hid hn; have HN' := Lib.hid hn'; clear hn hn'
  go_enter Tryz.func89, Tryz.ntmps89
  go_upto_region 1 with fail
  obtain ⟨wA, hwA⟩ : ∃ wA, wA = (w.alloc (.cells #[.string (mkB ma), .string (mkB mi), .string (mkB pa), .slice a n c] 81)).alloc (.cells #[.string (mkB ma'), .string (mkB mi'), .string (mkB pa'), .slice a' n' c'] 81) := ⟨_, rfl⟩
  have bA : Bel w.heap.size w wA := by rw [hwA]; exact ((Bel.refl _ _).alloc (Nat.le_refl _) _).alloc (by simp) _
  have r1 : wA.heap[w.heap.size]? = some (.cells #[.string (mkB ma), .string (mkB mi), .string (mkB pa), .slice a n c] 81) := by rw [hwA, Below.heap_alloc _ _ _ (by simp)]; exact heap_alloc_new _ _
  have r2 : wA.heap[w.heap.size + 1]? = some (.cells #[.string (mkB ma'), .string (mkB mi'), .string (mkB pa'), .slice a' n' c'] 81) := by
    rw [hwA]; have := heap_alloc_new (w.alloc (.cells #[.string (mkB ma), .string (mkB mi), .string (mkB pa), .slice a n c] 81)) (.cells #[.string (mkB ma'), .string (mkB mi'), .string (mkB pa'), .slice a' n' c'] 81)
    simpa using this
  rw [← hwA]
  obtain ⟨p, hp⟩ : ∃ p, w.heap.size = p := ⟨_, rfl⟩
  obtain ⟨q, hq⟩ : ∃ q, w.heap.size + 1 = q := ⟨_, rfl⟩
  rw [hq] at r2 ⊢
  rw [hp] at r1 ⊢
  have BA := Lib.hid bA; have HP := Lib.hid hp; have HQ := Lib.hid hq
  clear bA hp hq hwA
  obtain ⟨c0, c1, c2, c3, _, _, _, _⟩ := row4 r1
  obtain ⟨d0, d1, d2, d3, _, _, _, _⟩ := row4 r2
  clear r1 r2
  go_cut [5, 6] (fun s5 s6 wx => ∃ g5 g6 : Nat, s5 = .pointer (some ⟨g5, 0, none⟩) ∧ s6 = .pointer (some ⟨g6, 0, none⟩) ∧ wx.cell? ⟨g5, 0, none⟩ = some (.string (mkB ma)) ∧ wx.cell? ⟨g5, 1, none⟩ = some (.string (mkB mi)) ∧ wx.cell? ⟨g5, 2, none⟩ = some (.string (mkB pa)) ∧ wx.cell? ⟨g6, 0, none⟩ = some (.string (mkB ma')) ∧ wx.cell? ⟨g6, 1, none⟩ = some (.string (mkB mi')) ∧ wx.cell? ⟨g6, 2, none⟩ = some (.string (mkB pa')) ∧ Bel wA.heap.size wA wx)
  case first =>
    go_region_held3 (fun w' => w'.cell? ⟨p, 0, none⟩ = some (.string (mkB ma)) ∧ w'.cell? ⟨p, 1, none⟩ = some (.string (mkB mi)) ∧ w'.cell? ⟨p, 2, none⟩ = some (.string (mkB pa)) ∧ w'.cell? ⟨p, 3, none⟩ = some (.slice a n c) ∧ w'.cell? ⟨q, 0, none⟩ = some (.string (mkB ma')) ∧ w'.cell? ⟨q, 1, none⟩ = some (.string (mkB mi')) ∧ w'.cell? ⟨q, 2, none⟩ = some (.string (mkB pa')) ∧ w'.cell? ⟨q, 3, none⟩ = some (.slice a' n' c')) ((repeat' apply And.intro) <;> (with_reducible (repeat (first | assumption | apply cell_alloc | apply cell_drew))))
      (first | (go_at_call 100; refine (numbers_ex _ _ _ _ _ _ _).mono ?_; rintro e w1 ⟨rfl, rfl⟩))
    all_goals (go_wp2_with fail; go_meet)
    all_goals
      refine ⟨_, _, rfl, rfl, ?_, ?_, ?_, ?_, ?_, ?_, ?_⟩
      all_goals first
        | (with_reducible (repeat (first | (refine cell_new ?_ rfl; (simp; done)) | apply cell_alloc | apply cell_drew)); done)
        | (refine bel_step ?_ (bel_q ⟨1, rfl⟩); repeat (first | exact Bel.refl _ _ | refine Bel.alloc ?_ (by simp; try omega) _))
  case rest =>
    obtain ⟨g5, g6, rfl, rfl, x0, x1, x2, y0, y1, y2, hbc⟩ := hcut
    have k3 := bel_keep c3 hbc
    have l3 := bel_keep d3 hbc
    have BC := Lib.hid (bel_step BA.out hbc)
    clear c0 c1 c2 c3 d0 d1 d2 d3 hbc
    obtain ⟨bb, hbb⟩ : ∃ bb, (mkB ma == mkB ma' && (mkB mi == mkB mi' && mkB pa == mkB pa')) = bb := ⟨_, rfl⟩
    have heq : ∀ w, Sem.run Tryz.prog (Op.equalIn 10000 119 (.agg #[.string (mkB ma), .string (mkB mi), .string (mkB pa)]) (.agg #[.string (mkB ma'), .string (mkB mi'), .string (mkB pa')])) w = .ok bb w := fun w => by
      rw [← hbb]; exact arr_eq_d 9999 (str_eq 9998) _ _ _ _ _ _ w
    rw [mkB_beq, mkB_beq, mkB_beq] at hbb
    have HBB := Lib.hid hbb; clear hbb
    have HS5 := Lib.hid (strs3 x0 x1 x2); have HS6 := Lib.hid (strs3 y0 y1 y2)
    cases bb
    · have hc : T = lexI numC [ma, mi, pa] [ma', mi', pa'] := by
        rw [← HT.out]
        refine cmpV_ne FV.out FU.out fun e => ?_
        simp only [numsL, List.cons.injEq] at e
        obtain ⟨rfl, rfl, rfl, _⟩ := e
        have := HBB.out
        simp at this
      have HC := Lib.hid hc; clear hc
      have HSA : Hid (∀ l ∈ [ma, mi, pa], l.length ≤ 1000000000) := Lib.hid (by
        obtain ⟨h1, h2, h3, _, _⟩ := SV.out
        intro l hl; simp only [List.mem_cons, List.not_mem_nil, or_false] at hl; rcases hl with rfl | rfl | rfl <;> assumption)
      have HSB : Hid (∀ l ∈ [ma', mi', pa'], l.length ≤ 1000000000) := Lib.hid (by
        obtain ⟨h1, h2, h3, _, _⟩ := SU.out
        intro l hl; simp only [List.mem_cons, List.not_mem_nil, or_false] at hl; rcases hl with rfl | rfl | rfl <;> assumption)
      go_wp2
      go_region_with (go_at_call 101; refine (cmpfnum_any _ _ [ma, mi, pa] [ma', mi', pa'] _ (strs_drew HS5.out) (strs_drew HS6.out) HSA.out HSB.out).mono ?_; rintro e w2 ⟨rfl, hb2⟩; have HB2 := Lib.hid hb2; clear hb2; rw [← HC.out])
      all_goals
        go_wp2
        go_ret
        exact ⟨rfl, bel_step (bel_step BC.out (bel_q ⟨1, rfl⟩)) HB2.out⟩
    · have hc : T = preC pre pre' := by
        rw [← HT.out]
        refine cmpV_eq ?_
        have := HBB.out
        simp only [Bool.and_eq_true, decide_eq_true_eq] at this
        obtain ⟨rfl, rfl, rfl⟩ := this
        rfl
      have HC := Lib.hid hc; clear hc
      have hn0 : pre = [] ↔ n = 0 := by rw [← HN.out]; exact List.length_eq_zero_iff.symm
      have hn0' : pre' = [] ↔ n' = 0 := by rw [← HN'.out]; exact List.length_eq_zero_iff.symm
      by_cases h0 : n = 0 ∨ n' = 0
      · have hv : T = if (n' : Int) < n then -1 else if (n : Int) < n' then 1 else 0 := by
          rw [HC.out]; unfold preC
          by_cases e1 : n = 0
          · rw [if_pos (hn0.2 e1)]
            by_cases e2 : n' = 0
            · rw [if_pos (hn0'.2 e2), if_neg (by omega), if_neg (by omega)]
            · rw [if_neg (fun h => e2 (hn0'.1 h)), if_neg (by omega), if_pos (by omega)]
          · have e2 : n' = 0 := by omega
            rw [if_neg (fun h => e1 (hn0.1 h)), if_pos (hn0'.2 e2), if_pos (by omega)]
        have HV := Lib.hid hv
        clear hv hn0 hn0'
        by_cases e1 : n = 0
        · have hb1 : ((n : Int) == 0) = true := by rw [e1]; rfl
          have E1 := Lib.hid e1; clear e1 h0
          go_wp2_with (go_at_call 103; refine (compare_any _ _ _).mono ?_; rintro e w3 ⟨rfl, rfl⟩; rw [← HV.out])
          go_ret
          exact ⟨rfl, BC.out⟩
        · have hb1 : ((n : Int) == 0) = false := by rw [beq_eq_false_iff_ne]; omega
          have hb2 : ((n' : Int) == 0) = true := by have : n' = 0 := by omega
                                                    rw [this]; rfl
          clear e1 h0
          go_wp2_with (go_at_call 103; refine (compare_any _ _ _).mono ?_; rintro e w3 ⟨rfl, rfl⟩; rw [← HV.out])
          go_ret
          exact ⟨rfl, BC.out⟩
      · have hb1 : ((n : Int) == 0) = false := by rw [beq_eq_false_iff_ne]; omega
        have hb2 : ((n' : Int) == 0) = false := by rw [beq_eq_false_iff_ne]; omega
        have hv : T = lexI wordC pre pre' := by
          rw [HC.out]; unfold preC
          rw [if_neg (fun h => h0 (.inl (hn0.1 h))), if_neg (fun h => h0 (.inr (hn0'.1 h)))]
        have HV := Lib.hid hv
        have SP := Lib.hid SV.out.2.2.2.2; have SP' := Lib.hid SU.out.2.2.2.2
        have hs1 := HST.out.below BC.out; have hs2 := HST'.out.below BC.out
        rw [HN.out] at hs1; rw [HN'.out] at hs2
        have HS1 := Lib.hid hs1; have HS2 := Lib.hid hs2
        clear hv hn0 hn0' h0 hs1 hs2
        go_wp2_with (go_at_call 101; refine (cmpfword_any _ _ pre pre' _ HS1.out HS2.out SP.out SP'.out).mono ?_; rintro e w2 ⟨rfl, hb3⟩; have HB2 := Lib.hid hb3; clear hb3; rw [← HV.out])
        go_ret
        exact ⟨rfl, bel_step BC.out HB2.out⟩
end Go.Proofs.YtglhjdbnpdoinaaGreat
