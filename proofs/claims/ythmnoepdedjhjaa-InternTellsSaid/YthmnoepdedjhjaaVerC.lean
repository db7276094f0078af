/- The contracts of version's numbers and fit. -/
import Derived.Test.YthmnoepdedjhjaaVerB
namespace Go.Proofs.Ythmnoepdedjhjaa
open Go.RowKit
set_option maxRecDepth 100000

/-- A version's parts, in memory: three texts and a slice. -/
structure VerIn (w : World) (V : Value) (v : Ver) : Prop where
  ex : ∃ a c, V = .agg #[.string (mkB v.1), .string (mkB v.2.1), .string (mkB v.2.2.1), .slice a v.2.2.2.length c] ∧ Strs w (.slice a v.2.2.2.length c) v.2.2.2
/-- No part is longer than any memory. -/
def smallV (n : Nat) (v : Ver) : Prop := v.1.length ≤ n ∧ v.2.1.length ≤ n ∧ v.2.2.1.length ≤ n ∧ v.2.2.2.length ≤ n ∧ ∀ l ∈ v.2.2.2, l.length ≤ n
theorem VerIn.below {w w' : World} {V : Value} {v : Ver} (h : VerIn w V v) (hb : Bel w.heap.size w w') : VerIn w' V v := by
  obtain ⟨a, c, hV, hs⟩ := h.ex
  exact ⟨a, c, hV, hs.below hb⟩
theorem VerIn.drewN {w : World} {V : Value} {v : Ver} (n : Nat) (h : VerIn w V v) : VerIn (w.drewN n) V v := by
  obtain ⟨a, c, hV, hs⟩ := h.ex
  exact ⟨a, c, hV, hs.drewN n⟩

set_option maxHeartbeats 400000 in
theorem numbers_ex (x y z : ByteArray) (a : Option Addr) (n c : Nat) (w : World) :
    Calls Try.prog 57 #[.agg #[.string x, .string y, .string z, .slice a n c]] w fun e w' => e = .returned (.agg #[.string x, .string y, .string z]) ∧ (w.alloc (.cells #[.string x, .string y, .string z, .slice a n c] 64)).alloc (.cells #[.string x, .string y, .string z] 81) = w' := by
  go_enter Try.func57, Try.ntmps57
  go_wp2
  exact bodyPost_ret (v := .agg #[.string x, .string y, .string z]) (by simp [results, Try.results57, go_sem]) rfl ⟨rfl, rfl⟩
theorem numbers_any (x y z : ByteArray) (a : Option Addr) (n c : Nat) (w : World) :
    Calls Try.prog 57 #[.agg #[.string x, .string y, .string z, .slice a n c]] w fun e w' => e = .returned (.agg #[.string x, .string y, .string z]) ∧ Bel w.heap.size w w' := by
  refine (numbers_ex x y z a n c w).mono ?_
  rintro e w' ⟨rfl, rfl⟩
  exact ⟨rfl, ((Bel.refl _ _).alloc (Nat.le_refl _) _).alloc (by simp) _⟩

theorem bel_keep {w w' : World} {p : Addr} {v : Value} (h : w.cell? p = some v) (hb : Bel w.heap.size w w') : w'.cell? p = some v :=
  (hb.cell (World.block_lt_of_cell? w _ h)).trans h

theorem arr_index (x y z : Value) (w : World) :
    Sem.run Try.prog (Instr.index 81 (.agg #[x, y, z]) (.int .i64 0)) w = .ok x w ∧ Sem.run Try.prog (Instr.index 81 (.agg #[x, y, z]) (.int .i64 1)) w = .ok y w ∧ Sem.run Try.prog (Instr.index 81 (.agg #[x, y, z]) (.int .i64 2)) w = .ok z w := by
  have hi : (Try.prog.info? 9).map (·.size) = some 1 := by kernel_rfl
  have ha : ∀ w, Sem.run Try.prog (isAgg 9) w = .ok false w := by intro w; kernel_rfl
  refine ⟨?_, ?_, ?_⟩ <;> simp [Instr.index, run_underlying Try.underlying81, asIntOf, part, ha]

set_option maxHeartbeats 1600000 in
set_option maxRecDepth 100000 in
theorem fit_any (V : Value) (v : Ver) (w : World) (hV : VerIn w V v) (hs : smallV 1000000000 v) :
    Calls Try.prog 52 #[V] w fun e w' => e = .returned (.bool (fitL v)) ∧ Bel w.heap.size w w' := by
  obtain ⟨a, c, rfl, hst⟩ := hV.ex
  obtain ⟨ma, mi, pa, pre⟩ := v
  obtain ⟨s1, s2, s3, s4, s5⟩ := hs
  simp only at s1 s2 s3 s4 s5 hst ⊢
  clear hV
  have M1 : Hid ((mkB ma).size ≤ maxLen) := Lib.hid (by rw [mkB_size]; unfold maxLen; omega)
  have M2 : Hid ((mkB mi).size ≤ maxLen) := Lib.hid (by rw [mkB_size]; unfold maxLen; omega)
  have M3 : Hid ((mkB pa).size ≤ maxLen) := Lib.hid (by rw [mkB_size]; unfold maxLen; omega)
  have HST := Lib.hid hst; have S5 := Lib.hid s5; clear hst s5 s1 s2 s3
  obtain ⟨n, hn⟩ : ∃ n, pre.length = n := ⟨_, rfl⟩
  rw [hn] at s4 ⊢
  have HN := Lib.hid hn; clear hn
  have hx0 : ∀ w, Sem.run Try.prog (Instr.index 81 (.agg #[.string (mkB ma), .string (mkB mi), .string (mkB pa)]) (.int .i64 0)) w = .ok (.string (mkB ma)) w := fun w => (arr_index _ _ _ w).1
  have hx1 : ∀ w, Sem.run Try.prog (Instr.index 81 (.agg #[.string (mkB ma), .string (mkB mi), .string (mkB pa)]) (.int .i64 1)) w = .ok (.string (mkB mi)) w := fun w => (arr_index _ _ _ w).2.1
  have hx2 : ∀ w, Sem.run Try.prog (Instr.index 81 (.agg #[.string (mkB ma), .string (mkB mi), .string (mkB pa)]) (.int .i64 2)) w = .ok (.string (mkB pa)) w := fun w => (arr_index _ _ _ w).2.2
  go_enter Try.func52, Try.ntmps52
  go_wp2_with (go_at_call 57; refine (numbers_any _ _ _ _ _ _ _).mono ?_; rintro e w1 ⟨rfl, hb1⟩)
  have hbox : w1.cell? ⟨w.heap.size, 3, none⟩ = some (.slice a n c) := bel_keep (w := w.alloc _) (by rw [World.cell?_alloc_new]; rfl) hb1
  have HBOX := Lib.hid hbox
  have HB1 := Lib.hid (bel_step ((Bel.refl w.heap.size w).alloc (Nat.le_refl _) _) hb1)
  clear hbox hb1
  go_loopw [9] (fun i wr => ∃ k : Int, (k = 0 ∨ k = 1 ∨ k = 2 ∨ k = 3) ∧ i = .int .i64 k ∧ Hid ((0 < k → mayL ma = true) ∧ (1 < k → mayL mi = true) ∧ (2 < k → mayL pa = true)) ∧ Hid (wr.cell? ⟨w.heap.size, 3, none⟩ = some (.slice a n c)) ∧ Hid (Bel w.heap.size w wr)) (fun i _ => 3 - (intOf i).toNat)
  case atStart => exact ⟨0, by omega, rfl, Lib.hid ⟨fun h => by omega, fun h => by omega, fun h => by omega⟩, HBOX, HB1⟩
  case round =>
    obtain ⟨k, hk, rfl, H, HB, HL⟩ := hrel
    rcases hk with rfl | rfl | rfl | rfl
    · obtain ⟨m, hm⟩ : ∃ m, mayL ma = m := ⟨_, rfl⟩
      have HM := Lib.hid hm; clear hm
      cases m
      all_goals
        go_wp2_with (go_at_call 58; refine (may_any _ _ M1.out).mono ?_; rintro e w2 ⟨rfl, hb2⟩; have HB' := Lib.hid (bel_keep HB.out hb2); have HL' := Lib.hid (bel_step HL.out hb2); clear hb2; rw [mkB_list, HM.out])
      · go_ret
        exact ⟨ret_bool (by unfold fitL; simp [HM.out]), HL'.out⟩
      · go_roundw
        case rel => exact ⟨1, by omega, rfl, Lib.hid ⟨fun _ => HM.out, fun h => by omega, fun h => by omega⟩, HB', HL'⟩
        case measure => simp [intOf]
    · obtain ⟨m, hm⟩ : ∃ m, mayL mi = m := ⟨_, rfl⟩
      have HM := Lib.hid hm; clear hm
      cases m
      all_goals
        go_wp2_with (go_at_call 58; refine (may_any _ _ M2.out).mono ?_; rintro e w2 ⟨rfl, hb2⟩; have HB' := Lib.hid (bel_keep HB.out hb2); have HL' := Lib.hid (bel_step HL.out hb2); clear hb2; rw [mkB_list, HM.out])
      · go_ret
        exact ⟨ret_bool (by unfold fitL; simp [HM.out]), HL'.out⟩
      · go_roundw
        case rel => exact ⟨2, by omega, rfl, Lib.hid ⟨fun _ => H.out.1 (by omega), fun _ => HM.out, fun h => by omega⟩, HB', HL'⟩
        case measure => simp [intOf]
    · obtain ⟨m, hm⟩ : ∃ m, mayL pa = m := ⟨_, rfl⟩
      have HM := Lib.hid hm; clear hm
      cases m
      all_goals
        go_wp2_with (go_at_call 58; refine (may_any _ _ M3.out).mono ?_; rintro e w2 ⟨rfl, hb2⟩; have HB' := Lib.hid (bel_keep HB.out hb2); have HL' := Lib.hid (bel_step HL.out hb2); clear hb2; rw [mkB_list, HM.out])
      · go_ret
        exact ⟨ret_bool (by unfold fitL; simp [HM.out]), HL'.out⟩
      · go_roundw
        case rel => exact ⟨3, by omega, rfl, Lib.hid ⟨fun _ => H.out.1 (by omega), fun _ => H.out.2.1 (by omega), fun _ => HM.out⟩, HB', HL'⟩
        case measure => simp [intOf]
    · have hcell := HB.out
      go_wp2
      clear hcell hx0 hx1 hx2
      go_loopw [19] (fun i w5 => ∃ k : Nat, k ≤ n ∧ i = .int .i64 k ∧ Hid ((pre.take k).all wordL = true) ∧ Hid (Bel w.heap.size w w5)) (fun i _ => n - (intOf i).toNat)
      case atStart => exact ⟨0, by omega, rfl, Lib.hid (by simp), HL⟩
      case round =>
        obtain ⟨k, hk, rfl, HT, HL5⟩ := hrel
        by_cases hlt : k < n
        · have hlt' : k < pre.length := by rw [HN.out]; exact hlt
          obtain ⟨b, off, ha, hbl, hc⟩ := strs_at HST.out k hlt'
          subst ha
          have hcell := (HL5.out.cell hbl).trans hc
          have HSZ : Hid ((mkB (pre.getD k [])).size ≤ 1000000000) := Lib.hid (by rw [mkB_size]; exact S5.out _ (mem_getD hlt'))
          have HLT := Lib.hid hlt'
          clear hc hlt'
          obtain ⟨q, hq⟩ : ∃ q, q = pre.getD k [] := ⟨_, rfl⟩
          rw [← hq] at hcell HSZ
          obtain ⟨m, hm⟩ : ∃ m, wordL q = m := ⟨_, rfl⟩
          have HM := Lib.hid hm; have HQ := Lib.hid hq; clear hm hq
          cases m
          all_goals
            go_wp2_with (go_at_call 59; refine (isword_any _ _ HSZ.out).mono ?_; rintro e w2 ⟨rfl, hb2⟩; have HL' := Lib.hid (bel_step HL5.out hb2); clear hb2; rw [mkB_list, HM.out])
          · go_ret
            refine ⟨ret_bool ?_, HL'.out⟩
            have hno : pre.all wordL = false := by
              rw [List.all_eq_false]
              exact ⟨q, by rw [HQ.out]; exact mem_getD HLT.out, by rw [HM.out]; simp⟩
            unfold fitL; simp [hno]
          · go_roundw
            case rel => exact ⟨k + 1, by omega, by go_num, Lib.hid (all_take_succ HLT.out HT.out (by rw [← HQ.out]; exact HM.out)), HL'⟩
            case measure => simp [intOf]; omega
        · go_wp2
          go_ret
          refine ⟨ret_bool ?_, HL5.out⟩
          have hall : pre.all wordL = true := by have h5 := HT.out; rw [List.take_of_length_le (by rw [HN.out]; omega)] at h5; exact h5
          obtain ⟨h1, h2, h3⟩ := H.out
          unfold fitL; simp [hall, h1, h2, h3]
end Go.Proofs.Ythmnoepdedjhjaa
