/- The document's own: may names be. -/
import Derived.Test.YthmnoepdedjhjaaItnF
namespace Go.Proofs.Ythmnoepdedjhjaa
open Go.RowKit Go.Maps
set_option maxRecDepth 100000

theorem idx_nd {w : World} {b off n c k : Nat} (h : k < n) : (Instr.indexAt 22 (.slice (some ⟨b, off, none⟩) n c) (.int .i64 (k : Int))).run Try.prog w = .ok (.pointer (some ⟨b, off + k * 2, none⟩)) w := by
  have h1 : (0 : Int) ≤ (k : Int) := by omega
  have h3 : (k : Int) < (n : Int) := by omega
  go_simp
theorem cut_nd {w : World} {b off n c k : Nat} (h : k ≤ c) : (Instr.sliceAt 22 (.slice (some ⟨b, off, none⟩) n c) none (some (.int .i64 (k : Int))) none).run Try.prog w = .ok (.slice (some ⟨b, off, none⟩) k c) w := by
  have h1 : (0 : Int) ≤ (k : Int) := by omega
  have h2 : (k : Int) ≤ (c : Int) := by omega
  go_simp
theorem ldn_at {w : World} {g i : Nat} {p v : List UInt8} (h : w.cell? ⟨g, i, none⟩ = some (.string (mkB p))) (h' : w.cell? ⟨g, i + 1, none⟩ = some (.string (mkB v))) : Sem.run Try.prog (Instr.loadAt 26 (.pointer (some ⟨g, i, none⟩))) w = .ok (.agg #[.string (mkB p), .string (mkB v)]) w := by
  go_simp
theorem Nds.upto {w : World} {a : Option Addr} {n c : Nat} {l : List Nd} (h : Nds w (.slice a n c) l) {k : Nat} (hk : k ≤ n) : Nds w (.slice a k c) (l.take k) := by
  obtain ⟨a', c', hv, h1, h2, hn, h3⟩ := h.ex
  injection hv with e1 e2 e3
  subst e1 e2 e3
  have e : (l.take k).length = k := by rw [List.length_take]; omega
  refine ⟨a, c, by rw [e], by omega, h2, hn, fun hp => ?_⟩
  rw [e] at hp ⊢
  obtain ⟨b, off, ha, hlt, hc⟩ := h3 (by omega)
  refine ⟨b, off, ha, hlt, fun j hj => ?_⟩
  have hg : (l.take k).getD j ([], []) = l.getD j ([], []) := by simp [List.getD_eq_getElem?_getD, hj]
  rw [hg]
  exact hc j (by omega)
theorem okM_snoc (l : List Nd) (n : Nd) : okM (l ++ [n]) = (okM l && (okN n && !hasN l n)) := by
  rw [Bool.eq_iff_iff, Bool.and_eq_true, Bool.and_eq_true, Bool.not_eq_true', okM_iff, okM_iff, hasN_not]
  constructor
  · rintro ⟨h1, h2⟩
    have h3 := List.nodup_append.1 h2
    exact ⟨⟨fun x hx => h1 x (List.mem_append_left _ hx), h3.1⟩, h1 n (by simp), fun hn => h3.2.2 n hn n (by simp) rfl⟩
  · rintro ⟨⟨h1, h2⟩, h3, h4⟩
    refine ⟨fun x hx => ?_, List.nodup_append.2 ⟨h2, by simp, fun a ha b hb => ?_⟩⟩
    · rcases List.mem_append.1 hx with hx | hx
      · exact h1 x hx
      · have : x = n := by simpa using hx
        rw [this]; exact h3
    · have : b = n := by simpa using hb
      intro e
      exact h4 (this ▸ e ▸ ha)
theorem okM_take {l : List Nd} (h : okM l = true) (k : Nat) : okM (l.take k) = true := by
  obtain ⟨h1, h2⟩ := okM_iff.1 h
  exact okM_iff.2 ⟨fun x hx => h1 x (List.mem_of_mem_take hx), h2.sublist (List.take_sublist k l)⟩
theorem okM_part {l : List Nd} {k : Nat} (h : okM (l.take k) = false) : okM l = false := by
  cases e : okM l
  · rfl
  · rw [okM_take e k] at h; cases h
theorem nd_take {l : List Nd} {k : Nat} (h : k < l.length) : l.take (k + 1) = l.take k ++ [l.getD k ([], [])] := by rw [List.take_succ_eq_append_getElem h, nd_getD h]

set_option maxHeartbeats 3200000 in
theorem refimay_any (V : Value) (L : List Nd) (w : World) (h : Nds w V L) (hs : ∀ n ∈ L, smallN n) :
    Calls Try.prog 14 #[.agg #[V]] w fun e w' => e = .returned (.bool (okM L)) ∧ Below w.heap.size w w' := by
  obtain ⟨a, c, rfl, h1, h2, -, -⟩ := h.ex
  unfold maxLen at h2
  obtain ⟨n, hn⟩ : ∃ n, L.length = n := ⟨_, rfl⟩
  rw [hn] at h1 h ⊢
  obtain ⟨W, g, hW, hg, d0, hb⟩ := boxM w (.slice a n c) 24
  have SL := Lib.hid (h.below hb); have SM := Lib.hid hs; have HN := Lib.hid hn; have HW := Lib.hid hW; have HG := Lib.hid hg; have B := Lib.hid hb; have HNC := Lib.hid h1
  clear h hs hn hW hg hb
  have e1 : ∀ args w, (callFunc 18 args).run Try.prog w = .ok (.enter 18 args) w := enters_of Try.func18 (by kernel_rfl) rfl
  have e2 : ∀ args w, (callFunc 27 args).run Try.prog w = .ok (.enter 27 args) w := enters_of Try.func27 (by kernel_rfl) rfl
  obtain ⟨R, hR⟩ : ∃ R, okM L = R := ⟨_, rfl⟩
  rw [hR]
  have HR := Lib.hid hR; clear hR
  go_enter Try.func14, Try.ntmps14
  go_upto_region 1 with fail
  rw [HW.out, HG.out]
  go_wp2
  go_loopw [3] (fun i wr => ∃ k : Nat, k ≤ n ∧ i = .int .i64 k ∧ Hid (okM (L.take k) = true) ∧ Hid (Below W.heap.size W wr)) (fun i _ => n - (intOf i).toNat)
  case atStart => exact ⟨0, Nat.zero_le _, rfl, Lib.hid rfl, Lib.hid (Below.refl _ _)⟩
  case round =>
    obtain ⟨k, hk, rfl, HK, HB⟩ := hrel
    have d1 := cell_keep d0 HB.out
    by_cases hlt : k < n
    · have hkl : k < L.length := by rw [HN.out]; exact hlt
      have SK := Lib.hid ((SL.out.below HB.out).upto (k := k) (by omega))
      obtain ⟨bl, ol, rfl, -, hc0, hc1⟩ := (SL.out.below HB.out).at k hkl
      have hsm := SM.out _ (nd_mem hkl)
      have htk := nd_take hkl
      obtain ⟨y, hy⟩ : ∃ y, y = L.getD k ([], []) := ⟨_, rfl⟩
      rw [← hy] at hc0 hc1 hsm htk
      obtain ⟨y1, y2⟩ := y
      simp only at hc0 hc1
      have hst := okM_snoc (L.take k) (y1, y2)
      rw [← htk, HK.out, Bool.true_and] at hst
      obtain ⟨o1, ho1⟩ : ∃ o, okN (y1, y2) = o := ⟨_, rfl⟩
      obtain ⟨o2, ho2⟩ : ∃ o, hasN (L.take k) (y1, y2) = o := ⟨_, rfl⟩
      rw [ho1, ho2] at hst
      have HSM := Lib.hid hsm; have HO1 := Lib.hid ho1; have HO2 := Lib.hid ho2; have HST := Lib.hid hst; have HLT := Lib.hid hlt; have HKC := Lib.hid (show k ≤ c by omega)
      have hkb : (k : Int) < (n : Int) := by omega
      clear hy hsm htk ho1 ho2 hst
      cases o1
      · go_upto_region 4 with fail
        refine rol_run (by kernel_rfl) [[], [0], [], [0, 1, 2], [0, 1, 2, 3], [0, 1, 2, 3, 4], [0, 1, 2, 3, 4, 5], [0, 1, 2, 3, 4, 5, 6], [0, 1, 2, 3, 4, 5, 6, 7], [0, 1, 2, 3, 4, 5, 6, 7, 8], [0, 1, 2, 3, 4, 5, 6, 7], [0, 1, 2, 3, 4, 5, 6, 7, 8, 9, 10], [0, 1, 2, 3, 4, 5, 6, 7], [0, 1, 2, 3, 4, 5, 6, 7, 12], [0, 1, 2, 3, 4, 5, 6, 7], [0, 1, 2, 3, 4, 5, 6, 7, 12, 13, 14], [0, 1, 2, 3, 4, 5, 6, 7, 12, 13, 14, 15], [0, 1, 2, 3, 4, 5, 6, 7, 8, 9, 10, 11, 12, 13, 14, 15, 16], [0, 1, 2, 3, 4, 5, 6, 7, 8, 9, 10, 11, 12, 13, 14, 15, 16, 17]] (by kernel_rfl) [11, 12, 13, 14, 15, 16, 17, 18, 19, 20, 21, 22, 23, 24, 25, 26, 27, 28, 29] [[], [0], [], [1, 2], [3], [4], [5], [6], [7], [7], [7], [7], [7], [7], [7], [7], [7], [7], [7]] [0, 0, 0, 0, 0, 0, 0, 0, 0, 0, 0, 0, 0, 0, 0, 0, 0, 0, 0] [0, 0, 0, 0, 0, 0, 0, 0, 0, 0, 0, 0, 0, 0, 0, 0, 0, 0, 0] [1000, 1000, 1000, 1000, 1000, 1000, 1000, 1000, 1000, 1000, 1000, 1000, 1000, 1000, 1000, 1000, 1000, 1000, 1000] [.val 11 (.pointer (some ⟨g, 0, none⟩)), .val 12 (.slice (some ⟨bl, ol, none⟩) n c), .val 13 (.int .i64 (k : Int)), .val 14 (.pointer (some ⟨bl, ol + k * 2, none⟩)), .val 15 (.agg #[.string (mkB y1), .string (mkB y2)]), .val 16 (.bool false), .val 17 (.bool true), .val 18 (.bool true), .val 19 undef, .val 20 undef, .val 21 undef, .val 22 undef, .val 23 undef, .val 24 undef, .val 25 undef, .val 26 undef, .val 27 undef, .val 28 undef, .val 29 (.bool true)] (by kernel_rfl) ?_ (wr.heap.size) (wr.heap.size) rfl (Below.refl _ _) rfl (fun _ => 0) ?_ ?_ ?_
        · intro j hj
          have hj3 : j < 19 := hj
          have hj2 : j = 0 ∨ j = 1 ∨ j = 2 ∨ j = 3 ∨ j = 4 ∨ j = 5 ∨ j = 6 ∨ j = 7 ∨ j = 8 ∨ j = 9 ∨ j = 10 ∨ j = 11 ∨ j = 12 ∨ j = 13 ∨ j = 14 ∨ j = 15 ∨ j = 16 ∨ j = 17 ∨ j = 18 := by omega
          clear hj hj3
          rcases hj2 with rfl | rfl | rfl | rfl | rfl | rfl | rfl | rfl | rfl | rfl | rfl | rfl | rfl | rfl | rfl | rfl | rfl | rfl | rfl
          · exact trivial
          · exact trivial
          · exact trivial
          · exact trivial
          · exact trivial
          · exact trivial
          · exact trivial
          · exact trivial
          · exact trivial
          · exact trivial
          · exact trivial
          · exact trivial
          · exact trivial
          · exact trivial
          · exact trivial
          · exact trivial
          · exact trivial
          · exact trivial
          · exact trivial
        · intro j hj0 hj
          exact absurd hj (Nat.not_lt.2 hj0)
        · intro i hi a wx who hG hF
          have hz : a.tmps.size = 30 := hG.size
          have hi3 : i < 19 := hi
          have hi2 : i = 0 ∨ i = 1 ∨ i = 2 ∨ i = 3 ∨ i = 4 ∨ i = 5 ∨ i = 6 ∨ i = 7 ∨ i = 8 ∨ i = 9 ∨ i = 10 ∨ i = 11 ∨ i = 12 ∨ i = 13 ∨ i = 14 ∨ i = 15 ∨ i = 16 ∨ i = 17 ∨ i = 18 := by omega
          clear hi hi3
          rcases hi2 with rfl | rfl | rfl | rfl | rfl | rfl | rfl | rfl | rfl | rfl | rfl | rfl | rfl | rfl | rfl | rfl | rfl | rfl | rfl
          · exact rol_val rfl rfl rfl (by rw [hz]; decide) (ex_field rfl (eval_slot ((hG.slots 1 (by decide)).trans rfl)) (by go_simp)) hG.below
          · exact rol_val rfl rfl rfl (by rw [hz]; decide) (ex_load rfl (eval_slot (hF 0 (by decide))) (ldm_slice (cell_keep d1 hG.below))) hG.below
          · exact rol_val rfl rfl rfl (by rw [hz]; decide) (ex_move (Or.inl rfl) (eval_slot ((hG.slots 3 (by decide)).trans rfl))) hG.below
          · exact rol_val rfl rfl rfl (by rw [hz]; decide) (ex_index rfl (eval_slot (hF 1 (by decide))) (eval_slot (hF 2 (by decide))) (idx_nd HLT.out)) hG.below
          · exact rol_val rfl rfl rfl (by rw [hz]; decide) (ex_load rfl (eval_slot (hF 3 (by decide))) (ldn_at (cell_keep hc0 hG.below) (cell_keep hc1 hG.below))) hG.below
          · refine rol_call rfl rfl rfl (by rw [hz]; decide) (ex_call rfl (by simp [eval_slot (hF 4 (by decide))]) e1) (refnmay_any y1 y2 wx HSM.out.1 HSM.out.2) ?_ hG.below hG.new
            rintro e w1 ⟨rfl, hb1⟩
            rw [HO1.out]
            exact ⟨_, rfl, hb1, .inl rfl⟩
          · exact rol_val rfl rfl rfl (by rw [hz]; decide) (ex_un rfl (eval_slot (hF 5 (by decide))) rfl) hG.below
          · exact rol_val rfl rfl rfl (by rw [hz]; decide) (ex_move (Or.inl rfl) (eval_slot (hF 6 (by decide)))) hG.below
          · exact rol_val_skip rfl (want_no rfl rfl (hF 7 (by decide)) (by decide)) rfl (by rw [hz]; decide) hG.below
          · exact rol_val_skip rfl (want_no rfl rfl (hF 7 (by decide)) (by decide)) rfl (by rw [hz]; decide) hG.below
          · exact rol_val_skip rfl (want_no rfl rfl (hF 7 (by decide)) (by decide)) rfl (by rw [hz]; decide) hG.below
          · exact rol_val_skip rfl (want_no rfl rfl (hF 7 (by decide)) (by decide)) rfl (by rw [hz]; decide) hG.below
          · exact rol_val_skip rfl (want_no rfl rfl (hF 7 (by decide)) (by decide)) rfl (by rw [hz]; decide) hG.below
          · exact rol_val_skip rfl (want_no rfl rfl (hF 7 (by decide)) (by decide)) rfl (by rw [hz]; decide) hG.below
          · exact rol_val_skip rfl (want_no rfl rfl (hF 7 (by decide)) (by decide)) rfl (by rw [hz]; decide) hG.below
          · exact rol_val_skip rfl (want_no rfl rfl (hF 7 (by decide)) (by decide)) rfl (by rw [hz]; decide) hG.below
          · exact rol_val_skip rfl (want_no rfl rfl (hF 7 (by decide)) (by decide)) rfl (by rw [hz]; decide) hG.below
          · exact rol_val_skip rfl (want_no rfl rfl (hF 7 (by decide)) (by decide)) rfl (by rw [hz]; decide) hG.below
          · exact rol_val rfl rfl rfl (by rw [hz]; decide) (ex_pick_yes rfl (eval_slot (hF 7 (by decide))) rfl) hG.below
        · intro a wx who hG hF
          have fv29 : a.tmps.getD 29 undef = .bool true := eval_slot (s := 29) (hF 18 (of_decide_eq_true (by kernel_rfl)) (of_decide_eq_true (by kernel_rfl)))
          have hbx := hG.below
          have hnx := hG.new
          rw [hG.frame]
          simp only [List.foldl_cons, List.foldl_nil, List.setIfInBounds_toArray, List.set_cons_zero, List.set_cons_succ]
          generalize a.tmps.getD 11 undef = u11
          generalize a.tmps.getD 12 undef = u12
          generalize a.tmps.getD 13 undef = u13
          generalize a.tmps.getD 14 undef = u14
          generalize a.tmps.getD 15 undef = u15
          generalize a.tmps.getD 16 undef = u16
          generalize a.tmps.getD 17 undef = u17
          generalize a.tmps.getD 18 undef = u18
          generalize a.tmps.getD 19 undef = u19
          generalize a.tmps.getD 20 undef = u20
          generalize a.tmps.getD 21 undef = u21
          generalize a.tmps.getD 22 undef = u22
          generalize a.tmps.getD 23 undef = u23
          generalize a.tmps.getD 24 undef = u24
          generalize a.tmps.getD 25 undef = u25
          generalize a.tmps.getD 26 undef = u26
          generalize a.tmps.getD 27 undef = u27
          generalize a.tmps.getD 28 undef = u28
          rw [fv29]
          clear hF hG fv29
          go_wp2
          go_ret
          exact ⟨by rw [← HR.out, okM_part HST.out]; rfl, below_step B.out (below_step HB.out hbx)⟩
      · cases o2
        · go_upto_region 4 with fail
          refine rol_run (by kernel_rfl) [[], [0], [], [0, 1, 2], [0, 1, 2, 3], [0, 1, 2, 3, 4], [0, 1, 2, 3, 4, 5], [0, 1, 2, 3, 4, 5, 6], [0, 1, 2, 3, 4, 5, 6, 7], [0, 1, 2, 3, 4, 5, 6, 7, 8], [0, 1, 2, 3, 4, 5, 6, 7], [0, 1, 2, 3, 4, 5, 6, 7, 8, 9, 10], [0, 1, 2, 3, 4, 5, 6, 7], [0, 1, 2, 3, 4, 5, 6, 7, 12], [0, 1, 2, 3, 4, 5, 6, 7], [0, 1, 2, 3, 4, 5, 6, 7, 12, 13, 14], [0, 1, 2, 3, 4, 5, 6, 7, 12, 13, 14, 15], [0, 1, 2, 3, 4, 5, 6, 7, 8, 9, 10, 11, 12, 13, 14, 15, 16], [0, 1, 2, 3, 4, 5, 6, 7, 8, 9, 10, 11, 12, 13, 14, 15, 16, 17]] (by kernel_rfl) [11, 12, 13, 14, 15, 16, 17, 18, 19, 20, 21, 22, 23, 24, 25, 26, 27, 28, 29] [[], [0], [], [1, 2], [3], [4], [5], [6], [7], [7, 8], [7], [7, 9, 10], [7], [7, 12], [7], [7, 13, 14], [7, 15], [7, 11, 16], [7, 17]] [0, 0, 0, 0, 0, 0, 0, 0, 0, 0, 0, 0, 0, 0, 0, 0, 0, 0, 0] [0, 0, 0, 0, 0, 0, 0, 0, 0, 0, 0, 0, 0, 0, 0, 0, 0, 0, 0] [1000, 1000, 1000, 1000, 1000, 1000, 1000, 1000, 1000, 1000, 1000, 1000, 1000, 1000, 1000, 1000, 1000, 1000, 1000] [.val 11 (.pointer (some ⟨g, 0, none⟩)), .val 12 (.slice (some ⟨bl, ol, none⟩) n c), .val 13 (.int .i64 (k : Int)), .val 14 (.pointer (some ⟨bl, ol + k * 2, none⟩)), .val 15 (.agg #[.string (mkB y1), .string (mkB y2)]), .val 16 (.bool true), .val 17 (.bool false), .val 18 (.bool false), .val 19 (.pointer (some ⟨g, 0, none⟩)), .val 20 (.slice (some ⟨bl, ol, none⟩) n c), .val 21 (.int .i64 (k : Int)), .val 22 (.slice (some ⟨bl, ol, none⟩) k c), .val 23 (.pointer (some ⟨g, 0, none⟩)), .val 24 (.slice (some ⟨bl, ol, none⟩) n c), .val 25 (.int .i64 (k : Int)), .val 26 (.pointer (some ⟨bl, ol + k * 2, none⟩)), .val 27 (.agg #[.string (mkB y1), .string (mkB y2)]), .val 28 (.bool false), .val 29 (.bool false)] (by kernel_rfl) ?_ (wr.heap.size) (wr.heap.size) rfl (Below.refl _ _) rfl (fun _ => 0) ?_ ?_ ?_
          · intro j hj
            have hj3 : j < 19 := hj
            have hj2 : j = 0 ∨ j = 1 ∨ j = 2 ∨ j = 3 ∨ j = 4 ∨ j = 5 ∨ j = 6 ∨ j = 7 ∨ j = 8 ∨ j = 9 ∨ j = 10 ∨ j = 11 ∨ j = 12 ∨ j = 13 ∨ j = 14 ∨ j = 15 ∨ j = 16 ∨ j = 17 ∨ j = 18 := by omega
            clear hj hj3
            rcases hj2 with rfl | rfl | rfl | rfl | rfl | rfl | rfl | rfl | rfl | rfl | rfl | rfl | rfl | rfl | rfl | rfl | rfl | rfl | rfl
            · exact trivial
            · exact trivial
            · exact trivial
            · exact trivial
            · exact trivial
            · exact trivial
            · exact trivial
            · exact trivial
            · exact trivial
            · exact trivial
            · exact trivial
            · exact trivial
            · exact trivial
            · exact trivial
            · exact trivial
            · exact trivial
            · exact trivial
            · exact trivial
            · exact trivial
          · intro j hj0 hj
            exact absurd hj (Nat.not_lt.2 hj0)
          · intro i hi a wx who hG hF
            have hz : a.tmps.size = 30 := hG.size
            have hi3 : i < 19 := hi
            have hi2 : i = 0 ∨ i = 1 ∨ i = 2 ∨ i = 3 ∨ i = 4 ∨ i = 5 ∨ i = 6 ∨ i = 7 ∨ i = 8 ∨ i = 9 ∨ i = 10 ∨ i = 11 ∨ i = 12 ∨ i = 13 ∨ i = 14 ∨ i = 15 ∨ i = 16 ∨ i = 17 ∨ i = 18 := by omega
            clear hi hi3
            rcases hi2 with rfl | rfl | rfl | rfl | rfl | rfl | rfl | rfl | rfl | rfl | rfl | rfl | rfl | rfl | rfl | rfl | rfl | rfl | rfl
            · exact rol_val rfl rfl rfl (by rw [hz]; decide) (ex_field rfl (eval_slot ((hG.slots 1 (by decide)).trans rfl)) (by go_simp)) hG.below
            · exact rol_val rfl rfl rfl (by rw [hz]; decide) (ex_load rfl (eval_slot (hF 0 (by decide))) (ldm_slice (cell_keep d1 hG.below))) hG.below
            · exact rol_val rfl rfl rfl (by rw [hz]; decide) (ex_move (Or.inl rfl) (eval_slot ((hG.slots 3 (by decide)).trans rfl))) hG.below
            · exact rol_val rfl rfl rfl (by rw [hz]; decide) (ex_index rfl (eval_slot (hF 1 (by decide))) (eval_slot (hF 2 (by decide))) (idx_nd HLT.out)) hG.below
            · exact rol_val rfl rfl rfl (by rw [hz]; decide) (ex_load rfl (eval_slot (hF 3 (by decide))) (ldn_at (cell_keep hc0 hG.below) (cell_keep hc1 hG.below))) hG.below
            · refine rol_call rfl rfl rfl (by rw [hz]; decide) (ex_call rfl (by simp [eval_slot (hF 4 (by decide))]) e1) (refnmay_any y1 y2 wx HSM.out.1 HSM.out.2) ?_ hG.below hG.new
              rintro e w1 ⟨rfl, hb1⟩
              rw [HO1.out]
              exact ⟨_, rfl, hb1, .inl rfl⟩
            · exact rol_val rfl rfl rfl (by rw [hz]; decide) (ex_un rfl (eval_slot (hF 5 (by decide))) rfl) hG.below
            · exact rol_val rfl rfl rfl (by rw [hz]; decide) (ex_move (Or.inl rfl) (eval_slot (hF 6 (by decide)))) hG.below
            · exact rol_val rfl (want_yes rfl rfl (hF 7 (by decide))) rfl (by rw [hz]; decide) (ex_field rfl (eval_slot ((hG.slots 1 (by decide)).trans rfl)) (by go_simp)) hG.below
            · exact rol_val rfl (want_yes rfl rfl (hF 7 (by decide))) rfl (by rw [hz]; decide) (ex_load rfl (eval_slot (hF 8 (by decide))) (ldm_slice (cell_keep d1 hG.below))) hG.below
            · exact rol_val rfl (want_yes rfl rfl (hF 7 (by decide))) rfl (by rw [hz]; decide) (ex_move (Or.inl rfl) (eval_slot ((hG.slots 3 (by decide)).trans rfl))) hG.below
            · exact rol_val rfl (want_yes rfl rfl (hF 7 (by decide))) rfl (by rw [hz]; decide) (ex_cut rfl (eval_slot (hF 9 (by decide))) (eval_slot (hF 10 (by decide))) (cut_nd HKC.out)) hG.below
            · exact rol_val rfl (want_yes rfl rfl (hF 7 (by decide))) rfl (by rw [hz]; decide) (ex_field rfl (eval_slot ((hG.slots 1 (by decide)).trans rfl)) (by go_simp)) hG.below
            · exact rol_val rfl (want_yes rfl rfl (hF 7 (by decide))) rfl (by rw [hz]; decide) (ex_load rfl (eval_slot (hF 12 (by decide))) (ldm_slice (cell_keep d1 hG.below))) hG.below
            · exact rol_val rfl (want_yes rfl rfl (hF 7 (by decide))) rfl (by rw [hz]; decide) (ex_move (Or.inl rfl) (eval_slot ((hG.slots 3 (by decide)).trans rfl))) hG.below
            · exact rol_val rfl (want_yes rfl rfl (hF 7 (by decide))) rfl (by rw [hz]; decide) (ex_index rfl (eval_slot (hF 13 (by decide))) (eval_slot (hF 14 (by decide))) (idx_nd HLT.out)) hG.below
            · exact rol_val rfl (want_yes rfl rfl (hF 7 (by decide))) rfl (by rw [hz]; decide) (ex_load rfl (eval_slot (hF 15 (by decide))) (ldn_at (cell_keep hc0 hG.below) (cell_keep hc1 hG.below))) hG.below
            · refine rol_call rfl (want_yes rfl rfl (hF 7 (by decide))) rfl (by rw [hz]; decide) (ex_call rfl (by simp [eval_slot (hF 11 (by decide)), eval_slot (hF 16 (by decide))]) e2) (refnhas_any _ (L.take k) y1 y2 wx (SK.out.below hG.below)) ?_ hG.below hG.new
              rintro e w1 ⟨rfl, hb1⟩
              rw [HO2.out]
              exact ⟨_, rfl, hb1, .inl rfl⟩
            · exact rol_val rfl rfl rfl (by rw [hz]; decide) (ex_pick_no rfl (eval_slot (hF 7 (by decide))) (eval_slot (hF 17 (by decide)))) hG.below
          · intro a wx who hG hF
            have fv29 : a.tmps.getD 29 undef = .bool false := eval_slot (s := 29) (hF 18 (of_decide_eq_true (by kernel_rfl)) (of_decide_eq_true (by kernel_rfl)))
            have hbx := hG.below
            have hnx := hG.new
            rw [hG.frame]
            simp only [List.foldl_cons, List.foldl_nil, List.setIfInBounds_toArray, List.set_cons_zero, List.set_cons_succ]
            generalize a.tmps.getD 11 undef = u11
            generalize a.tmps.getD 12 undef = u12
            generalize a.tmps.getD 13 undef = u13
            generalize a.tmps.getD 14 undef = u14
            generalize a.tmps.getD 15 undef = u15
            generalize a.tmps.getD 16 undef = u16
            generalize a.tmps.getD 17 undef = u17
            generalize a.tmps.getD 18 undef = u18
            generalize a.tmps.getD 19 undef = u19
            generalize a.tmps.getD 20 undef = u20
            generalize a.tmps.getD 21 undef = u21
            generalize a.tmps.getD 22 undef = u22
            generalize a.tmps.getD 23 undef = u23
            generalize a.tmps.getD 24 undef = u24
            generalize a.tmps.getD 25 undef = u25
            generalize a.tmps.getD 26 undef = u26
            generalize a.tmps.getD 27 undef = u27
            generalize a.tmps.getD 28 undef = u28
            rw [fv29]
            clear hF hG fv29
            go_wp2
            have HK2 : Hid (okM (L.take (k + 1)) = true) := Lib.hid HST.out
            have HB2 := Lib.hid (below_step HB.out hbx)
            go_roundw
            case rel => exact ⟨k + 1, by omega, by go_num, HK2, HB2⟩
            case measure => simp [intOf]; omega
        · go_upto_region 4 with fail
          refine rol_run (by kernel_rfl) [[], [0], [], [0, 1, 2], [0, 1, 2, 3], [0, 1, 2, 3, 4], [0, 1, 2, 3, 4, 5], [0, 1, 2, 3, 4, 5, 6], [0, 1, 2, 3, 4, 5, 6, 7], [0, 1, 2, 3, 4, 5, 6, 7, 8], [0, 1, 2, 3, 4, 5, 6, 7], [0, 1, 2, 3, 4, 5, 6, 7, 8, 9, 10], [0, 1, 2, 3, 4, 5, 6, 7], [0, 1, 2, 3, 4, 5, 6, 7, 12], [0, 1, 2, 3, 4, 5, 6, 7], [0, 1, 2, 3, 4, 5, 6, 7, 12, 13, 14], [0, 1, 2, 3, 4, 5, 6, 7, 12, 13, 14, 15], [0, 1, 2, 3, 4, 5, 6, 7, 8, 9, 10, 11, 12, 13, 14, 15, 16], [0, 1, 2, 3, 4, 5, 6, 7, 8, 9, 10, 11, 12, 13, 14, 15, 16, 17]] (by kernel_rfl) [11, 12, 13, 14, 15, 16, 17, 18, 19, 20, 21, 22, 23, 24, 25, 26, 27, 28, 29] [[], [0], [], [1, 2], [3], [4], [5], [6], [7], [7, 8], [7], [7, 9, 10], [7], [7, 12], [7], [7, 13, 14], [7, 15], [7, 11, 16], [7, 17]] [0, 0, 0, 0, 0, 0, 0, 0, 0, 0, 0, 0, 0, 0, 0, 0, 0, 0, 0] [0, 0, 0, 0, 0, 0, 0, 0, 0, 0, 0, 0, 0, 0, 0, 0, 0, 0, 0] [1000, 1000, 1000, 1000, 1000, 1000, 1000, 1000, 1000, 1000, 1000, 1000, 1000, 1000, 1000, 1000, 1000, 1000, 1000] [.val 11 (.pointer (some ⟨g, 0, none⟩)), .val 12 (.slice (some ⟨bl, ol, none⟩) n c), .val 13 (.int .i64 (k : Int)), .val 14 (.pointer (some ⟨bl, ol + k * 2, none⟩)), .val 15 (.agg #[.string (mkB y1), .string (mkB y2)]), .val 16 (.bool true), .val 17 (.bool false), .val 18 (.bool false), .val 19 (.pointer (some ⟨g, 0, none⟩)), .val 20 (.slice (some ⟨bl, ol, none⟩) n c), .val 21 (.int .i64 (k : Int)), .val 22 (.slice (some ⟨bl, ol, none⟩) k c), .val 23 (.pointer (some ⟨g, 0, none⟩)), .val 24 (.slice (some ⟨bl, ol, none⟩) n c), .val 25 (.int .i64 (k : Int)), .val 26 (.pointer (some ⟨bl, ol + k * 2, none⟩)), .val 27 (.agg #[.string (mkB y1), .string (mkB y2)]), .val 28 (.bool true), .val 29 (.bool true)] (by kernel_rfl) ?_ (wr.heap.size) (wr.heap.size) rfl (Below.refl _ _) rfl (fun _ => 0) ?_ ?_ ?_
          · intro j hj
            have hj3 : j < 19 := hj
            have hj2 : j = 0 ∨ j = 1 ∨ j = 2 ∨ j = 3 ∨ j = 4 ∨ j = 5 ∨ j = 6 ∨ j = 7 ∨ j = 8 ∨ j = 9 ∨ j = 10 ∨ j = 11 ∨ j = 12 ∨ j = 13 ∨ j = 14 ∨ j = 15 ∨ j = 16 ∨ j = 17 ∨ j = 18 := by omega
            clear hj hj3
            rcases hj2 with rfl | rfl | rfl | rfl | rfl | rfl | rfl | rfl | rfl | rfl | rfl | rfl | rfl | rfl | rfl | rfl | rfl | rfl | rfl
            · exact trivial
            · exact trivial
            · exact trivial
            · exact trivial
            · exact trivial
            · exact trivial
            · exact trivial
            · exact trivial
            · exact trivial
            · exact trivial
            · exact trivial
            · exact trivial
            · exact trivial
            · exact trivial
            · exact trivial
            · exact trivial
            · exact trivial
            · exact trivial
            · exact trivial
          · intro j hj0 hj
            exact absurd hj (Nat.not_lt.2 hj0)
          · intro i hi a wx who hG hF
            have hz : a.tmps.size = 30 := hG.size
            have hi3 : i < 19 := hi
            have hi2 : i = 0 ∨ i = 1 ∨ i = 2 ∨ i = 3 ∨ i = 4 ∨ i = 5 ∨ i = 6 ∨ i = 7 ∨ i = 8 ∨ i = 9 ∨ i = 10 ∨ i = 11 ∨ i = 12 ∨ i = 13 ∨ i = 14 ∨ i = 15 ∨ i = 16 ∨ i = 17 ∨ i = 18 := by omega
            clear hi hi3
            rcases hi2 with rfl | rfl | rfl | rfl | rfl | rfl | rfl | rfl | rfl | rfl | rfl | rfl | rfl | rfl | rfl | rfl | rfl | rfl | rfl
            · exact rol_val rfl rfl rfl (by rw [hz]; decide) (ex_field rfl (eval_slot ((hG.slots 1 (by decide)).trans rfl)) (by go_simp)) hG.below
            · exact rol_val rfl rfl rfl (by rw [hz]; decide) (ex_load rfl (eval_slot (hF 0 (by decide))) (ldm_slice (cell_keep d1 hG.below))) hG.below
            · exact rol_val rfl rfl rfl (by rw [hz]; decide) (ex_move (Or.inl rfl) (eval_slot ((hG.slots 3 (by decide)).trans rfl))) hG.below
            · exact rol_val rfl rfl rfl (by rw [hz]; decide) (ex_index rfl (eval_slot (hF 1 (by decide))) (eval_slot (hF 2 (by decide))) (idx_nd HLT.out)) hG.below
            · exact rol_val rfl rfl rfl (by rw [hz]; decide) (ex_load rfl (eval_slot (hF 3 (by decide))) (ldn_at (cell_keep hc0 hG.below) (cell_keep hc1 hG.below))) hG.below
            · refine rol_call rfl rfl rfl (by rw [hz]; decide) (ex_call rfl (by simp [eval_slot (hF 4 (by decide))]) e1) (refnmay_any y1 y2 wx HSM.out.1 HSM.out.2) ?_ hG.below hG.new
              rintro e w1 ⟨rfl, hb1⟩
              rw [HO1.out]
              exact ⟨_, rfl, hb1, .inl rfl⟩
            · exact rol_val rfl rfl rfl (by rw [hz]; decide) (ex_un rfl (eval_slot (hF 5 (by decide))) rfl) hG.below
            · exact rol_val rfl rfl rfl (by rw [hz]; decide) (ex_move (Or.inl rfl) (eval_slot (hF 6 (by decide)))) hG.below
            · exact rol_val rfl (want_yes rfl rfl (hF 7 (by decide))) rfl (by rw [hz]; decide) (ex_field rfl (eval_slot ((hG.slots 1 (by decide)).trans rfl)) (by go_simp)) hG.below
            · exact rol_val rfl (want_yes rfl rfl (hF 7 (by decide))) rfl (by rw [hz]; decide) (ex_load rfl (eval_slot (hF 8 (by decide))) (ldm_slice (cell_keep d1 hG.below))) hG.below
            · exact rol_val rfl (want_yes rfl rfl (hF 7 (by decide))) rfl (by rw [hz]; decide) (ex_move (Or.inl rfl) (eval_slot ((hG.slots 3 (by decide)).trans rfl))) hG.below
            · exact rol_val rfl (want_yes rfl rfl (hF 7 (by decide))) rfl (by rw [hz]; decide) (ex_cut rfl (eval_slot (hF 9 (by decide))) (eval_slot (hF 10 (by decide))) (cut_nd HKC.out)) hG.below
            · exact rol_val rfl (want_yes rfl rfl (hF 7 (by decide))) rfl (by rw [hz]; decide) (ex_field rfl (eval_slot ((hG.slots 1 (by decide)).trans rfl)) (by go_simp)) hG.below
            · exact rol_val rfl (want_yes rfl rfl (hF 7 (by decide))) rfl (by rw [hz]; decide) (ex_load rfl (eval_slot (hF 12 (by decide))) (ldm_slice (cell_keep d1 hG.below))) hG.below
            · exact rol_val rfl (want_yes rfl rfl (hF 7 (by decide))) rfl (by rw [hz]; decide) (ex_move (Or.inl rfl) (eval_slot ((hG.slots 3 (by decide)).trans rfl))) hG.below
            · exact rol_val rfl (want_yes rfl rfl (hF 7 (by decide))) rfl (by rw [hz]; decide) (ex_index rfl (eval_slot (hF 13 (by decide))) (eval_slot (hF 14 (by decide))) (idx_nd HLT.out)) hG.below
            · exact rol_val rfl (want_yes rfl rfl (hF 7 (by decide))) rfl (by rw [hz]; decide) (ex_load rfl (eval_slot (hF 15 (by decide))) (ldn_at (cell_keep hc0 hG.below) (cell_keep hc1 hG.below))) hG.below
            · refine rol_call rfl (want_yes rfl rfl (hF 7 (by decide))) rfl (by rw [hz]; decide) (ex_call rfl (by simp [eval_slot (hF 11 (by decide)), eval_slot (hF 16 (by decide))]) e2) (refnhas_any _ (L.take k) y1 y2 wx (SK.out.below hG.below)) ?_ hG.below hG.new
              rintro e w1 ⟨rfl, hb1⟩
              rw [HO2.out]
              exact ⟨_, rfl, hb1, .inl rfl⟩
            · exact rol_val rfl rfl rfl (by rw [hz]; decide) (ex_pick_no rfl (eval_slot (hF 7 (by decide))) (eval_slot (hF 17 (by decide)))) hG.below
          · intro a wx who hG hF
            have fv29 : a.tmps.getD 29 undef = .bool true := eval_slot (s := 29) (hF 18 (of_decide_eq_true (by kernel_rfl)) (of_decide_eq_true (by kernel_rfl)))
            have hbx := hG.below
            have hnx := hG.new
            rw [hG.frame]
            simp only [List.foldl_cons, List.foldl_nil, List.setIfInBounds_toArray, List.set_cons_zero, List.set_cons_succ]
            generalize a.tmps.getD 11 undef = u11
            generalize a.tmps.getD 12 undef = u12
            generalize a.tmps.getD 13 undef = u13
            generalize a.tmps.getD 14 undef = u14
            generalize a.tmps.getD 15 undef = u15
            generalize a.tmps.getD 16 undef = u16
            generalize a.tmps.getD 17 undef = u17
            generalize a.tmps.getD 18 undef = u18
            generalize a.tmps.getD 19 undef = u19
            generalize a.tmps.getD 20 undef = u20
            generalize a.tmps.getD 21 undef = u21
            generalize a.tmps.getD 22 undef = u22
            generalize a.tmps.getD 23 undef = u23
            generalize a.tmps.getD 24 undef = u24
            generalize a.tmps.getD 25 undef = u25
            generalize a.tmps.getD 26 undef = u26
            generalize a.tmps.getD 27 undef = u27
            generalize a.tmps.getD 28 undef = u28
            rw [fv29]
            clear hF hG fv29
            go_wp2
            go_ret
            exact ⟨by rw [← HR.out, okM_part HST.out]; rfl, below_step B.out (below_step HB.out hbx)⟩
    · go_wp2
      go_ret
      refine ⟨?_, below_step B.out HB.out⟩
      have hK := HK.out
      rw [List.take_of_length_le (by rw [HN.out]; omega)] at hK
      rw [← HR.out, hK]; rfl
end Go.Proofs.Ythmnoepdedjhjaa
