/- Of every two nodes and every text (no longer than is looked at): which nodes may be, how the two stand to one another, and a text's node, as the document says; no condition. -/
import Derived.Test.YtijhdjdjnolpcaaRows
import Derived.Test.YtijhdjdjnolpcaaNodR
import Derived.ProofKit
import Derived.OpenShut
import Derived.ShutString
import Derived.ChangeOld
namespace Go.Proofs.Ytijhdjdjnolpcaa.nodeTells
open Go.ChangeShapes Go.WideShapes Go.ChangeAt Go.RowKit
open Go.ChangeMaps (open_string shut_string)
set_option maxRecDepth 100000
set_option linter.unusedVariables false

set_option maxRecDepth 100000 in
set_option maxHeartbeats 12800000 in
theorem walk (V : Value) (n : Nd) (U : Value) (m : Nd) (s : ByteArray) (w : World) (hn : V = .agg #[.string (mkB n.1), .string (mkB n.2)] ∧ fitsN n) (hm : U = .agg #[.string (mkB m.1), .string (mkB m.2)] ∧ fitsN m) (hs : s.size ≤ maxLen) :
    Calls Try.prog 3 #[V, U, .string s] w fun e w' => e = .returned (.bool true) ∧ Below w.heap.size w w' := by
  obtain ⟨rfl, fn⟩ := hn
  obtain ⟨rfl, fm⟩ := hm
  obtain ⟨l, rfl⟩ : ∃ l, s = mkB l := ⟨s.data.toList, by simp only [mkB, Lib.mk_data]⟩
  have fl : l.length ≤ maxLen := by rwa [mkB_size] at hs
  go_enter Try.func3, Try.ntmps3
  go_upto_region 1 with fail
  obtain ⟨W, hW, hWs, r0, r1, hb⟩ := boxes2 w n m
  rw [hW]
  clear hW
  have e1 : ∀ args w, (callFunc 8 args).run Try.prog w = .ok (.enter 8 args) w := enters_of Try.func8 (by kernel_rfl) rfl
  have e2 : ∀ args w, (callFunc 9 args).run Try.prog w = .ok (.enter 9 args) w := enters_of Try.func9 (by kernel_rfl) rfl
  refine lane_run (by kernel_rfl) [[], [0], [], [2], [], [4], [0, 1], [2, 3], [4, 5]] (by kernel_rfl) [11, 12, 13, 14, 15, 16, 2] [none, none, none, none, none, none, some 0, some 1, none] [.slot 11 (ndV n), .slot 12 (ndV (oneN n)), .slot 13 (ndV m), .slot 14 (ndV (oneN m)), .slot 15 (.string (mkB l)), .slot 16 (.string (mkB (fewL l))), .cells 0 (oneN n), .cells 1 (oneN m), .slot 2 (.string (mkB (fewL l)))] [.any, .any, .any, .any, .any, .any, .cells 0 n, .cells 1 m, .slot 2 (.string (mkB l))] (by kernel_rfl) w.heap.size W.heap.size rfl hb rfl ?_ ?_ ?_
  · intro j hj
    have hj2 : j = 0 ∨ j = 1 ∨ j = 2 ∨ j = 3 ∨ j = 4 ∨ j = 5 ∨ j = 6 ∨ j = 7 ∨ j = 8 := by have hj3 : j < 9 := hj; omega
    rcases hj2 with rfl | rfl | rfl | rfl | rfl | rfl | rfl | rfl | rfl
    · exact trivial
    · exact trivial
    · exact trivial
    · exact trivial
    · exact trivial
    · exact trivial
    · exact r0
    · exact r1
    · exact rfl
  · intro i hi a wx hG hF hE
    have hz : a.tmps.size = 120 := hG.size
    have hi2 : i = 0 ∨ i = 1 ∨ i = 2 ∨ i = 3 ∨ i = 4 ∨ i = 5 ∨ i = 6 ∨ i = 7 ∨ i = 8 := by have hi3 : i < 9 := hi; omega
    clear hi
    rcases hi2 with rfl | rfl | rfl | rfl | rfl | rfl | rfl | rfl | rfl
    · exact lane_load rfl rfl rfl ((hG.slots 3 (by decide)).trans rfl) (hE 6 (by decide) (Or.inr (by decide))) ⟨⟨_, rfl⟩, hG.below, Step1.same _ _ _, put_self _ (by rw [hz]; decide)⟩
    · refine lane_call rfl rfl rfl (hF 0 (by decide)) e1 (one_any n.1 n.2 wx fn.1 fn.2) ?_
      rintro e w1 ⟨rfl, hb1⟩
      exact ⟨_, rfl, ⟨_, rfl⟩, hG.below.trans (hb1.mono hG.below.size), Step1.of_below hb1 _ _, put_self _ (by rw [hz]; decide)⟩
    · exact lane_load rfl rfl rfl ((hG.slots 4 (by decide)).trans rfl) (hE 7 (by decide) (Or.inr (by decide))) ⟨⟨_, rfl⟩, hG.below, Step1.same _ _ _, put_self _ (by rw [hz]; decide)⟩
    · refine lane_call rfl rfl rfl (hF 2 (by decide)) e1 (one_any m.1 m.2 wx fm.1 fm.2) ?_
      rintro e w1 ⟨rfl, hb1⟩
      exact ⟨_, rfl, ⟨_, rfl⟩, hG.below.trans (hb1.mono hG.below.size), Step1.of_below hb1 _ _, put_self _ (by rw [hz]; decide)⟩
    · exact lane_move rfl rfl (Or.inl rfl) (hE 8 (by decide) (Or.inr (by decide))) ⟨⟨_, rfl⟩, hG.below, Step1.same _ _ _, put_self _ (by rw [hz]; decide)⟩
    · refine lane_call rfl rfl rfl (hF 4 (by decide)) e2 (few_s l wx fl) ?_
      rintro e w1 ⟨rfl, rfl⟩
      exact ⟨_, rfl, ⟨_, rfl⟩, hG.below, Step1.same _ _ _, put_self _ (by rw [hz]; decide)⟩
    · exact lane_store rfl rfl rfl ((hG.slots 3 (by decide)).trans rfl) (hF 1 (by decide)) (hE 6 (by decide) (Or.inl rfl)) ⟨⟨_, rfl⟩, (hG.below.setCell (Nat.le_add_right _ 0) _).setCell (Nat.le_add_right _ 0) _, Step1.two (B := w.heap.size) (c := 0) wx (by rw [hWs]; omega) _ _, row2_set (hE 6 (by decide) (Or.inl rfl)) _ _⟩
    · exact lane_store rfl rfl rfl ((hG.slots 4 (by decide)).trans rfl) (hF 3 (by decide)) (hE 7 (by decide) (Or.inl rfl)) ⟨⟨_, rfl⟩, (hG.below.setCell (Nat.le_add_right _ 1) _).setCell (Nat.le_add_right _ 1) _, Step1.two (B := w.heap.size) (c := 1) wx (by rw [hWs]; omega) _ _, row2_set (hE 7 (by decide) (Or.inl rfl)) _ _⟩
    · exact lane_move rfl rfl (Or.inr rfl) (hF 5 (by decide)) ⟨⟨_, rfl⟩, hG.below, Step1.same _ _ _, put_self _ (by rw [hz]; decide)⟩
  · intro a wx hG hF
    have f6 : wx.heap[w.heap.size]? = some (.cells #[.string (mkB (oneN n).1), .string (mkB (oneN n).2)] 23 (0, 0)) := hF 6 (by decide)
    have f7 : wx.heap[w.heap.size + 1]? = some (.cells #[.string (mkB (oneN m).1), .string (mkB (oneN m).2)] 23 (0, 0)) := hF 7 (by decide)
    have f8 : a.tmps.getD 2 undef = (.string (mkB (fewL l))) := eval_slot (s := 2) (hF 8 (by decide))
    have hbx := hG.below
    have hnx := hG.new
    rw [hG.frame]
    simp only [List.foldl_cons, List.foldl_nil, List.setIfInBounds_toArray, List.set_cons_zero, List.set_cons_succ]
    rw [f8]
    generalize a.tmps.getD 11 undef = u11
    generalize a.tmps.getD 12 undef = u12
    generalize a.tmps.getD 13 undef = u13
    generalize a.tmps.getD 14 undef = u14
    generalize a.tmps.getD 15 undef = u15
    generalize a.tmps.getD 16 undef = u16
    clear hF hG
    have sx := oneN_small n
    have sy := oneN_small m
    have sL := fewL_len l
    obtain ⟨⟨x1, x2⟩, hx⟩ : ∃ x, oneN n = x := ⟨_, rfl⟩
    obtain ⟨⟨y1, y2⟩, hy⟩ : ∃ y, oneN m = y := ⟨_, rfl⟩
    obtain ⟨L, hL⟩ : ∃ L, fewL l = L := ⟨_, rfl⟩
    rw [hx] at f6 sx; rw [hy] at f7 sy; rw [hL] at sL ⊢
    obtain ⟨c0, c1, _, _⟩ := row2 f6
    obtain ⟨d0, d1, _, _⟩ := row2 f7
    simp only at c0 c1 d0 d1
    obtain ⟨⟨p, v⟩, hc⟩ : ∃ c, cutA L = c := ⟨_, rfl⟩
    have hp : p.length ≤ 1000000000 := by have h : p = (cutA L).1 := by rw [hc]
                                          rw [h]; unfold cutA; rw [List.length_take]; omega
    have hv : v.length ≤ 1000000000 := by have h : v = (cutA L).2 := by rw [hc]
                                          rw [h]; unfold cutA; rw [List.length_drop]; omega
    have B := Lib.hid hbx; have SX := Lib.hid sx; have SY := Lib.hid sy; have SP := Lib.hid hp; have SV := Lib.hid hv
    have h1 := fun w => ncmp_any x1 x2 y1 y2 w SX.out.1 SX.out.2 SY.out.1 SY.out.2
    have h2 := fun w => nmay_any x1 x2 w SX.out.1 SX.out.2
    have h3 := fun w => refnmay_any x1 x2 w SX.out.1 SX.out.2
    have h4 := fun w => ntext_any x1 x2 w SX.out.1 SX.out.2
    have h5 := fun w => nread_any L p v hc w (by omega) SP.out SV.out
    have h6 := fun w => refnmay_any p v w SP.out SV.out
    have h7 := fun w => refnmay_any x1 x2 w SX.out.1 SX.out.2
    have h8 := fun w => refnmay_any y1 y2 w SY.out.1 SY.out.2
    have htx := at_txt x1 x2
    have htt : ((mkB (textN (x1, x2))).toList == (mkB (textN (x1, x2))).toList) = true := by rw [mk_beq]; simp
    have bx1 : (mkB x1).size ≤ 1000000000 := by rw [mkB_size]; exact SX.out.1
    have bx2 : (mkB x2).size ≤ 1000000000 := by rw [mkB_size]; exact SX.out.2
    have bp1 : (mkB p).size ≤ 1000000000 := by rw [mkB_size]; exact hp
    have bp2 : (mkB v).size ≤ 1000000000 := by rw [mkB_size]; exact hv
    obtain ⟨ox, hox⟩ : ∃ o, okN (x1, x2) = o := ⟨_, rfl⟩
    obtain ⟨oy, hoy⟩ : ∃ o, okN (y1, y2) = o := ⟨_, rfl⟩
    obtain ⟨oc, hoc⟩ : ∃ o, okN (p, v) = o := ⟨_, rfl⟩
    have hoc' : okN (cutA L) = oc := by rw [hc]; exact hoc
    rw [hox] at h2 h3 h7; rw [hoy] at h8; rw [hoc] at h6
    obtain ⟨t, ht⟩ : ∃ t, textN (x1, x2) = t := ⟨_, rfl⟩
    rw [ht] at h4 htx htt
    clear f6 f7 f8 r0 r1 hb hWs hnx hx hy hL fn fm fl hs hbx sx sy hp hv ht
    have hread : (oc = true ∧ readN L = (p, v) ∧ readE L = 0 ∧ mkB p ++ (⟨#[64]⟩ : ByteArray) ++ mkB v = mkB L) ∨ (oc = false ∧ readN L = ([], []) ∧ readE L = 1) := by
      cases oc
      · exact Or.inr ⟨rfl, readN_no hoc', readE_no hoc'⟩
      · refine Or.inl ⟨rfl, by rw [readN_ok hoc', hc], readE_ok hoc', ?_⟩
        have h := read_text hoc'
        rw [hc] at h
        rw [at_txt, h]
    have hll : ((mkB L).toList == (mkB L).toList) = true := by rw [mk_beq]; simp
    have hgd := guard_nd
    have hne : ∀ w, Sem.run Try.prog (binOp .neq 23 (.agg #[.string (mkB []), .string (mkB [])]) (.agg #[.string ByteArray.empty, .string ByteArray.empty])) w = .ok (.bool false) w := neq_nd [] [] [] []
    have hne2 : ∀ w, Sem.run Try.prog (binOp .neq 23 (.agg #[.string (mkB []), .string (mkB [])]) (.agg #[.string ⟨#[]⟩, .string ⟨#[]⟩])) w = .ok (.bool false) w := neq_nd [] [] [] []
    clear hoc hoc' hc
    by_cases hall : ox = true ∧ oy = true
    · obtain ⟨rfl, rfl⟩ := hall
      have h9 := fun w => refless_any x1 x2 y1 y2 w SX.out.1 SX.out.2 SY.out.1 SY.out.2 hox hoy
      have h10 := fun w => refless_any y1 y2 x1 x2 w SY.out.1 SY.out.2 SX.out.1 SX.out.2 hoy hox
      rw [cmpNE_yes hox hoy] at h1
      have hcv := ordN_vals (x1, x2) (y1, y2)
      have hsw := ordN_swap (x1, x2) (y1, y2)
      unfold ltN at h9 h10
      rw [hsw] at h10
      obtain ⟨q, hq⟩ : ∃ q, ordN (x1, x2) (y1, y2) = q := ⟨_, rfl⟩
      rw [hq] at h1 h9 h10 hcv
      clear hox hoy hsw hq
      rcases hread with ⟨rfl, hr1, hr2, hr3⟩ | ⟨rfl, hr1, hr2⟩
      · rw [hr1, hr2] at h5
        clear hr1 hr2
        rcases hcv with rfl | rfl | rfl
        all_goals
          first | replace h9 : ∀ w, Calls Try.prog 16 #[.agg #[.string (mkB x1), .string (mkB x2)], .agg #[.string (mkB y1), .string (mkB y2)]] w fun e w' => e = .returned (.bool true) ∧ Below w.heap.size w w' := h9 | replace h9 : ∀ w, Calls Try.prog 16 #[.agg #[.string (mkB x1), .string (mkB x2)], .agg #[.string (mkB y1), .string (mkB y2)]] w fun e w' => e = .returned (.bool false) ∧ Below w.heap.size w w' := h9
          first | replace h10 : ∀ w, Calls Try.prog 16 #[.agg #[.string (mkB y1), .string (mkB y2)], .agg #[.string (mkB x1), .string (mkB x2)]] w fun e w' => e = .returned (.bool true) ∧ Below w.heap.size w w' := h10 | replace h10 : ∀ w, Calls Try.prog 16 #[.agg #[.string (mkB y1), .string (mkB y2)], .agg #[.string (mkB x1), .string (mkB x2)]] w fun e w' => e = .returned (.bool false) ∧ Below w.heap.size w w' := h10
          go_upto_region 3 with (first | (go_at_call 10; refine (h1 _).mono ?_; rintro e w1 ⟨rfl, hb1⟩; replace B := Lib.hid (below_step B.out hb1); replace c0 := cell_keep c0 hb1; replace c1 := cell_keep c1 hb1; replace d0 := cell_keep d0 hb1; replace d1 := cell_keep d1 hb1; clear hb1 h1))
          refine wp_region_held_drew (S := fun w' => w'.cell? ⟨w.heap.size, 0, none⟩ = some (.string (mkB x1)) ∧ w'.cell? ⟨w.heap.size, 1, none⟩ = some (.string (mkB x2)) ∧ w'.cell? ⟨w.heap.size + 1, 0, none⟩ = some (.string (mkB y1)) ∧ w'.cell? ⟨w.heap.size + 1, 1, none⟩ = some (.string (mkB y2)) ∧ Below w.heap.size w w') (by kernel_rfl) (by exact ⟨cell_drew c0, cell_drew c1, cell_drew d0, cell_drew d1, below_step B.out (below_q ⟨1, rfl⟩)⟩) (fun hS => ?_)
          refine wpAnyH_take (i := 0) (v := ?_) rfl (by kernel_rfl) (by kernel_rfl) (by kernel_rfl) (fun _ _ _ h => h) (Or.inl ⟨by kernel_rfl, ?_⟩) hS ?_
          rotate_left
          · intro w hSw; (try dsimp only at hSw); go_simp; try (with_reducible rfl)
          simp only [Act.put, List.getElem_toArray, List.getElem_cons_zero, List.setIfInBounds_toArray, List.set_cons_zero, List.set_cons_succ]
          refine wpAnyH_take (i := 2) (v := ?_) rfl (by kernel_rfl) (by kernel_rfl) (by kernel_rfl) (fun _ _ _ h => h) (Or.inl ⟨by kernel_rfl, ?_⟩) hS ?_
          rotate_left
          · intro w hSw; (try dsimp only at hSw); go_simp; try (with_reducible rfl)
          simp only [Act.put, List.getElem_toArray, List.getElem_cons_succ, List.getElem_cons_zero, List.setIfInBounds_toArray, List.set_cons_zero, List.set_cons_succ]
          refine wpAnyH_ready (rs := [1]) (by kernel_rfl) (by simp) (AllReadyH.cons rfl (fun K hK => ?_) AllReadyH.nil)
          go_simp
          go_at_call 11; refine (h2 _).mono ?_; rintro e w1 ⟨rfl, hb1⟩; clear h2
          refine hK.out _ _ (by exact ⟨cell_keep hS.1 hb1, cell_keep hS.2.1 hb1, cell_keep hS.2.2.1 hb1, cell_keep hS.2.2.2.1 hb1, below_step hS.2.2.2.2 hb1⟩) (fun hS => ?_)
          clear hK K
          try simp only [Act.put, List.getElem_toArray, List.getElem_cons_succ, List.getElem_cons_zero, List.setIfInBounds_toArray, List.set_cons_zero, List.set_cons_succ]
          refine wpAnyH_ready (rs := [3]) (by kernel_rfl) (by simp) (AllReadyH.cons rfl (fun K hK => ?_) AllReadyH.nil)
          go_simp
          go_at_call 12; refine (h3 _).mono ?_; rintro e w1 ⟨rfl, hb1⟩; clear h3
          refine hK.out _ _ (by exact ⟨cell_keep hS.1 hb1, cell_keep hS.2.1 hb1, cell_keep hS.2.2.1 hb1, cell_keep hS.2.2.2.1 hb1, below_step hS.2.2.2.2 hb1⟩) (fun hS => ?_)
          clear hK K
          try simp only [Act.put, List.getElem_toArray, List.getElem_cons_succ, List.getElem_cons_zero, List.setIfInBounds_toArray, List.set_cons_zero, List.set_cons_succ]
          refine wpAnyH_take (i := 4) (v := ?_) rfl (by kernel_rfl) (by kernel_rfl) (by kernel_rfl) (fun _ _ _ h => h) (Or.inl ⟨by kernel_rfl, ?_⟩) hS ?_
          rotate_left
          · intro w hSw; (try dsimp only at hSw); go_simp; try (with_reducible rfl)
          simp only [Act.put, List.getElem_toArray, List.getElem_cons_succ, List.getElem_cons_zero, List.setIfInBounds_toArray, List.set_cons_zero, List.set_cons_succ]
          refine wpAnyH_take (i := 5) (v := ?_) rfl (by kernel_rfl) (by kernel_rfl) (by kernel_rfl) (fun _ _ _ h => h) (Or.inl ⟨by kernel_rfl, ?_⟩) hS ?_
          rotate_left
          · intro w hSw; (try dsimp only at hSw); go_simp; try (with_reducible rfl)
          simp only [Act.put, List.getElem_toArray, List.getElem_cons_succ, List.getElem_cons_zero, List.setIfInBounds_toArray, List.set_cons_zero, List.set_cons_succ]
          refine wpAnyH_take (i := 6) (v := ?_) rfl (by kernel_rfl) (by kernel_rfl) (by kernel_rfl) (fun _ _ _ h => h) (Or.inl ⟨by kernel_rfl, ?_⟩) hS ?_
          rotate_left
          · intro w hSw; (try dsimp only at hSw); go_simp; try (with_reducible rfl)
          simp only [Act.put, List.getElem_toArray, List.getElem_cons_succ, List.getElem_cons_zero, List.setIfInBounds_toArray, List.set_cons_zero, List.set_cons_succ]
          refine wpAnyH_take (i := 8) (v := ?_) rfl (by kernel_rfl) (by kernel_rfl) (by kernel_rfl) (fun _ _ _ h => h) (Or.inl ⟨by kernel_rfl, ?_⟩) hS ?_
          rotate_left
          · intro w hSw; (try dsimp only at hSw); go_simp; try (with_reducible rfl)
          simp only [Act.put, List.getElem_toArray, List.getElem_cons_succ, List.getElem_cons_zero, List.setIfInBounds_toArray, List.set_cons_zero, List.set_cons_succ]
          refine wpAnyH_take (i := 9) (v := ?_) rfl (by kernel_rfl) (by kernel_rfl) (by kernel_rfl) (fun _ _ _ h => h) (Or.inl ⟨by kernel_rfl, ?_⟩) hS ?_
          rotate_left
          · intro w hSw; (try dsimp only at hSw); go_simp; try (with_reducible rfl)
          simp only [Act.put, List.getElem_toArray, List.getElem_cons_succ, List.getElem_cons_zero, List.setIfInBounds_toArray, List.set_cons_zero, List.set_cons_succ]
          refine wpAnyH_take (i := 10) (v := ?_) rfl (by kernel_rfl) (by kernel_rfl) (by kernel_rfl) (fun _ _ _ h => h) (Or.inl ⟨by kernel_rfl, ?_⟩) hS ?_
          rotate_left
          · intro w hSw; (try dsimp only at hSw); go_simp; (first | rw [if_neg (by omega)] | rw [if_neg (by have h1 : (⟨#[64]⟩ : ByteArray).size = 1 := rfl; simp only [ByteArray.size_append]; omega)]); (try simp only [Result.andThen_ok]); try (with_reducible rfl)
          simp only [Act.put, List.getElem_toArray, List.getElem_cons_succ, List.getElem_cons_zero, List.setIfInBounds_toArray, List.set_cons_zero, List.set_cons_succ]
          refine wpAnyH_take (i := 11) (v := ?_) rfl (by kernel_rfl) (by kernel_rfl) (by kernel_rfl) (fun _ _ _ h => h) (Or.inl ⟨by kernel_rfl, ?_⟩) hS ?_
          rotate_left
          · intro w hSw; (try dsimp only at hSw); go_simp; try (with_reducible rfl)
          simp only [Act.put, List.getElem_toArray, List.getElem_cons_succ, List.getElem_cons_zero, List.setIfInBounds_toArray, List.set_cons_zero, List.set_cons_succ]
          refine wpAnyH_take (i := 12) (v := ?_) rfl (by kernel_rfl) (by kernel_rfl) (by kernel_rfl) (fun _ _ _ h => h) (Or.inl ⟨by kernel_rfl, ?_⟩) hS ?_
          rotate_left
          · intro w hSw; (try dsimp only at hSw); go_simp; try (with_reducible rfl)
          simp only [Act.put, List.getElem_toArray, List.getElem_cons_succ, List.getElem_cons_zero, List.setIfInBounds_toArray, List.set_cons_zero, List.set_cons_succ]
          refine wpAnyH_take (i := 13) (v := ?_) rfl (by kernel_rfl) (by kernel_rfl) (by kernel_rfl) (fun _ _ _ h => h) (Or.inl ⟨by kernel_rfl, ?_⟩) hS ?_
          rotate_left
          · intro w hSw; (try dsimp only at hSw); go_simp; (first | rw [if_neg (by omega)] | rw [if_neg (by have h1 : (⟨#[64]⟩ : ByteArray).size = 1 := rfl; simp only [ByteArray.size_append]; omega)]); (try simp only [Result.andThen_ok]); try (with_reducible rfl)
          simp only [Act.put, List.getElem_toArray, List.getElem_cons_succ, List.getElem_cons_zero, List.setIfInBounds_toArray, List.set_cons_zero, List.set_cons_succ]
          refine wpAnyH_ready (rs := [7]) (by kernel_rfl) (by simp) (AllReadyH.cons rfl (fun K hK => ?_) AllReadyH.nil)
          go_simp
          go_at_call 13; refine (h4 _).mono ?_; rintro e w1 ⟨rfl, hb1⟩; clear h4
          refine hK.out _ _ (by exact ⟨cell_keep hS.1 hb1, cell_keep hS.2.1 hb1, cell_keep hS.2.2.1 hb1, cell_keep hS.2.2.2.1 hb1, below_step hS.2.2.2.2 hb1⟩) (fun hS => ?_)
          clear hK K
          try simp only [Act.put, List.getElem_toArray, List.getElem_cons_succ, List.getElem_cons_zero, List.setIfInBounds_toArray, List.set_cons_zero, List.set_cons_succ]
          refine wpAnyH_take (i := 14) (v := ?_) rfl (by kernel_rfl) (by kernel_rfl) (by kernel_rfl) (fun _ _ _ h => h) (Or.inl ⟨by kernel_rfl, ?_⟩) hS ?_
          rotate_left
          · intro w hSw; (try dsimp only at hSw); go_simp; try (with_reducible rfl)
          simp only [Act.put, List.getElem_toArray, List.getElem_cons_succ, List.getElem_cons_zero, List.setIfInBounds_toArray, List.set_cons_zero, List.set_cons_succ]
          refine wpAnyH_take (i := 15) (v := ?_) rfl (by kernel_rfl) (by kernel_rfl) (by kernel_rfl) (fun _ _ _ h => h) (Or.inl ⟨by kernel_rfl, ?_⟩) hS ?_
          rotate_left
          · intro w hSw; (try dsimp only at hSw); go_simp; try (with_reducible rfl)
          simp only [Act.put, List.getElem_toArray, List.getElem_cons_succ, List.getElem_cons_zero, List.setIfInBounds_toArray, List.set_cons_zero, List.set_cons_succ]
          refine wpAnyH_done (by kernel_rfl) ?_ _
          obtain ⟨c0, c1, d0, d1, hbb⟩ := hS
          replace B := Lib.hid hbb
          clear hbb
          go_upto_region 6 with (first | (go_at_call 14; refine (h5 _).mono ?_; rintro e w1 ⟨rfl, hb1⟩; replace B := Lib.hid (below_step B.out hb1); replace c0 := cell_keep c0 hb1; replace c1 := cell_keep c1 hb1; replace d0 := cell_keep d0 hb1; replace d1 := cell_keep d1 hb1; clear hb1 h5))
          obtain ⟨X, g, hX, hg, q0, q1, hxb⟩ := boxB1 w1 (.string (mkB p)) (.string (mkB v)) 23
          have c0 := cell_keep c0 hxb; have c1 := cell_keep c1 hxb; have d0 := cell_keep d0 hxb; have d1 := cell_keep d1 hxb
          replace B := Lib.hid (below_step B.out hxb)
          rw [hX, hg]
          clear hX hg hxb
          go_wp2_with (first | (go_at_call 12; refine (h6 _).mono ?_; rintro e w1 ⟨rfl, hb1⟩; replace B := Lib.hid (below_step B.out hb1); replace c0 := cell_keep c0 hb1; replace c1 := cell_keep c1 hb1; replace d0 := cell_keep d0 hb1; replace d1 := cell_keep d1 hb1; replace q0 := cell_keep q0 hb1; replace q1 := cell_keep q1 hb1; clear hb1 h6) | (go_at_call 12; refine (h7 _).mono ?_; rintro e w1 ⟨rfl, hb1⟩; replace B := Lib.hid (below_step B.out hb1); replace c0 := cell_keep c0 hb1; replace c1 := cell_keep c1 hb1; replace d0 := cell_keep d0 hb1; replace d1 := cell_keep d1 hb1; replace q0 := cell_keep q0 hb1; replace q1 := cell_keep q1 hb1; clear hb1 h7) | (go_at_call 12; refine (h8 _).mono ?_; rintro e w1 ⟨rfl, hb1⟩; replace B := Lib.hid (below_step B.out hb1); replace c0 := cell_keep c0 hb1; replace c1 := cell_keep c1 hb1; replace d0 := cell_keep d0 hb1; replace d1 := cell_keep d1 hb1; replace q0 := cell_keep q0 hb1; replace q1 := cell_keep q1 hb1; clear hb1 h8) | (go_at_call 16; refine (h9 _).mono ?_; rintro e w1 ⟨rfl, hb1⟩; replace B := Lib.hid (below_step B.out hb1); replace c0 := cell_keep c0 hb1; replace c1 := cell_keep c1 hb1; replace d0 := cell_keep d0 hb1; replace d1 := cell_keep d1 hb1; replace q0 := cell_keep q0 hb1; replace q1 := cell_keep q1 hb1; clear hb1 h9) | (go_at_call 16; refine (h10 _).mono ?_; rintro e w1 ⟨rfl, hb1⟩; replace B := Lib.hid (below_step B.out hb1); replace c0 := cell_keep c0 hb1; replace c1 := cell_keep c1 hb1; replace d0 := cell_keep d0 hb1; replace d1 := cell_keep d1 hb1; replace q0 := cell_keep q0 hb1; replace q1 := cell_keep q1 hb1; clear hb1 h10) | (go_at_call 15; refine (nawake_any _).mono ?_; rintro e w1 ⟨rfl, hb1⟩; replace B := Lib.hid (below_step B.out hb1); clear hb1))
          go_ret
          exact ⟨rfl, B.out⟩
      · rw [hr1, hr2] at h5
        clear hr1 hr2 h6
        rcases hcv with rfl | rfl | rfl
        all_goals
          first | replace h9 : ∀ w, Calls Try.prog 16 #[.agg #[.string (mkB x1), .string (mkB x2)], .agg #[.string (mkB y1), .string (mkB y2)]] w fun e w' => e = .returned (.bool true) ∧ Below w.heap.size w w' := h9 | replace h9 : ∀ w, Calls Try.prog 16 #[.agg #[.string (mkB x1), .string (mkB x2)], .agg #[.string (mkB y1), .string (mkB y2)]] w fun e w' => e = .returned (.bool false) ∧ Below w.heap.size w w' := h9
          first | replace h10 : ∀ w, Calls Try.prog 16 #[.agg #[.string (mkB y1), .string (mkB y2)], .agg #[.string (mkB x1), .string (mkB x2)]] w fun e w' => e = .returned (.bool true) ∧ Below w.heap.size w w' := h10 | replace h10 : ∀ w, Calls Try.prog 16 #[.agg #[.string (mkB y1), .string (mkB y2)], .agg #[.string (mkB x1), .string (mkB x2)]] w fun e w' => e = .returned (.bool false) ∧ Below w.heap.size w w' := h10
          go_upto_region 3 with (first | (go_at_call 10; refine (h1 _).mono ?_; rintro e w1 ⟨rfl, hb1⟩; replace B := Lib.hid (below_step B.out hb1); replace c0 := cell_keep c0 hb1; replace c1 := cell_keep c1 hb1; replace d0 := cell_keep d0 hb1; replace d1 := cell_keep d1 hb1; clear hb1 h1))
          refine wp_region_held_drew (S := fun w' => w'.cell? ⟨w.heap.size, 0, none⟩ = some (.string (mkB x1)) ∧ w'.cell? ⟨w.heap.size, 1, none⟩ = some (.string (mkB x2)) ∧ w'.cell? ⟨w.heap.size + 1, 0, none⟩ = some (.string (mkB y1)) ∧ w'.cell? ⟨w.heap.size + 1, 1, none⟩ = some (.string (mkB y2)) ∧ Below w.heap.size w w') (by kernel_rfl) (by exact ⟨cell_drew c0, cell_drew c1, cell_drew d0, cell_drew d1, below_step B.out (below_q ⟨1, rfl⟩)⟩) (fun hS => ?_)
          refine wpAnyH_take (i := 0) (v := ?_) rfl (by kernel_rfl) (by kernel_rfl) (by kernel_rfl) (fun _ _ _ h => h) (Or.inl ⟨by kernel_rfl, ?_⟩) hS ?_
          rotate_left
          · intro w hSw; (try dsimp only at hSw); go_simp; try (with_reducible rfl)
          simp only [Act.put, List.getElem_toArray, List.getElem_cons_zero, List.setIfInBounds_toArray, List.set_cons_zero, List.set_cons_succ]
          refine wpAnyH_take (i := 2) (v := ?_) rfl (by kernel_rfl) (by kernel_rfl) (by kernel_rfl) (fun _ _ _ h => h) (Or.inl ⟨by kernel_rfl, ?_⟩) hS ?_
          rotate_left
          · intro w hSw; (try dsimp only at hSw); go_simp; try (with_reducible rfl)
          simp only [Act.put, List.getElem_toArray, List.getElem_cons_succ, List.getElem_cons_zero, List.setIfInBounds_toArray, List.set_cons_zero, List.set_cons_succ]
          refine wpAnyH_ready (rs := [1]) (by kernel_rfl) (by simp) (AllReadyH.cons rfl (fun K hK => ?_) AllReadyH.nil)
          go_simp
          go_at_call 11; refine (h2 _).mono ?_; rintro e w1 ⟨rfl, hb1⟩; clear h2
          refine hK.out _ _ (by exact ⟨cell_keep hS.1 hb1, cell_keep hS.2.1 hb1, cell_keep hS.2.2.1 hb1, cell_keep hS.2.2.2.1 hb1, below_step hS.2.2.2.2 hb1⟩) (fun hS => ?_)
          clear hK K
          try simp only [Act.put, List.getElem_toArray, List.getElem_cons_succ, List.getElem_cons_zero, List.setIfInBounds_toArray, List.set_cons_zero, List.set_cons_succ]
          refine wpAnyH_ready (rs := [3]) (by kernel_rfl) (by simp) (AllReadyH.cons rfl (fun K hK => ?_) AllReadyH.nil)
          go_simp
          go_at_call 12; refine (h3 _).mono ?_; rintro e w1 ⟨rfl, hb1⟩; clear h3
          refine hK.out _ _ (by exact ⟨cell_keep hS.1 hb1, cell_keep hS.2.1 hb1, cell_keep hS.2.2.1 hb1, cell_keep hS.2.2.2.1 hb1, below_step hS.2.2.2.2 hb1⟩) (fun hS => ?_)
          clear hK K
          try simp only [Act.put, List.getElem_toArray, List.getElem_cons_succ, List.getElem_cons_zero, List.setIfInBounds_toArray, List.set_cons_zero, List.set_cons_succ]
          refine wpAnyH_take (i := 4) (v := ?_) rfl (by kernel_rfl) (by kernel_rfl) (by kernel_rfl) (fun _ _ _ h => h) (Or.inl ⟨by kernel_rfl, ?_⟩) hS ?_
          rotate_left
          · intro w hSw; (try dsimp only at hSw); go_simp; try (with_reducible rfl)
          simp only [Act.put, List.getElem_toArray, List.getElem_cons_succ, List.getElem_cons_zero, List.setIfInBounds_toArray, List.set_cons_zero, List.set_cons_succ]
          refine wpAnyH_take (i := 5) (v := ?_) rfl (by kernel_rfl) (by kernel_rfl) (by kernel_rfl) (fun _ _ _ h => h) (Or.inl ⟨by kernel_rfl, ?_⟩) hS ?_
          rotate_left
          · intro w hSw; (try dsimp only at hSw); go_simp; try (with_reducible rfl)
          simp only [Act.put, List.getElem_toArray, List.getElem_cons_succ, List.getElem_cons_zero, List.setIfInBounds_toArray, List.set_cons_zero, List.set_cons_succ]
          refine wpAnyH_take (i := 6) (v := ?_) rfl (by kernel_rfl) (by kernel_rfl) (by kernel_rfl) (fun _ _ _ h => h) (Or.inl ⟨by kernel_rfl, ?_⟩) hS ?_
          rotate_left
          · intro w hSw; (try dsimp only at hSw); go_simp; try (with_reducible rfl)
          simp only [Act.put, List.getElem_toArray, List.getElem_cons_succ, List.getElem_cons_zero, List.setIfInBounds_toArray, List.set_cons_zero, List.set_cons_succ]
          refine wpAnyH_take (i := 8) (v := ?_) rfl (by kernel_rfl) (by kernel_rfl) (by kernel_rfl) (fun _ _ _ h => h) (Or.inl ⟨by kernel_rfl, ?_⟩) hS ?_
          rotate_left
          · intro w hSw; (try dsimp only at hSw); go_simp; try (with_reducible rfl)
          simp only [Act.put, List.getElem_toArray, List.getElem_cons_succ, List.getElem_cons_zero, List.setIfInBounds_toArray, List.set_cons_zero, List.set_cons_succ]
          refine wpAnyH_take (i := 9) (v := ?_) rfl (by kernel_rfl) (by kernel_rfl) (by kernel_rfl) (fun _ _ _ h => h) (Or.inl ⟨by kernel_rfl, ?_⟩) hS ?_
          rotate_left
          · intro w hSw; (try dsimp only at hSw); go_simp; try (with_reducible rfl)
          simp only [Act.put, List.getElem_toArray, List.getElem_cons_succ, List.getElem_cons_zero, List.setIfInBounds_toArray, List.set_cons_zero, List.set_cons_succ]
          refine wpAnyH_take (i := 10) (v := ?_) rfl (by kernel_rfl) (by kernel_rfl) (by kernel_rfl) (fun _ _ _ h => h) (Or.inl ⟨by kernel_rfl, ?_⟩) hS ?_
          rotate_left
          · intro w hSw; (try dsimp only at hSw); go_simp; (first | rw [if_neg (by omega)] | rw [if_neg (by have h1 : (⟨#[64]⟩ : ByteArray).size = 1 := rfl; simp only [ByteArray.size_append]; omega)]); (try simp only [Result.andThen_ok]); try (with_reducible rfl)
          simp only [Act.put, List.getElem_toArray, List.getElem_cons_succ, List.getElem_cons_zero, List.setIfInBounds_toArray, List.set_cons_zero, List.set_cons_succ]
          refine wpAnyH_take (i := 11) (v := ?_) rfl (by kernel_rfl) (by kernel_rfl) (by kernel_rfl) (fun _ _ _ h => h) (Or.inl ⟨by kernel_rfl, ?_⟩) hS ?_
          rotate_left
          · intro w hSw; (try dsimp only at hSw); go_simp; try (with_reducible rfl)
          simp only [Act.put, List.getElem_toArray, List.getElem_cons_succ, List.getElem_cons_zero, List.setIfInBounds_toArray, List.set_cons_zero, List.set_cons_succ]
          refine wpAnyH_take (i := 12) (v := ?_) rfl (by kernel_rfl) (by kernel_rfl) (by kernel_rfl) (fun _ _ _ h => h) (Or.inl ⟨by kernel_rfl, ?_⟩) hS ?_
          rotate_left
          · intro w hSw; (try dsimp only at hSw); go_simp; try (with_reducible rfl)
          simp only [Act.put, List.getElem_toArray, List.getElem_cons_succ, List.getElem_cons_zero, List.setIfInBounds_toArray, List.set_cons_zero, List.set_cons_succ]
          refine wpAnyH_take (i := 13) (v := ?_) rfl (by kernel_rfl) (by kernel_rfl) (by kernel_rfl) (fun _ _ _ h => h) (Or.inl ⟨by kernel_rfl, ?_⟩) hS ?_
          rotate_left
          · intro w hSw; (try dsimp only at hSw); go_simp; (first | rw [if_neg (by omega)] | rw [if_neg (by have h1 : (⟨#[64]⟩ : ByteArray).size = 1 := rfl; simp only [ByteArray.size_append]; omega)]); (try simp only [Result.andThen_ok]); try (with_reducible rfl)
          simp only [Act.put, List.getElem_toArray, List.getElem_cons_succ, List.getElem_cons_zero, List.setIfInBounds_toArray, List.set_cons_zero, List.set_cons_succ]
          refine wpAnyH_ready (rs := [7]) (by kernel_rfl) (by simp) (AllReadyH.cons rfl (fun K hK => ?_) AllReadyH.nil)
          go_simp
          go_at_call 13; refine (h4 _).mono ?_; rintro e w1 ⟨rfl, hb1⟩; clear h4
          refine hK.out _ _ (by exact ⟨cell_keep hS.1 hb1, cell_keep hS.2.1 hb1, cell_keep hS.2.2.1 hb1, cell_keep hS.2.2.2.1 hb1, below_step hS.2.2.2.2 hb1⟩) (fun hS => ?_)
          clear hK K
          try simp only [Act.put, List.getElem_toArray, List.getElem_cons_succ, List.getElem_cons_zero, List.setIfInBounds_toArray, List.set_cons_zero, List.set_cons_succ]
          refine wpAnyH_take (i := 14) (v := ?_) rfl (by kernel_rfl) (by kernel_rfl) (by kernel_rfl) (fun _ _ _ h => h) (Or.inl ⟨by kernel_rfl, ?_⟩) hS ?_
          rotate_left
          · intro w hSw; (try dsimp only at hSw); go_simp; try (with_reducible rfl)
          simp only [Act.put, List.getElem_toArray, List.getElem_cons_succ, List.getElem_cons_zero, List.setIfInBounds_toArray, List.set_cons_zero, List.set_cons_succ]
          refine wpAnyH_take (i := 15) (v := ?_) rfl (by kernel_rfl) (by kernel_rfl) (by kernel_rfl) (fun _ _ _ h => h) (Or.inl ⟨by kernel_rfl, ?_⟩) hS ?_
          rotate_left
          · intro w hSw; (try dsimp only at hSw); go_simp; try (with_reducible rfl)
          simp only [Act.put, List.getElem_toArray, List.getElem_cons_succ, List.getElem_cons_zero, List.setIfInBounds_toArray, List.set_cons_zero, List.set_cons_succ]
          refine wpAnyH_done (by kernel_rfl) ?_ _
          obtain ⟨c0, c1, d0, d1, hbb⟩ := hS
          replace B := Lib.hid hbb
          clear hbb
          go_upto_region 6 with (first | (go_at_call 14; refine (h5 _).mono ?_; rintro e w1 ⟨rfl, hb1⟩; replace B := Lib.hid (below_step B.out hb1); replace c0 := cell_keep c0 hb1; replace c1 := cell_keep c1 hb1; replace d0 := cell_keep d0 hb1; replace d1 := cell_keep d1 hb1; clear hb1 h5))
          obtain ⟨X, g, hX, hg, q0, q1, hxb⟩ := boxB1 w1 (.string (mkB [])) (.string (mkB [])) 23
          have c0 := cell_keep c0 hxb; have c1 := cell_keep c1 hxb; have d0 := cell_keep d0 hxb; have d1 := cell_keep d1 hxb
          replace B := Lib.hid (below_step B.out hxb)
          rw [hX, hg]
          clear hX hg hxb
          go_wp2_with (first | (go_at_call 12; refine (h7 _).mono ?_; rintro e w1 ⟨rfl, hb1⟩; replace B := Lib.hid (below_step B.out hb1); replace c0 := cell_keep c0 hb1; replace c1 := cell_keep c1 hb1; replace d0 := cell_keep d0 hb1; replace d1 := cell_keep d1 hb1; replace q0 := cell_keep q0 hb1; replace q1 := cell_keep q1 hb1; clear hb1 h7) | (go_at_call 12; refine (h8 _).mono ?_; rintro e w1 ⟨rfl, hb1⟩; replace B := Lib.hid (below_step B.out hb1); replace c0 := cell_keep c0 hb1; replace c1 := cell_keep c1 hb1; replace d0 := cell_keep d0 hb1; replace d1 := cell_keep d1 hb1; replace q0 := cell_keep q0 hb1; replace q1 := cell_keep q1 hb1; clear hb1 h8) | (go_at_call 16; refine (h9 _).mono ?_; rintro e w1 ⟨rfl, hb1⟩; replace B := Lib.hid (below_step B.out hb1); replace c0 := cell_keep c0 hb1; replace c1 := cell_keep c1 hb1; replace d0 := cell_keep d0 hb1; replace d1 := cell_keep d1 hb1; replace q0 := cell_keep q0 hb1; replace q1 := cell_keep q1 hb1; clear hb1 h9) | (go_at_call 16; refine (h10 _).mono ?_; rintro e w1 ⟨rfl, hb1⟩; replace B := Lib.hid (below_step B.out hb1); replace c0 := cell_keep c0 hb1; replace c1 := cell_keep c1 hb1; replace d0 := cell_keep d0 hb1; replace d1 := cell_keep d1 hb1; replace q0 := cell_keep q0 hb1; replace q1 := cell_keep q1 hb1; clear hb1 h10) | (go_at_call 15; refine (nawake_any _).mono ?_; rintro e w1 ⟨rfl, hb1⟩; replace B := Lib.hid (below_step B.out hb1); clear hb1))
          go_ret
          exact ⟨rfl, B.out⟩
    · have hc1 : cmpNE (x1, x2) (y1, y2) = (0, 1) := cmpNE_no (by rw [hox, hoy]; cases ox <;> cases oy <;> simp_all)
      rw [hc1] at h1
      have hcv : (ox = false ∧ oy = false) ∨ (ox = false ∧ oy = true) ∨ (ox = true ∧ oy = false) := by cases ox <;> cases oy <;> simp_all
      clear hc1 hox hoy hall
      rcases hread with ⟨rfl, hr1, hr2, hr3⟩ | ⟨rfl, hr1, hr2⟩
      · rw [hr1, hr2] at h5
        clear hr1 hr2
        rcases hcv with ⟨rfl, rfl⟩ | ⟨rfl, rfl⟩ | ⟨rfl, rfl⟩
        all_goals
          go_upto_region 3 with (first | (go_at_call 10; refine (h1 _).mono ?_; rintro e w1 ⟨rfl, hb1⟩; replace B := Lib.hid (below_step B.out hb1); replace c0 := cell_keep c0 hb1; replace c1 := cell_keep c1 hb1; replace d0 := cell_keep d0 hb1; replace d1 := cell_keep d1 hb1; clear hb1 h1))
          refine wp_region_held_drew (S := fun w' => w'.cell? ⟨w.heap.size, 0, none⟩ = some (.string (mkB x1)) ∧ w'.cell? ⟨w.heap.size, 1, none⟩ = some (.string (mkB x2)) ∧ w'.cell? ⟨w.heap.size + 1, 0, none⟩ = some (.string (mkB y1)) ∧ w'.cell? ⟨w.heap.size + 1, 1, none⟩ = some (.string (mkB y2)) ∧ Below w.heap.size w w') (by kernel_rfl) (by exact ⟨cell_drew c0, cell_drew c1, cell_drew d0, cell_drew d1, below_step B.out (below_q ⟨1, rfl⟩)⟩) (fun hS => ?_)
          refine wpAnyH_take (i := 0) (v := ?_) rfl (by kernel_rfl) (by kernel_rfl) (by kernel_rfl) (fun _ _ _ h => h) (Or.inl ⟨by kernel_rfl, ?_⟩) hS ?_
          rotate_left
          · intro w hSw; (try dsimp only at hSw); go_simp; try (with_reducible rfl)
          simp only [Act.put, List.getElem_toArray, List.getElem_cons_zero, List.setIfInBounds_toArray, List.set_cons_zero, List.set_cons_succ]
          refine wpAnyH_take (i := 2) (v := ?_) rfl (by kernel_rfl) (by kernel_rfl) (by kernel_rfl) (fun _ _ _ h => h) (Or.inl ⟨by kernel_rfl, ?_⟩) hS ?_
          rotate_left
          · intro w hSw; (try dsimp only at hSw); go_simp; try (with_reducible rfl)
          simp only [Act.put, List.getElem_toArray, List.getElem_cons_succ, List.getElem_cons_zero, List.setIfInBounds_toArray, List.set_cons_zero, List.set_cons_succ]
          refine wpAnyH_ready (rs := [1]) (by kernel_rfl) (by simp) (AllReadyH.cons rfl (fun K hK => ?_) AllReadyH.nil)
          go_simp
          go_at_call 11; refine (h2 _).mono ?_; rintro e w1 ⟨rfl, hb1⟩; clear h2
          refine hK.out _ _ (by exact ⟨cell_keep hS.1 hb1, cell_keep hS.2.1 hb1, cell_keep hS.2.2.1 hb1, cell_keep hS.2.2.2.1 hb1, below_step hS.2.2.2.2 hb1⟩) (fun hS => ?_)
          clear hK K
          try simp only [Act.put, List.getElem_toArray, List.getElem_cons_succ, List.getElem_cons_zero, List.setIfInBounds_toArray, List.set_cons_zero, List.set_cons_succ]
          refine wpAnyH_ready (rs := [3]) (by kernel_rfl) (by simp) (AllReadyH.cons rfl (fun K hK => ?_) AllReadyH.nil)
          go_simp
          go_at_call 12; refine (h3 _).mono ?_; rintro e w1 ⟨rfl, hb1⟩; clear h3
          refine hK.out _ _ (by exact ⟨cell_keep hS.1 hb1, cell_keep hS.2.1 hb1, cell_keep hS.2.2.1 hb1, cell_keep hS.2.2.2.1 hb1, below_step hS.2.2.2.2 hb1⟩) (fun hS => ?_)
          clear hK K
          try simp only [Act.put, List.getElem_toArray, List.getElem_cons_succ, List.getElem_cons_zero, List.setIfInBounds_toArray, List.set_cons_zero, List.set_cons_succ]
          refine wpAnyH_take (i := 4) (v := ?_) rfl (by kernel_rfl) (by kernel_rfl) (by kernel_rfl) (fun _ _ _ h => h) (Or.inl ⟨by kernel_rfl, ?_⟩) hS ?_
          rotate_left
          · intro w hSw; (try dsimp only at hSw); go_simp; try (with_reducible rfl)
          simp only [Act.put, List.getElem_toArray, List.getElem_cons_succ, List.getElem_cons_zero, List.setIfInBounds_toArray, List.set_cons_zero, List.set_cons_succ]
          refine wpAnyH_take (i := 5) (v := ?_) rfl (by kernel_rfl) (by kernel_rfl) (by kernel_rfl) (fun _ _ _ h => h) (Or.inl ⟨by kernel_rfl, ?_⟩) hS ?_
          rotate_left
          · intro w hSw; (try dsimp only at hSw); go_simp; try (with_reducible rfl)
          simp only [Act.put, List.getElem_toArray, List.getElem_cons_succ, List.getElem_cons_zero, List.setIfInBounds_toArray, List.set_cons_zero, List.set_cons_succ]
          refine wpAnyH_take (i := 6) (v := ?_) rfl (by kernel_rfl) (by kernel_rfl) (by kernel_rfl) (fun _ _ _ h => h) (Or.inl ⟨by kernel_rfl, ?_⟩) hS ?_
          rotate_left
          · intro w hSw; (try dsimp only at hSw); go_simp; try (with_reducible rfl)
          simp only [Act.put, List.getElem_toArray, List.getElem_cons_succ, List.getElem_cons_zero, List.setIfInBounds_toArray, List.set_cons_zero, List.set_cons_succ]
          refine wpAnyH_take (i := 8) (v := ?_) rfl (by kernel_rfl) (by kernel_rfl) (by kernel_rfl) (fun _ _ _ h => h) (Or.inl ⟨by kernel_rfl, ?_⟩) hS ?_
          rotate_left
          · intro w hSw; (try dsimp only at hSw); go_simp; try (with_reducible rfl)
          simp only [Act.put, List.getElem_toArray, List.getElem_cons_succ, List.getElem_cons_zero, List.setIfInBounds_toArray, List.set_cons_zero, List.set_cons_succ]
          refine wpAnyH_take (i := 9) (v := ?_) rfl (by kernel_rfl) (by kernel_rfl) (by kernel_rfl) (fun _ _ _ h => h) (Or.inl ⟨by kernel_rfl, ?_⟩) hS ?_
          rotate_left
          · intro w hSw; (try dsimp only at hSw); go_simp; try (with_reducible rfl)
          simp only [Act.put, List.getElem_toArray, List.getElem_cons_succ, List.getElem_cons_zero, List.setIfInBounds_toArray, List.set_cons_zero, List.set_cons_succ]
          refine wpAnyH_take (i := 10) (v := ?_) rfl (by kernel_rfl) (by kernel_rfl) (by kernel_rfl) (fun _ _ _ h => h) (Or.inl ⟨by kernel_rfl, ?_⟩) hS ?_
          rotate_left
          · intro w hSw; (try dsimp only at hSw); go_simp; (first | rw [if_neg (by omega)] | rw [if_neg (by have h1 : (⟨#[64]⟩ : ByteArray).size = 1 := rfl; simp only [ByteArray.size_append]; omega)]); (try simp only [Result.andThen_ok]); try (with_reducible rfl)
          simp only [Act.put, List.getElem_toArray, List.getElem_cons_succ, List.getElem_cons_zero, List.setIfInBounds_toArray, List.set_cons_zero, List.set_cons_succ]
          refine wpAnyH_take (i := 11) (v := ?_) rfl (by kernel_rfl) (by kernel_rfl) (by kernel_rfl) (fun _ _ _ h => h) (Or.inl ⟨by kernel_rfl, ?_⟩) hS ?_
          rotate_left
          · intro w hSw; (try dsimp only at hSw); go_simp; try (with_reducible rfl)
          simp only [Act.put, List.getElem_toArray, List.getElem_cons_succ, List.getElem_cons_zero, List.setIfInBounds_toArray, List.set_cons_zero, List.set_cons_succ]
          refine wpAnyH_take (i := 12) (v := ?_) rfl (by kernel_rfl) (by kernel_rfl) (by kernel_rfl) (fun _ _ _ h => h) (Or.inl ⟨by kernel_rfl, ?_⟩) hS ?_
          rotate_left
          · intro w hSw; (try dsimp only at hSw); go_simp; try (with_reducible rfl)
          simp only [Act.put, List.getElem_toArray, List.getElem_cons_succ, List.getElem_cons_zero, List.setIfInBounds_toArray, List.set_cons_zero, List.set_cons_succ]
          refine wpAnyH_take (i := 13) (v := ?_) rfl (by kernel_rfl) (by kernel_rfl) (by kernel_rfl) (fun _ _ _ h => h) (Or.inl ⟨by kernel_rfl, ?_⟩) hS ?_
          rotate_left
          · intro w hSw; (try dsimp only at hSw); go_simp; (first | rw [if_neg (by omega)] | rw [if_neg (by have h1 : (⟨#[64]⟩ : ByteArray).size = 1 := rfl; simp only [ByteArray.size_append]; omega)]); (try simp only [Result.andThen_ok]); try (with_reducible rfl)
          simp only [Act.put, List.getElem_toArray, List.getElem_cons_succ, List.getElem_cons_zero, List.setIfInBounds_toArray, List.set_cons_zero, List.set_cons_succ]
          refine wpAnyH_ready (rs := [7]) (by kernel_rfl) (by simp) (AllReadyH.cons rfl (fun K hK => ?_) AllReadyH.nil)
          go_simp
          go_at_call 13; refine (h4 _).mono ?_; rintro e w1 ⟨rfl, hb1⟩; clear h4
          refine hK.out _ _ (by exact ⟨cell_keep hS.1 hb1, cell_keep hS.2.1 hb1, cell_keep hS.2.2.1 hb1, cell_keep hS.2.2.2.1 hb1, below_step hS.2.2.2.2 hb1⟩) (fun hS => ?_)
          clear hK K
          try simp only [Act.put, List.getElem_toArray, List.getElem_cons_succ, List.getElem_cons_zero, List.setIfInBounds_toArray, List.set_cons_zero, List.set_cons_succ]
          refine wpAnyH_take (i := 14) (v := ?_) rfl (by kernel_rfl) (by kernel_rfl) (by kernel_rfl) (fun _ _ _ h => h) (Or.inl ⟨by kernel_rfl, ?_⟩) hS ?_
          rotate_left
          · intro w hSw; (try dsimp only at hSw); go_simp; try (with_reducible rfl)
          simp only [Act.put, List.getElem_toArray, List.getElem_cons_succ, List.getElem_cons_zero, List.setIfInBounds_toArray, List.set_cons_zero, List.set_cons_succ]
          refine wpAnyH_take (i := 15) (v := ?_) rfl (by kernel_rfl) (by kernel_rfl) (by kernel_rfl) (fun _ _ _ h => h) (Or.inl ⟨by kernel_rfl, ?_⟩) hS ?_
          rotate_left
          · intro w hSw; (try dsimp only at hSw); go_simp; try (with_reducible rfl)
          simp only [Act.put, List.getElem_toArray, List.getElem_cons_succ, List.getElem_cons_zero, List.setIfInBounds_toArray, List.set_cons_zero, List.set_cons_succ]
          refine wpAnyH_done (by kernel_rfl) ?_ _
          obtain ⟨c0, c1, d0, d1, hbb⟩ := hS
          replace B := Lib.hid hbb
          clear hbb
          go_upto_region 6 with (first | (go_at_call 14; refine (h5 _).mono ?_; rintro e w1 ⟨rfl, hb1⟩; replace B := Lib.hid (below_step B.out hb1); replace c0 := cell_keep c0 hb1; replace c1 := cell_keep c1 hb1; replace d0 := cell_keep d0 hb1; replace d1 := cell_keep d1 hb1; clear hb1 h5))
          obtain ⟨X, g, hX, hg, q0, q1, hxb⟩ := boxB1 w1 (.string (mkB p)) (.string (mkB v)) 23
          have c0 := cell_keep c0 hxb; have c1 := cell_keep c1 hxb; have d0 := cell_keep d0 hxb; have d1 := cell_keep d1 hxb
          replace B := Lib.hid (below_step B.out hxb)
          rw [hX, hg]
          clear hX hg hxb
          go_wp2_with (first | (go_at_call 12; refine (h6 _).mono ?_; rintro e w1 ⟨rfl, hb1⟩; replace B := Lib.hid (below_step B.out hb1); replace c0 := cell_keep c0 hb1; replace c1 := cell_keep c1 hb1; replace d0 := cell_keep d0 hb1; replace d1 := cell_keep d1 hb1; replace q0 := cell_keep q0 hb1; replace q1 := cell_keep q1 hb1; clear hb1 h6) | (go_at_call 12; refine (h7 _).mono ?_; rintro e w1 ⟨rfl, hb1⟩; replace B := Lib.hid (below_step B.out hb1); replace c0 := cell_keep c0 hb1; replace c1 := cell_keep c1 hb1; replace d0 := cell_keep d0 hb1; replace d1 := cell_keep d1 hb1; replace q0 := cell_keep q0 hb1; replace q1 := cell_keep q1 hb1; clear hb1 h7) | (go_at_call 12; refine (h8 _).mono ?_; rintro e w1 ⟨rfl, hb1⟩; replace B := Lib.hid (below_step B.out hb1); replace c0 := cell_keep c0 hb1; replace c1 := cell_keep c1 hb1; replace d0 := cell_keep d0 hb1; replace d1 := cell_keep d1 hb1; replace q0 := cell_keep q0 hb1; replace q1 := cell_keep q1 hb1; clear hb1 h8) | (go_at_call 15; refine (nawake_any _).mono ?_; rintro e w1 ⟨rfl, hb1⟩; replace B := Lib.hid (below_step B.out hb1); clear hb1))
          go_ret
          exact ⟨rfl, B.out⟩
      · rw [hr1, hr2] at h5
        clear hr1 hr2 h6
        rcases hcv with ⟨rfl, rfl⟩ | ⟨rfl, rfl⟩ | ⟨rfl, rfl⟩
        all_goals
          go_upto_region 3 with (first | (go_at_call 10; refine (h1 _).mono ?_; rintro e w1 ⟨rfl, hb1⟩; replace B := Lib.hid (below_step B.out hb1); replace c0 := cell_keep c0 hb1; replace c1 := cell_keep c1 hb1; replace d0 := cell_keep d0 hb1; replace d1 := cell_keep d1 hb1; clear hb1 h1))
          refine wp_region_held_drew (S := fun w' => w'.cell? ⟨w.heap.size, 0, none⟩ = some (.string (mkB x1)) ∧ w'.cell? ⟨w.heap.size, 1, none⟩ = some (.string (mkB x2)) ∧ w'.cell? ⟨w.heap.size + 1, 0, none⟩ = some (.string (mkB y1)) ∧ w'.cell? ⟨w.heap.size + 1, 1, none⟩ = some (.string (mkB y2)) ∧ Below w.heap.size w w') (by kernel_rfl) (by exact ⟨cell_drew c0, cell_drew c1, cell_drew d0, cell_drew d1, below_step B.out (below_q ⟨1, rfl⟩)⟩) (fun hS => ?_)
          refine wpAnyH_take (i := 0) (v := ?_) rfl (by kernel_rfl) (by kernel_rfl) (by kernel_rfl) (fun _ _ _ h => h) (Or.inl ⟨by kernel_rfl, ?_⟩) hS ?_
          rotate_left
          · intro w hSw; (try dsimp only at hSw); go_simp; try (with_reducible rfl)
          simp only [Act.put, List.getElem_toArray, List.getElem_cons_zero, List.setIfInBounds_toArray, List.set_cons_zero, List.set_cons_succ]
          refine wpAnyH_take (i := 2) (v := ?_) rfl (by kernel_rfl) (by kernel_rfl) (by kernel_rfl) (fun _ _ _ h => h) (Or.inl ⟨by kernel_rfl, ?_⟩) hS ?_
          rotate_left
          · intro w hSw; (try dsimp only at hSw); go_simp; try (with_reducible rfl)
          simp only [Act.put, List.getElem_toArray, List.getElem_cons_succ, List.getElem_cons_zero, List.setIfInBounds_toArray, List.set_cons_zero, List.set_cons_succ]
          refine wpAnyH_ready (rs := [1]) (by kernel_rfl) (by simp) (AllReadyH.cons rfl (fun K hK => ?_) AllReadyH.nil)
          go_simp
          go_at_call 11; refine (h2 _).mono ?_; rintro e w1 ⟨rfl, hb1⟩; clear h2
          refine hK.out _ _ (by exact ⟨cell_keep hS.1 hb1, cell_keep hS.2.1 hb1, cell_keep hS.2.2.1 hb1, cell_keep hS.2.2.2.1 hb1, below_step hS.2.2.2.2 hb1⟩) (fun hS => ?_)
          clear hK K
          try simp only [Act.put, List.getElem_toArray, List.getElem_cons_succ, List.getElem_cons_zero, List.setIfInBounds_toArray, List.set_cons_zero, List.set_cons_succ]
          refine wpAnyH_ready (rs := [3]) (by kernel_rfl) (by simp) (AllReadyH.cons rfl (fun K hK => ?_) AllReadyH.nil)
          go_simp
          go_at_call 12; refine (h3 _).mono ?_; rintro e w1 ⟨rfl, hb1⟩; clear h3
          refine hK.out _ _ (by exact ⟨cell_keep hS.1 hb1, cell_keep hS.2.1 hb1, cell_keep hS.2.2.1 hb1, cell_keep hS.2.2.2.1 hb1, below_step hS.2.2.2.2 hb1⟩) (fun hS => ?_)
          clear hK K
          try simp only [Act.put, List.getElem_toArray, List.getElem_cons_succ, List.getElem_cons_zero, List.setIfInBounds_toArray, List.set_cons_zero, List.set_cons_succ]
          refine wpAnyH_take (i := 4) (v := ?_) rfl (by kernel_rfl) (by kernel_rfl) (by kernel_rfl) (fun _ _ _ h => h) (Or.inl ⟨by kernel_rfl, ?_⟩) hS ?_
          rotate_left
          · intro w hSw; (try dsimp only at hSw); go_simp; try (with_reducible rfl)
          simp only [Act.put, List.getElem_toArray, List.getElem_cons_succ, List.getElem_cons_zero, List.setIfInBounds_toArray, List.set_cons_zero, List.set_cons_succ]
          refine wpAnyH_take (i := 5) (v := ?_) rfl (by kernel_rfl) (by kernel_rfl) (by kernel_rfl) (fun _ _ _ h => h) (Or.inl ⟨by kernel_rfl, ?_⟩) hS ?_
          rotate_left
          · intro w hSw; (try dsimp only at hSw); go_simp; try (with_reducible rfl)
          simp only [Act.put, List.getElem_toArray, List.getElem_cons_succ, List.getElem_cons_zero, List.setIfInBounds_toArray, List.set_cons_zero, List.set_cons_succ]
          refine wpAnyH_take (i := 6) (v := ?_) rfl (by kernel_rfl) (by kernel_rfl) (by kernel_rfl) (fun _ _ _ h => h) (Or.inl ⟨by kernel_rfl, ?_⟩) hS ?_
          rotate_left
          · intro w hSw; (try dsimp only at hSw); go_simp; try (with_reducible rfl)
          simp only [Act.put, List.getElem_toArray, List.getElem_cons_succ, List.getElem_cons_zero, List.setIfInBounds_toArray, List.set_cons_zero, List.set_cons_succ]
          refine wpAnyH_take (i := 8) (v := ?_) rfl (by kernel_rfl) (by kernel_rfl) (by kernel_rfl) (fun _ _ _ h => h) (Or.inl ⟨by kernel_rfl, ?_⟩) hS ?_
          rotate_left
          · intro w hSw; (try dsimp only at hSw); go_simp; try (with_reducible rfl)
          simp only [Act.put, List.getElem_toArray, List.getElem_cons_succ, List.getElem_cons_zero, List.setIfInBounds_toArray, List.set_cons_zero, List.set_cons_succ]
          refine wpAnyH_take (i := 9) (v := ?_) rfl (by kernel_rfl) (by kernel_rfl) (by kernel_rfl) (fun _ _ _ h => h) (Or.inl ⟨by kernel_rfl, ?_⟩) hS ?_
          rotate_left
          · intro w hSw; (try dsimp only at hSw); go_simp; try (with_reducible rfl)
          simp only [Act.put, List.getElem_toArray, List.getElem_cons_succ, List.getElem_cons_zero, List.setIfInBounds_toArray, List.set_cons_zero, List.set_cons_succ]
          refine wpAnyH_take (i := 10) (v := ?_) rfl (by kernel_rfl) (by kernel_rfl) (by kernel_rfl) (fun _ _ _ h => h) (Or.inl ⟨by kernel_rfl, ?_⟩) hS ?_
          rotate_left
          · intro w hSw; (try dsimp only at hSw); go_simp; (first | rw [if_neg (by omega)] | rw [if_neg (by have h1 : (⟨#[64]⟩ : ByteArray).size = 1 := rfl; simp only [ByteArray.size_append]; omega)]); (try simp only [Result.andThen_ok]); try (with_reducible rfl)
          simp only [Act.put, List.getElem_toArray, List.getElem_cons_succ, List.getElem_cons_zero, List.setIfInBounds_toArray, List.set_cons_zero, List.set_cons_succ]
          refine wpAnyH_take (i := 11) (v := ?_) rfl (by kernel_rfl) (by kernel_rfl) (by kernel_rfl) (fun _ _ _ h => h) (Or.inl ⟨by kernel_rfl, ?_⟩) hS ?_
          rotate_left
          · intro w hSw; (try dsimp only at hSw); go_simp; try (with_reducible rfl)
          simp only [Act.put, List.getElem_toArray, List.getElem_cons_succ, List.getElem_cons_zero, List.setIfInBounds_toArray, List.set_cons_zero, List.set_cons_succ]
          refine wpAnyH_take (i := 12) (v := ?_) rfl (by kernel_rfl) (by kernel_rfl) (by kernel_rfl) (fun _ _ _ h => h) (Or.inl ⟨by kernel_rfl, ?_⟩) hS ?_
          rotate_left
          · intro w hSw; (try dsimp only at hSw); go_simp; try (with_reducible rfl)
          simp only [Act.put, List.getElem_toArray, List.getElem_cons_succ, List.getElem_cons_zero, List.setIfInBounds_toArray, List.set_cons_zero, List.set_cons_succ]
          refine wpAnyH_take (i := 13) (v := ?_) rfl (by kernel_rfl) (by kernel_rfl) (by kernel_rfl) (fun _ _ _ h => h) (Or.inl ⟨by kernel_rfl, ?_⟩) hS ?_
          rotate_left
          · intro w hSw; (try dsimp only at hSw); go_simp; (first | rw [if_neg (by omega)] | rw [if_neg (by have h1 : (⟨#[64]⟩ : ByteArray).size = 1 := rfl; simp only [ByteArray.size_append]; omega)]); (try simp only [Result.andThen_ok]); try (with_reducible rfl)
          simp only [Act.put, List.getElem_toArray, List.getElem_cons_succ, List.getElem_cons_zero, List.setIfInBounds_toArray, List.set_cons_zero, List.set_cons_succ]
          refine wpAnyH_ready (rs := [7]) (by kernel_rfl) (by simp) (AllReadyH.cons rfl (fun K hK => ?_) AllReadyH.nil)
          go_simp
          go_at_call 13; refine (h4 _).mono ?_; rintro e w1 ⟨rfl, hb1⟩; clear h4
          refine hK.out _ _ (by exact ⟨cell_keep hS.1 hb1, cell_keep hS.2.1 hb1, cell_keep hS.2.2.1 hb1, cell_keep hS.2.2.2.1 hb1, below_step hS.2.2.2.2 hb1⟩) (fun hS => ?_)
          clear hK K
          try simp only [Act.put, List.getElem_toArray, List.getElem_cons_succ, List.getElem_cons_zero, List.setIfInBounds_toArray, List.set_cons_zero, List.set_cons_succ]
          refine wpAnyH_take (i := 14) (v := ?_) rfl (by kernel_rfl) (by kernel_rfl) (by kernel_rfl) (fun _ _ _ h => h) (Or.inl ⟨by kernel_rfl, ?_⟩) hS ?_
          rotate_left
          · intro w hSw; (try dsimp only at hSw); go_simp; try (with_reducible rfl)
          simp only [Act.put, List.getElem_toArray, List.getElem_cons_succ, List.getElem_cons_zero, List.setIfInBounds_toArray, List.set_cons_zero, List.set_cons_succ]
          refine wpAnyH_take (i := 15) (v := ?_) rfl (by kernel_rfl) (by kernel_rfl) (by kernel_rfl) (fun _ _ _ h => h) (Or.inl ⟨by kernel_rfl, ?_⟩) hS ?_
          rotate_left
          · intro w hSw; (try dsimp only at hSw); go_simp; try (with_reducible rfl)
          simp only [Act.put, List.getElem_toArray, List.getElem_cons_succ, List.getElem_cons_zero, List.setIfInBounds_toArray, List.set_cons_zero, List.set_cons_succ]
          refine wpAnyH_done (by kernel_rfl) ?_ _
          obtain ⟨c0, c1, d0, d1, hbb⟩ := hS
          replace B := Lib.hid hbb
          clear hbb
          go_upto_region 6 with (first | (go_at_call 14; refine (h5 _).mono ?_; rintro e w1 ⟨rfl, hb1⟩; replace B := Lib.hid (below_step B.out hb1); replace c0 := cell_keep c0 hb1; replace c1 := cell_keep c1 hb1; replace d0 := cell_keep d0 hb1; replace d1 := cell_keep d1 hb1; clear hb1 h5))
          obtain ⟨X, g, hX, hg, q0, q1, hxb⟩ := boxB1 w1 (.string (mkB [])) (.string (mkB [])) 23
          have c0 := cell_keep c0 hxb; have c1 := cell_keep c1 hxb; have d0 := cell_keep d0 hxb; have d1 := cell_keep d1 hxb
          replace B := Lib.hid (below_step B.out hxb)
          rw [hX, hg]
          clear hX hg hxb
          go_wp2_with (first | (go_at_call 12; refine (h7 _).mono ?_; rintro e w1 ⟨rfl, hb1⟩; replace B := Lib.hid (below_step B.out hb1); replace c0 := cell_keep c0 hb1; replace c1 := cell_keep c1 hb1; replace d0 := cell_keep d0 hb1; replace d1 := cell_keep d1 hb1; replace q0 := cell_keep q0 hb1; replace q1 := cell_keep q1 hb1; clear hb1 h7) | (go_at_call 12; refine (h8 _).mono ?_; rintro e w1 ⟨rfl, hb1⟩; replace B := Lib.hid (below_step B.out hb1); replace c0 := cell_keep c0 hb1; replace c1 := cell_keep c1 hb1; replace d0 := cell_keep d0 hb1; replace d1 := cell_keep d1 hb1; replace q0 := cell_keep q0 hb1; replace q1 := cell_keep q1 hb1; clear hb1 h8) | (go_at_call 15; refine (nawake_any _).mono ?_; rintro e w1 ⟨rfl, hb1⟩; replace B := Lib.hid (below_step B.out hb1); clear hb1))
          go_ret
          exact ⟨rfl, B.out⟩

theorem own : ownKnob Try.prog.godebug = none := by kernel_rfl
theorem laidOut : laidOutB Try.prog = true := by kernel_rfl

set_option maxRecDepth 100000 in
theorem lifted (os : Os) (started : os.Started) (H : Type) (enc : TypeId × Value → H) :
    ReturnsInHanded {} Try.checked os 3 .any (Rows.nodeTellsSpec.pre6 enc Try.prog Try.f3 Rows.nodeTellsRow.domain false) (Rows.nodeTellsSpec.post enc Try.prog Try.f3 false true false false) := by
  refine returnsInHanded_of_change (C := Try.checked) own started (by kernel_rfl) Try.func3
    (ChangeSpec.witness6 (enc := enc) (C := Try.checked) false ⟨#[], #[.agg #[.string ByteArray.empty, .string ByteArray.empty], .agg #[.string ByteArray.empty, .string ByteArray.empty], .string ByteArray.empty], []⟩ 8 (by kernel_rfl) (by kernel_rfl) (by kernel_rfl) (by kernel_rfl)) ?_
  intro W base args ds gs before hval0 hW hcnd _
  have hval : ∀ (j : Nat) t v, Try.f3.params[j]? = some t → args[j]? = some v → Value.okWide Try.prog W .any base t v := hval0
  have hW' := hW
  obtain ⟨p, q, hA0, hV, rfl, hfz, hnd⟩ := hW
  have hA : DataW.TrodAll enc Try.prog W 0 (fun _ => true) true Try.f3.params.toList args.toList ds p := hA0
  rw [Try.params3] at hA hval
  obtain ⟨v0, vs0, d0, ds0, p0, q0, hargs, rfl, rfl, h0, r0⟩ := trodAll_cons hA
  obtain ⟨v1, vs1, d1, ds1, p1, q1, rfl, rfl, rfl, h1, r1⟩ := trodAll_cons r0
  obtain ⟨v2, vs2, d2, ds2, p2, q2, rfl, rfl, rfl, h2, r2⟩ := trodAll_cons r1
  obtain ⟨rfl, rfl, rfl⟩ := trodAll_nil r2
  obtain rfl : args = #[v0, v1, v2] := by cases args; simp_all
  obtain ⟨rfl, rfl⟩ := trodVars_none hV
  have k0 := h0
  have lt0 : ∀ x ∈ p0, x.block < W.heap.size := by obtain ⟨m, hm⟩ := k0; exact DataW.trod_lt m _ _ _ hm
  obtain ⟨z0, w0⟩ := node_open (hval 0 23 v0 rfl rfl) h0
  have k1 := h1
  have lt1 : ∀ x ∈ p1, x.block < W.heap.size := by obtain ⟨m, hm⟩ := k1; exact DataW.trod_lt m _ _ _ hm
  obtain ⟨z1, w1⟩ := node_open (hval 1 23 v1 rfl rfl) h1
  obtain ⟨a2, rfl, rfl, rfl, w2⟩ := open_string Try.underlying9 (hval 2 9 v2 rfl rfl) h2
  clear hA0 hval0
  refine (walk _ z0 _ z1 a2 W w0 w1 w2).mono fun e W' ⟨he, bel⟩ => ?_
  subst he
  exact ⟨_, rfl, _, _, _, [], _, [], hW', trodAll_mk1 (shut_bool Try.underlying4 _), (trodAll_cons_mk (Below.trod laidOut (by kernel_rfl) (of_decide_eq_true (by kernel_rfl)) k0 bel lt0) (trodAll_cons_mk (Below.trod laidOut (by kernel_rfl) (of_decide_eq_true (by kernel_rfl)) k1 bel lt1) (trodAll_cons_mk (shut_string Try.underlying9 w2) trodAll_mk0))), rfl, bel.frame _, fun h => by cases h⟩

-- the given statement
theorem proved : Rows.NodeTellsSaid :=
  OpenClaim.holds_of_wide 3 Try.f3 rfl rfl rfl rfl rfl rfl rfl ⟨rfl, rfl, rfl, rfl, rfl⟩ rfl rfl rfl rfl rfl (by kernel_rfl) Try.func3 (by kernel_rfl)
    (of_decide_eq_true (by kernel_rfl)) (by unfold Func.isWrapper; first | (rw [if_pos (by decide +kernel)]; kernel_rfl) | (rw [if_neg (by decide +kernel)]; exact ⟨rfl, rfl⟩))
    (fun os started H enc _ => lifted os started H enc)
end Go.Proofs.Ytijhdjdjnolpcaa.nodeTells
