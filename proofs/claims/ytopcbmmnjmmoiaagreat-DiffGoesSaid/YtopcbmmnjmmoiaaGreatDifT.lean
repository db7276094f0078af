/- THE TEXTS OF DifP DifQ DifR DifT: Two lists of edits' sameness; some edits of a list; the chapter's examples. The chapter's examples. The document's own: how often, by how many, Diff, Both. The document's own Diff, and Both. -/
import Derived.Test.YtopcbmmnjmmoiaaGreatDifN
import Derived.Test.YtopcbmmnjmmoiaaGreatNodS
namespace Go.Proofs.YtopcbmmnjmmoiaaGreat
open Go.RowKit
set_option linter.unusedVariables false
set_option maxRecDepth 100000

/-! ### Are two lists the same -/
set_option maxHeartbeats 1600000 in
theorem dsame_any (U V : Value) (ns ms : List De) (w : World) (hu : Dfs w U ns) (hv : Dfs w V ms) :
    Calls Tryz.prog 11 #[U, V] w fun e w' => e = .returned (.bool (decide (ns = ms))) ∧ Below w.heap.size w w' := by
  obtain ⟨a, c, rfl, h1, h2, -, -⟩ := hu.ex
  obtain ⟨a', c', rfl, h1', h2', -, -⟩ := hv.ex
  unfold maxLen at h2 h2'
  obtain ⟨n, hn⟩ : ∃ n, ns.length = n := ⟨_, rfl⟩
  obtain ⟨m, hm⟩ : ∃ m, ms.length = m := ⟨_, rfl⟩
  rw [hn] at h1 hu ⊢
  rw [hm] at h1' hv ⊢
  obtain ⟨R, hR⟩ : ∃ R, decide (ns = ms) = R := ⟨_, rfl⟩
  rw [hR]
  have HN := Lib.hid hn; have HM := Lib.hid hm; have SU := Lib.hid hu; have SV := Lib.hid hv; have HR := Lib.hid hR
  clear hu hv hn hm hR
  by_cases hl : n = m
  · subst hl
    have h0 : ((n : Int) != (n : Int)) = false := by simp
    go_enter Tryz.func11, Tryz.ntmps11
    go_wp2
    go_loopw [5] (fun i wr => ∃ k q : Nat, k ≤ n ∧ i = .int .i64 k ∧ wr = w.drewN q ∧ Hid (ns.take k = ms.take k)) (fun i _ => n - (intOf i).toNat)
    case atStart => exact ⟨0, 0, Nat.zero_le _, rfl, rfl, Lib.hid (by simp)⟩
    case round =>
      obtain ⟨k, q, hk, rfl, rfl, H⟩ := hrel
      by_cases hlt : k < n
      · have hkl : k < ns.length := by rw [HN.out]; exact hlt
        have hkm : k < ms.length := by rw [HM.out]; exact hlt
        obtain ⟨Wq, hWq⟩ : ∃ Wq, w.drewN q = Wq := ⟨_, rfl⟩
        have hbq : Below w.heap.size w Wq := by rw [← hWq]; exact below_q ⟨q, rfl⟩
        obtain ⟨b, off, rfl, -, hc0, hc1, hc2⟩ := (SU.out.below hbq).at k hkl
        obtain ⟨b', off', rfl, -, hd0, hd1, hd2⟩ := (SV.out.below hbq).at k hkm
        obtain ⟨x, hx⟩ : ∃ x, x = ns.getD k zD := ⟨_, rfl⟩
        obtain ⟨y, hy⟩ : ∃ y, y = ms.getD k zD := ⟨_, rfl⟩
        rw [← hx] at hc0 hc1 hc2
        rw [← hy] at hd0 hd1 hd2
        have e1 : ns.take (k + 1) = ns.take k ++ [x] := by rw [List.take_succ_eq_append_getElem hkl, hx, df_getD hkl]
        have e2 : ms.take (k + 1) = ms.take k ++ [y] := by rw [List.take_succ_eq_append_getElem hkm, hy, df_getD hkm]
        obtain ⟨⟨x1, x2⟩, x3⟩ := x
        obtain ⟨⟨y1, y2⟩, y3⟩ := y
        simp only at hc0 hc1 hc2 hd0 hd1 hd2
        rw [hWq]
        have HWq := Lib.hid hWq; have E1 := Lib.hid e1; have E2 := Lib.hid e2; clear hx hy hbq hWq e1 e2
        have hgd := guard_df
        have heq := neq_df x1 x2 y1 y2 x3 y3
        obtain ⟨o, ho⟩ : ∃ o, decide (((x1, x2), x3) = ((y1, y2), y3)) = o := ⟨_, rfl⟩
        rw [ho] at heq
        have HO := Lib.hid ho; clear ho
        have hkb : (k : Int) < (n : Int) := by omega
        cases o
        · simp only [Bool.not_false] at heq
          go_wp2_with fail
          go_quiet (fail)
          go_wp2
          go_ret
          refine ⟨?_, below_step (below_q ⟨q, HWq.out.symm⟩) (below_q ⟨nq, rfl⟩)⟩
          rw [← HR.out, decide_eq_false fun e => ?_]
          · rfl
          · have h5 := E1.out
            rw [e, E2.out] at h5
            have h6 := List.append_inj_right' h5 rfl
            simp only [List.cons.injEq, and_true] at h6
            have := of_decide_eq_false HO.out
            exact this h6.symm
        · simp only [Bool.not_true] at heq
          go_wp2_with fail
          go_quiet (fail)
          go_wp2
          have H5 : Hid (ns.take (k + 1) = ms.take (k + 1)) := Lib.hid (by rw [E1.out, E2.out, H.out, of_decide_eq_true HO.out])
          go_roundw
          case rel => exact ⟨k + 1, q + nq, by omega, by go_num, by rw [← HWq.out, World.drewN_drewN], H5⟩
          case measure => simp [intOf]; omega
      · go_wp2
        go_ret
        refine ⟨?_, below_q ⟨q, rfl⟩⟩
        have e : k = n := by omega
        subst e
        have h5 := H.out
        rw [List.take_of_length_le (by rw [HN.out]; exact Nat.le_refl _), List.take_of_length_le (by rw [HM.out]; exact Nat.le_refl _)] at h5
        rw [← HR.out, decide_eq_true h5]; rfl
  · have h0 : ((n : Int) != (m : Int)) = true := by simp; omega
    have HL := Lib.hid hl; clear hl
    go_enter Tryz.func11, Tryz.ntmps11
    go_wp2
    go_ret
    refine ⟨?_, Below.refl _ _⟩
    rw [← HR.out, decide_eq_false fun e => HL.out (by rw [← HN.out, ← HM.out, e])]; rfl

/-! ### Some edits of a list -/
def fewDs (l : List De) : List De := (l.take 20).map fun e => (oneN e.1, e.2)
theorem fewDs_len (l : List De) : (fewDs l).length ≤ 20 := by unfold fewDs; rw [List.length_map, List.length_take]; omega
theorem fewDs_small {l : List De} (h : ∀ e ∈ l, fitD e) : ∀ e ∈ fewDs l, smallD e := fun e he => by
  obtain ⟨x, hx, rfl⟩ := List.mem_map.1 he
  exact ⟨oneN_small x.1, (h x (List.mem_of_mem_take hx)).2⟩
theorem fewDs_succ {l : List De} {k : Nat} (h : k < l.length) : (l.take (k + 1)).map (fun e : De => (oneN e.1, e.2)) = (l.take k).map (fun e : De => (oneN e.1, e.2)) ++ [(oneN (l.getD k zD).1, (l.getD k zD).2)] := by
  rw [List.take_succ_eq_append_getElem h, List.map_append, df_getD h]; rfl
set_option maxHeartbeats 3200000 in
theorem dfewo_any (V : Value) (l : List De) (w : World) (hV : Dfs w V l) (hf : ∀ e ∈ l, fitD e) :
    Calls Tryz.prog 14 #[V] w fun e w' => ∃ v, e = .returned v ∧ w'.ownsRow w.heap.size 42 3 v (fewDs l).length (dfC (fewDs l)) ∧ Below w.heap.size w w' := by
  obtain ⟨a, c, rfl, h1, h2, -, -⟩ := hV.ex
  unfold maxLen at h2
  obtain ⟨n, hn⟩ : ∃ n, l.length = n := ⟨_, rfl⟩
  obtain ⟨L, hL⟩ : ∃ L, fewDs l = L := ⟨_, rfl⟩
  rw [hL]
  rw [hn] at h1 hV ⊢
  have SV := Lib.hid hV; have HN := Lib.hid hn; have HF := Lib.hid hf; have HL := Lib.hid hL
  have e1 : ∀ args w, (callFunc 20 args).run Tryz.prog w = .ok (.enter 20 args) w := enters_of Tryz.func20 (by kernel_rfl) rfl
  clear hV hn hf hL
  go_enter Tryz.func14, Tryz.ntmps14
  go_wp2
  go_loopw [3, 4] (fun v i wr => ∃ (k : Nat) (acc : List De), k ≤ n ∧ k ≤ 20 ∧ i = .int .i64 k ∧ acc.length = k ∧ Hid (acc = (l.take k).map fun e : De => (oneN e.1, e.2)) ∧ wr.ownsRow w.heap.size 42 3 v acc.length (dfC acc) ∧ Hid (Below w.heap.size w wr)) (fun _ i _ => n - (intOf i).toNat)
  case atStart => exact ⟨0, [], Nat.zero_le _, Nat.zero_le _, rfl, rfl, Lib.hid (by simp), dfs_row0 _ _, Lib.hid (Below.refl _ _)⟩
  case round =>
    obtain ⟨k, acc, hkn, hk8, rfl, hal, HACC, hown, HB⟩ := hrel
    by_cases hlt : k < n
    · by_cases h8 : k < 20
      · have hkl : k < l.length := by rw [HN.out]; exact hlt
        obtain ⟨b, off, rfl, -, cw0, cw1, cw2⟩ := SV.out.at k hkl
        have htk := fewDs_succ hkl
        have hsy : fitD (l.getD k zD) := HF.out _ (df_mem hkl)
        obtain ⟨y, hy⟩ : ∃ y, y = l.getD k zD := ⟨_, rfl⟩
        rw [← hy] at cw0 cw1 cw2 htk hsy
        obtain ⟨⟨y1, y2⟩, z⟩ := y
        simp only at cw0 cw1 cw2
        have KO := Lib.hid fun w => one_any y1 y2 w hsy.1.1 hsy.1.2
        obtain ⟨L2, hl2⟩ : ∃ L, L = acc ++ [((fewL y1, fewL y2), z)] := ⟨_, rfl⟩
        have HL2E := Lib.hid hl2; have HOWN := Lib.hid hown; have HTK := Lib.hid htk; have HAL := Lib.hid hal; have HLT := Lib.hid hlt; have HBS := Lib.hid HB.out.size
        have hl2n : L2.length = k + 1 := by rw [hl2, List.length_append, hal]; rfl
        have HLN := Lib.hid hl2n
        have hacn : acc.length ≤ 20 := by omega
        clear hy hsy htk hl2 hl2n hown hal
        go_upto_region 5 with fail
        refine rol_run (by kernel_rfl) [[], [], [], [1, 2], [1, 2, 3], [1, 2, 3, 4], [1, 2, 3, 4, 5], [], [], [7, 8], [7, 8, 9], [7, 8, 9, 10], [1, 2, 3, 4, 5, 6, 7, 8, 9, 10, 11], [1, 2, 3, 4, 5, 6, 7, 8, 9, 10, 11, 12], [0, 1, 2, 3, 4, 5, 6, 7, 8, 9, 10, 11, 12, 13], [0, 1, 2, 3, 4, 5, 6, 7, 8, 9, 10, 11, 12, 13, 14]] (by kernel_rfl) [15, 16, 17, 18, 19, 20, 21, 22, 23, 24, 25, 26, 27, 28, 29, 3] [[17], [], [], [1, 2], [3], [4], [5], [], [], [7, 8], [9], [10], [6, 11], [12], [0, 13, 16], [14]] [0, 0, 0, 0, 0, 0, 0, 0, 0, 0, 0, 0, 0, 5, 1, 1, 1, 0] [0, 0, 0, 0, 0, 0, 0, 0, 0, 0, 0, 0, 0, 0, 1, 0] [1000, 1000, 1000, 1000, 1000, 1000, 1000, 1000, 1000, 1000, 1000, 1000, 1000, 1000, 1000, 1000, 14, 15] [.val 15 (u3), .val 16 (.slice (some ⟨b, off, none⟩) n c), .val 17 (.int .i64 (k : Int)), .val 18 (.pointer (some ⟨b, off + k * 3, none⟩)), .val 19 (.pointer (some ⟨b, off + k * 3, none⟩)), .val 20 (.agg #[.string (mkB y1), .string (mkB y2)]), .val 21 (.agg #[.string (mkB (fewL y1)), .string (mkB (fewL y2))]), .val 22 (.slice (some ⟨b, off, none⟩) n c), .val 23 (.int .i64 (k : Int)), .val 24 (.pointer (some ⟨b, off + k * 3, none⟩)), .val 25 (.pointer (some ⟨b, off + k * 3 + 2, none⟩)), .val 26 (.int .i64 z), .val 27 (.agg #[.string (mkB (fewL y1)), .string (mkB (fewL y2)), .int .i64 z]), .mem 28 (blkG 42 #[.string (mkB (fewL y1)), .string (mkB (fewL y2)), .int .i64 z] 1), .mem 29 (rowG w.heap.size 42 3 L2.length (dfC L2)), .mem 3 (rowG w.heap.size 42 3 L2.length (dfC L2)), .mem 3 (rowX u3 (w.heap.size) 42 3 acc.length (dfC acc)), .val 3 (u3)] (by kernel_rfl) ?_ (w.heap.size) (wr.heap.size) rfl HB.out rfl (fun k => if Value.ownBlock u3 = some k then 1 else 0) ?_ ?_ ?_
        · intro j hj
          have hj3 : j < 18 := hj
          have hj2 : j = 0 ∨ j = 1 ∨ j = 2 ∨ j = 3 ∨ j = 4 ∨ j = 5 ∨ j = 6 ∨ j = 7 ∨ j = 8 ∨ j = 9 ∨ j = 10 ∨ j = 11 ∨ j = 12 ∨ j = 13 ∨ j = 14 ∨ j = 15 ∨ j = 16 ∨ j = 17 := by omega
          clear hj hj3
          rcases hj2 with rfl | rfl | rfl | rfl | rfl | rfl | rfl | rfl | rfl | rfl | rfl | rfl | rfl | rfl | rfl | rfl | rfl | rfl
          · exact trivial
          · exact trivial
          · exact trivial
          · exact trivial
          · exact trivial
          · exact trivial
          · exact trivial
          · exact trivial
          · exact trivial
          · exact trivial
          · exact trivial
          · exact trivial
          · exact trivial
          · exact blkG_near
          · exact rowG_near
          · exact rowG_near
          · exact rowX_near
          · exact trivial
        · intro j hj0 hj
          have hj1 : 16 ≤ j := hj0
          have hj3 : j < 18 := hj
          have hj2 : j = 16 ∨ j = 17 := by omega
          clear hj0 hj hj1 hj3
          rcases hj2 with rfl | rfl
          · exact ⟨_, _, rfl, fun b e => ⟨(own_lt HOWN.out e).2, if_pos e⟩, HOWN.out, rfl⟩
          · exact rfl
        · intro i hi a wx who hG hF
          have hz : a.tmps.size = 31 := hG.size
          have hi3 : i < 16 := hi
          have hi2 : i = 0 ∨ i = 1 ∨ i = 2 ∨ i = 3 ∨ i = 4 ∨ i = 5 ∨ i = 6 ∨ i = 7 ∨ i = 8 ∨ i = 9 ∨ i = 10 ∨ i = 11 ∨ i = 12 ∨ i = 13 ∨ i = 14 ∨ i = 15 := by omega
          clear hi hi3
          rcases hi2 with rfl | rfl | rfl | rfl | rfl | rfl | rfl | rfl | rfl | rfl | rfl | rfl | rfl | rfl | rfl | rfl
          · exact rol_val rfl rfl rfl (by rw [hz]; decide) (ex_move (Or.inl rfl) (eval_slot (hF 17 (by decide)))) hG.below
          · exact rol_val rfl rfl rfl (by rw [hz]; decide) (ex_move (Or.inl rfl) (eval_slot ((hG.slots 0 (by decide)).trans rfl))) hG.below
          · exact rol_val rfl rfl rfl (by rw [hz]; decide) (ex_move (Or.inl rfl) (eval_slot ((hG.slots 4 (by decide)).trans rfl))) hG.below
          · exact rol_val rfl rfl rfl (by rw [hz]; decide) (ex_index rfl (eval_slot (hF 1 (by decide))) (eval_slot (hF 2 (by decide))) (idx_df HLT.out)) hG.below
          · exact rol_val rfl rfl rfl (by rw [hz]; decide) (ex_field rfl (eval_slot (hF 3 (by decide))) fld_df) hG.below
          · exact rol_val rfl rfl rfl (by rw [hz]; decide) (ex_load rfl (eval_slot (hF 4 (by decide))) (ld_node (cell_keep cw0 hG.below) (cell_keep cw1 hG.below))) hG.below
          · refine rol_calls rfl rfl rfl (by rw [hz]; decide) (ex_call rfl (by simp [eval_slot (hF 5 (by decide))]) e1) (KO.out wx) ?_ hG.below (Nat.le_trans HBS.out hG.new)
            rintro e w1 ⟨rfl, hb1⟩
            exact ⟨_, rfl, hb1, .inl rfl⟩
          · exact rol_val rfl rfl rfl (by rw [hz]; decide) (ex_move (Or.inl rfl) (eval_slot ((hG.slots 0 (by decide)).trans rfl))) hG.below
          · exact rol_val rfl rfl rfl (by rw [hz]; decide) (ex_move (Or.inl rfl) (eval_slot ((hG.slots 4 (by decide)).trans rfl))) hG.below
          · exact rol_val rfl rfl rfl (by rw [hz]; decide) (ex_index rfl (eval_slot (hF 7 (by decide))) (eval_slot (hF 8 (by decide))) (idx_df HLT.out)) hG.below
          · exact rol_val rfl rfl rfl (by rw [hz]; decide) (ex_field rfl (eval_slot (hF 9 (by decide))) fld2_df) hG.below
          · exact rol_val rfl rfl rfl (by rw [hz]; decide) (ex_load rfl (eval_slot (hF 10 (by decide))) (ld_num (cell_keep cw2 hG.below))) hG.below
          · exact rol_val rfl rfl rfl (by rw [hz]; decide) (ex_build rfl (vs := #[(0, .agg #[.string (mkB (fewL y1)), .string (mkB (fewL y2))]), (1, .int .i64 z)]) (by simp only [List.map_toArray, List.map_cons, List.map_nil, eval_slot (hF 6 (by decide)), eval_slot (hF 11 (by decide))]) build_df) hG.below
          · exact rol_newO rfl rfl rfl (by rw [hz]; decide) (x := .cells #[.string (mkB (fewL y1)), .string (mkB (fewL y2)), .int .i64 z] 42) (v := .slice (some ⟨wx.heap.size, 0, none⟩) 1 1) (ex_slice rfl (vs := #[(0, .agg #[.string (mkB (fewL y1)), .string (mkB (fewL y2)), .int .i64 z])]) (by simp only [List.map_toArray, List.map_cons, List.map_nil, eval_slot (hF 12 (by decide))]) (by go_simp)) ⟨_, rfl, rfl, heap_alloc_new _ _⟩ hG.below (Nat.le_trans HBS.out hG.new)
          · obtain ⟨v, ob, hv, hob, b, rfl, rfl, hh⟩ := hF 13 (by decide)
            exact rol_app_df rfl rfl rfl (by rw [hz]; decide) rfl (hF 16 (by decide)) (eval_slot (hF 0 (by decide))) (eval_slot hv) (blkG.dfs hh) (by omega) hG.below (Nat.le_refl _) (Nat.le_trans HBS.out hG.new) (by rw [HL2E.out, List.length_append]; rfl) HL2E.out
          · exact rol_move rfl rfl rfl (by rw [hz]; decide) (Or.inr rfl) (hF 14 (by decide)) hG.below
        · intro a wx who hG hF
          obtain ⟨v3, ob3, fv3, fo3, fp3⟩ := hF 15 (of_decide_eq_true (by kernel_rfl)) (of_decide_eq_true (by kernel_rfl))
          replace fv3 : a.tmps.getD 3 undef = v3 := eval_slot (s := 3) fv3
          have hbx := hG.below
          have hnx := hG.new
          rw [hG.frame]
          simp only [List.foldl_cons, List.foldl_nil, List.setIfInBounds_toArray, List.set_cons_zero, List.set_cons_succ]
          generalize a.tmps.getD 15 undef = u15
          generalize a.tmps.getD 16 undef = u16
          generalize a.tmps.getD 17 undef = u17
          generalize a.tmps.getD 18 undef = u18
          generalize a.tmps.getD 19 undef = u19
          generalize a.tmps.getD 20 undef = u20
          generalize a.tmps.getD 21 undef = u21
          generalize a.tmps.getD 22 undef = u22
          generalize a.tmps.getD 23 undef = u23
          generalize a.tmps.getD 24 undef = u24
          generalize a.tmps.getD 25 undef = u25
          generalize a.tmps.getD 26 undef = u26
          generalize a.tmps.getD 27 undef = u27
          generalize a.tmps.getD 28 undef = u28
          generalize a.tmps.getD 29 undef = u29
          rw [fv3]
          clear hF hG fv3
          obtain ⟨hrow, -⟩ := fp3
          have HRW := Lib.hid hrow; have HBN := Lib.hid hbx
          clear fo3 hrow hbx hnx
          go_wp2
          go_roundw
          case rel => exact ⟨k + 1, L2, by omega, by omega, by go_num, HLN.out, Lib.hid (by rw [HTK.out, HL2E.out, HACC.out]; rfl), HRW.out, HBN⟩
          case measure => simp [intOf]; omega
      · have hout : acc = L := by
          rw [HACC.out, ← HL.out]
          unfold fewDs
          have : k = 20 := by omega
          rw [this]
        subst hout
        go_wp2
        go_ret
        exact ⟨_, rfl, hown, HB.out⟩
    · have hout : acc = L := by
        have e : k = n := by omega
        rw [HACC.out, ← HL.out]
        unfold fewDs
        rw [List.take_of_length_le (i := k) (by rw [HN.out]; omega), List.take_of_length_le (i := 20) (by rw [HN.out]; omega)]
      subst hout
      go_wp2
      go_ret
      exact ⟨_, rfl, hown, HB.out⟩
end Go.Proofs.YtopcbmmnjmmoiaaGreat

namespace Go.Proofs.YtopcbmmnjmmoiaaGreat
open Go.RowKit
set_option linter.unusedVariables false
set_option maxRecDepth 100000

theorem nds_blk {w : World} {b : Nat} {l : List Nd} (h : w.heap[b]? = some (.cells (ndsC l).toArray 40 (0, 0))) (hl : l.length ≤ 1000) : Nds w (.slice (some ⟨b, 0, none⟩) l.length l.length) l :=
  Nds.owned (base := 0) (e := 40) ⟨ndsC_len l, .inr ⟨b, l.length, _, rfl, Nat.zero_le _, h, Nat.le_refl _, by unfold maxLen; omega, by rw [List.size_toArray, ndsC_len], by rw [List.take_of_length_le (by simp [ndsC_len])]⟩⟩
theorem dfs_blk {w : World} {b : Nat} {l : List De} (h : w.heap[b]? = some (.cells (dfC l).toArray 42 (0, 0))) (hl : l.length ≤ 1000) : Dfs w (.slice (some ⟨b, 0, none⟩) l.length l.length) l :=
  Dfs.owned (base := 0) (e := 42) (rowC_own h rfl (by omega) (Nat.zero_le _))
theorem turn_small {l : List De} (h : ∀ e ∈ l, smallD e) (o : okD l = true) : ∀ e ∈ turnD l, smallD e := fun e he => by
  obtain ⟨x, hx, rfl⟩ := List.mem_map.1 he
  have h1 := inD_iff.1 (okD_in o x hx)
  exact ⟨(h x hx).1, by unfold fitI; simp only; omega⟩
def vOne : List UInt8 := [118, 49, 46, 48, 46, 48]
abbrev nA : Nd := ([97], [118, 49, 46, 48, 46, 48])
abbrev nB : Nd := ([98], [118, 49, 46, 48, 46, 48])
abbrev nC : Nd := ([99], [118, 49, 46, 48, 46, 48])
theorem exD1 : diffE [nA, nA, nB] [nB, nC] = ([(nA, -2), (nC, 1)], 0) := by decide +kernel
theorem mergeD_ex : mergeD [(nA, 1)] [(nA, -1)] = [] := by
  rw [merge_0 (x := (nA, 1)) (y := (nA, -1)) (a := []) (b := []) rfl (by decide), merge_nilL]
theorem exD2 : bothE [(nA, 1)] [(nA, -1)] = ([], 0) := by
  have h1 : (okD [(nA, 1)] && okD [(nA, -1)]) = true := by decide +kernel
  have h2 : okD (mergeD [(nA, 1)] [(nA, -1)]) = true := by rw [mergeD_ex]; rfl
  rw [bothE_yes h1 h2, mergeD_ex]
theorem smA : smallN nA := ⟨by decide, by decide⟩
theorem smB : smallN nB := ⟨by decide, by decide⟩
theorem smC : smallN nC := ⟨by decide, by decide⟩
theorem boxN3 (w : World) (a b c d e f : Value) (t : TypeId) : ∃ W g1 g2 g3, ((w.alloc (.cells #[a, b] t)).alloc (.cells #[c, d] t)).alloc (.cells #[e, f] t) = W ∧ w.heap.size = g1 ∧ w.heap.size + 1 = g2 ∧ w.heap.size + 1 + 1 = g3 ∧ W.cell? ⟨g1, 0, none⟩ = some a ∧ W.cell? ⟨g1, 1, none⟩ = some b ∧ W.cell? ⟨g2, 0, none⟩ = some c ∧ W.cell? ⟨g2, 1, none⟩ = some d ∧ W.cell? ⟨g3, 0, none⟩ = some e ∧ W.cell? ⟨g3, 1, none⟩ = some f ∧ Below w.heap.size w W :=
  ⟨_, _, _, _, rfl, rfl, rfl, rfl, cell_alloc (cell_alloc (cell_new rfl rfl) _) _, cell_alloc (cell_alloc (cell_new rfl rfl) _) _, cell_alloc (cell_new (by simp) rfl) _, cell_alloc (cell_new (by simp) rfl) _, cell_new (by simp) rfl, cell_new (by simp) rfl, (((Below.refl _ _).alloc (Nat.le_refl _) _).alloc (by simp) _).alloc (by simp; omega) _⟩

set_option maxHeartbeats 3200000 in
theorem dawake_any (w : World) : Calls Tryz.prog 13 #[] w fun e w' => e = .returned (.bool true) ∧ Below w.heap.size w w' := by
  have h1 := fun U V w hu hv => diff_any U V [nA, nA, nB] [nB, nC] w hu hv (by intro n hn; simp at hn; rcases hn with rfl | rfl <;> first | exact smA | exact smB) (by intro n hn; simp at hn; rcases hn with rfl | rfl <;> first | exact smB | exact smC) (by decide) (by decide)
  have h2 := fun U V w hu hv => both_any U V [(nA, 1)] [(nA, -1)] w hu hv (by intro n hn; simp at hn; subst hn; exact ⟨smA, by unfold fitI; decide⟩) (by intro n hn; simp at hn; subst hn; exact ⟨smA, by unfold fitI; decide⟩) (by decide) (by decide)
  rw [exD1] at h1
  rw [exD2] at h2
  simp only at h1 h2
  go_enter Tryz.func13, Tryz.ntmps13
  go_upto_region 2 with fail
  obtain ⟨W, g1, g2, g3, hW, hg1, hg2, hg3, a0, a1, b0, b1, c0, c1, hb⟩ := boxN3 w (.string (mkB [97])) (.string (mkB [118, 49, 46, 48, 46, 48])) (.string (mkB [98])) (.string (mkB [118, 49, 46, 48, 46, 48])) (.string (mkB [99])) (.string (mkB [118, 49, 46, 48, 46, 48])) 40
  change Code.wp _ _ _ _ (((w.alloc (.cells #[.string (mkB [97]), .string (mkB [118, 49, 46, 48, 46, 48])] 40)).alloc (.cells #[.string (mkB [98]), .string (mkB [118, 49, 46, 48, 46, 48])] 40)).alloc (.cells #[.string (mkB [99]), .string (mkB [118, 49, 46, 48, 46, 48])] 40))
  rw [hW, hg3, hg2, hg1]
  have B := Lib.hid hb
  have hu : Nds ((W.alloc (.cells #[.string (mkB [97]), .string (mkB [118, 49, 46, 48, 46, 48]), .string (mkB [97]), .string (mkB [118, 49, 46, 48, 46, 48]), .string (mkB [98]), .string (mkB [118, 49, 46, 48, 46, 48])] 40)).alloc (.cells #[.string (mkB [98]), .string (mkB [118, 49, 46, 48, 46, 48]), .string (mkB [99]), .string (mkB [118, 49, 46, 48, 46, 48])] 40)) (.slice (some ⟨W.heap.size, 0, none⟩) 3 3) [nA, nA, nB] := (nds_blk (l := [nA, nA, nB]) (heap_alloc_new W _) (by decide)).below ((Below.refl _ _).alloc (Nat.le_refl _) _)
  have hv : Nds ((W.alloc (.cells #[.string (mkB [97]), .string (mkB [118, 49, 46, 48, 46, 48]), .string (mkB [97]), .string (mkB [118, 49, 46, 48, 46, 48]), .string (mkB [98]), .string (mkB [118, 49, 46, 48, 46, 48])] 40)).alloc (.cells #[.string (mkB [98]), .string (mkB [118, 49, 46, 48, 46, 48]), .string (mkB [99]), .string (mkB [118, 49, 46, 48, 46, 48])] 40)) (.slice (some ⟨W.heap.size + 1, 0, none⟩) 2 2) [nB, nC] := by
    have := nds_blk (l := [nB, nC]) (heap_alloc_new (W.alloc (.cells #[.string (mkB [97]), .string (mkB [118, 49, 46, 48, 46, 48]), .string (mkB [97]), .string (mkB [118, 49, 46, 48, 46, 48]), .string (mkB [98]), .string (mkB [118, 49, 46, 48, 46, 48])] 40)) (.cells #[.string (mkB [98]), .string (mkB [118, 49, 46, 48, 46, 48]), .string (mkB [99]), .string (mkB [118, 49, 46, 48, 46, 48])] 40)) (by decide)
    simpa using this
  have hbb : Below W.heap.size W ((W.alloc (.cells #[.string (mkB [97]), .string (mkB [118, 49, 46, 48, 46, 48]), .string (mkB [97]), .string (mkB [118, 49, 46, 48, 46, 48]), .string (mkB [98]), .string (mkB [118, 49, 46, 48, 46, 48])] 40)).alloc (.cells #[.string (mkB [98]), .string (mkB [118, 49, 46, 48, 46, 48]), .string (mkB [99]), .string (mkB [118, 49, 46, 48, 46, 48])] 40)) := ((Below.refl _ _).alloc (Nat.le_refl _) _).alloc (by simp) _
  have HU := Lib.hid hu; have HV := Lib.hid hv; have HBB := Lib.hid hbb
  clear hW hg1 hg2 hg3 hb hu hv hbb
  have b0' := fun o => cell_alloc b0 o
  have b1' := fun o => cell_alloc b1 o
  have c0' := fun o => cell_alloc c0 o
  have c1' := fun o => cell_alloc c1 o
  go_upto_region 3 with (go_at_call 8; refine (h1 _ _ _ HU.out HV.out).mono ?_; rintro e w1 ⟨v1, rfl, hrow, hb1⟩; have hbw := below_step HBB.out hb1; have HR1 := Lib.hid hrow; replace a0 := cell_keep a0 hbw; replace a1 := cell_keep a1 hbw; replace c0 := cell_keep c0 hbw; replace c1 := cell_keep c1 hbw; replace B := Lib.hid (below_step B.out hbw); clear hb1 hbw hrow h1 HU HV HBB b0 b1 b0' b1' c0' c1')
  obtain ⟨k1, j1, rfl, hD⟩ := dfsO HR1.out
  have D1 := Lib.hid hD
  clear hD HR1
  have hu : Dfs ((w1.alloc (.cells #[.string (mkB [97]), .string (mkB [118, 49, 46, 48, 46, 48]), .int .i64 1] 42)).alloc (.cells #[.string (mkB [97]), .string (mkB [118, 49, 46, 48, 46, 48]), .int .i64 (-1)] 42)) (.slice (some ⟨w1.heap.size, 0, none⟩) 1 1) [(nA, 1)] := (dfs_blk (l := [(nA, 1)]) (heap_alloc_new w1 _) (by decide)).below ((Below.refl _ _).alloc (Nat.le_refl _) _)
  have hv : Dfs ((w1.alloc (.cells #[.string (mkB [97]), .string (mkB [118, 49, 46, 48, 46, 48]), .int .i64 1] 42)).alloc (.cells #[.string (mkB [97]), .string (mkB [118, 49, 46, 48, 46, 48]), .int .i64 (-1)] 42)) (.slice (some ⟨w1.heap.size + 1, 0, none⟩) 1 1) [(nA, -1)] := by
    have := dfs_blk (l := [(nA, -1)]) (heap_alloc_new (w1.alloc (.cells #[.string (mkB [97]), .string (mkB [118, 49, 46, 48, 46, 48]), .int .i64 1] 42)) (.cells #[.string (mkB [97]), .string (mkB [118, 49, 46, 48, 46, 48]), .int .i64 (-1)] 42)) (by decide)
    simpa using this
  have hbb : Below w1.heap.size w1 ((w1.alloc (.cells #[.string (mkB [97]), .string (mkB [118, 49, 46, 48, 46, 48]), .int .i64 1] 42)).alloc (.cells #[.string (mkB [97]), .string (mkB [118, 49, 46, 48, 46, 48]), .int .i64 (-1)] 42)) := ((Below.refl _ _).alloc (Nat.le_refl _) _).alloc (by simp) _
  have HU := Lib.hid hu; have HV := Lib.hid hv; have HBB := Lib.hid hbb
  clear hu hv hbb
  have a0' := fun o => cell_alloc a0 o
  have a1' := fun o => cell_alloc a1 o
  go_upto_region 4 with (go_at_call 15; refine (h2 _ _ _ HU.out HV.out).mono ?_; rintro e w2 ⟨v2, rfl, hrow, hb1⟩; have hbw := below_step HBB.out hb1; have HR2 := Lib.hid hrow; replace D1 := Lib.hid (D1.out.below hbw); replace a0 := cell_keep a0 hbw; replace a1 := cell_keep a1 hbw; replace c0 := cell_keep c0 hbw; replace c1 := cell_keep c1 hbw; replace B := Lib.hid (below_step B.out hbw); clear hb1 hbw hrow h2 HU HV HBB a0' a1')
  obtain ⟨k2, j2, rfl, -⟩ := dfsO HR2.out
  obtain ⟨b, off, rfl, -, d0, d1, d2⟩ := D1.out.at 0 (by decide)
  obtain ⟨b', off', hab, -, e0, e1, e2⟩ := D1.out.at 1 (by decide)
  injection hab with hab
  injection hab with q1 q2
  subst q1 q2
  simp only [Nat.zero_mul, Nat.add_zero, Nat.one_mul] at d0 d1 d2 e0 e1 e2
  have hgd := guard_df
  have hq1 := eq_df [97] [118, 49, 46, 48, 46, 48] [97] [118, 49, 46, 48, 46, 48] (-2) (-2)
  have hq2 := eq_df [99] [118, 49, 46, 48, 46, 48] [99] [118, 49, 46, 48, 46, 48] 1 1
  rw [decide_eq_true rfl] at hq1 hq2
  simp only [List.length_nil]
  go_quiet (fail)
  go_wp2
  go_ret
  exact ⟨rfl, below_step B.out (below_q ⟨nq, rfl⟩)⟩
end Go.Proofs.YtopcbmmnjmmoiaaGreat

namespace Go.Proofs.YtopcbmmnjmmoiaaGreat
open Go.RowKit
set_option linter.unusedVariables false
set_option maxRecDepth 100000

set_option maxHeartbeats 1600000 in
theorem refmany_any (V : Value) (ns : List Nd) (p v : List UInt8) (w : World) (h : Nds w V ns) (hl : ns.length ≤ 1000000) :
    Calls Tryz.prog 25 #[V, .agg #[.string (mkB p), .string (mkB v)]] w fun e w' => e = .returned (.int .i64 (cntN ns (p, v) : Int)) ∧ Below w.heap.size w w' := by
  obtain ⟨a, c, rfl, h1, h2, -, -⟩ := h.ex
  unfold maxLen at h2
  obtain ⟨n, hn⟩ : ∃ n, ns.length = n := ⟨_, rfl⟩
  rw [hn] at h1 h hl ⊢
  obtain ⟨R, hR⟩ : ∃ R, cntN ns (p, v) = R := ⟨_, rfl⟩
  rw [hR]
  have HN := Lib.hid hn; have ST := Lib.hid h; have HR := Lib.hid hR
  clear h hn hR
  obtain ⟨W, g, hW, hg, d0, d1, hb⟩ := boxB1 w (.string (mkB p)) (.string (mkB v)) 40
  have HW := Lib.hid hW; have HG := Lib.hid hg; have B := Lib.hid hb; have D0 := Lib.hid d0; have D1 := Lib.hid d1
  clear hW hg hb d0 d1
  go_enter Tryz.func25, Tryz.ntmps25
  go_upto_region 1 with fail
  rw [HW.out, HG.out]
  go_wp2
  go_loopw [5, 6] (fun s i wr => ∃ k q m : Nat, k ≤ n ∧ m ≤ k ∧ i = .int .i64 k ∧ s = .int .i64 m ∧ wr = W.drewN q ∧ Hid (cntN (ns.take k) (p, v) = m)) (fun _ i _ => n - (intOf i).toNat)
  case atStart => exact ⟨0, 0, 0, Nat.zero_le _, Nat.le_refl _, rfl, rfl, rfl, Lib.hid rfl⟩
  case round =>
    obtain ⟨k, q, m, hk, hm, rfl, rfl, rfl, H⟩ := hrel
    by_cases hlt : k < n
    · have hkl : k < ns.length := by rw [HN.out]; exact hlt
      obtain ⟨Wq, hWq⟩ : ∃ Wq, W.drewN q = Wq := ⟨_, rfl⟩
      have hbq : Below W.heap.size W Wq := by rw [← hWq]; exact below_q ⟨q, rfl⟩
      obtain ⟨b, off, rfl, -, hc0, hc1⟩ := ((ST.out.below B.out).below hbq).at k hkl
      have d0 := cell_keep D0.out hbq
      have d1 := cell_keep D1.out hbq
      have hd := cntN_take hkl (p, v)
      obtain ⟨y, hy⟩ : ∃ y, y = ns.getD k ([], []) := ⟨_, rfl⟩
      rw [← hy] at hc0 hc1 hd
      obtain ⟨y1, y2⟩ := y
      simp only at hc0 hc1
      rw [hWq]
      have HWq := Lib.hid hWq; have HD := Lib.hid hd; clear hy hd hbq hWq
      have hgd := guard_nd
      have heq := eq_nd y1 y2 p v
      obtain ⟨o, ho⟩ : ∃ o, decide ((y1, y2) = (p, v)) = o := ⟨_, rfl⟩
      rw [ho] at heq
      have HO := Lib.hid ho; clear ho
      have hkb : (k : Int) < (n : Int) := by omega
      cases o
      · go_wp2_with fail
        go_quiet (fail)
        go_wp2
        have H5 : Hid (cntN (ns.take (k + 1)) (p, v) = m) := Lib.hid (by rw [HD.out, H.out, if_neg (of_decide_eq_false HO.out)]; rfl)
        go_roundw
        case rel => exact ⟨k + 1, q + nq, m, by omega, by omega, by go_num, rfl, by rw [← HWq.out, World.drewN_drewN], H5⟩
        case measure => simp [intOf]; omega
      · go_wp2_with fail
        go_quiet (fail)
        go_wp2
        have H5 : Hid (cntN (ns.take (k + 1)) (p, v) = m + 1) := Lib.hid (by rw [HD.out, H.out, if_pos (of_decide_eq_true HO.out)])
        go_roundw
        case rel => exact ⟨k + 1, q + nq, m + 1, by omega, by omega, by go_num, by go_num, by rw [← HWq.out, World.drewN_drewN], H5⟩
        case measure => simp [intOf]; omega
    · have e : m = R := by rw [← HR.out, ← H.out, List.take_of_length_le (by rw [HN.out]; omega)]
      have HE := Lib.hid e
      clear e
      go_wp2
      go_ret
      exact ⟨by rw [← HE.out]; rfl, below_step B.out (below_q ⟨q, rfl⟩)⟩

theorem byD_bound {l : List De} (h : ∀ e ∈ l, inD e.2 = true) (n : Nd) : -(1099511627776 * (l.length : Int)) ≤ byD l n ∧ byD l n ≤ 1099511627776 * (l.length : Int) := by
  induction l with
  | nil => simp [byD]
  | cons e l ih =>
    have h1 := inD_iff.1 (h e List.mem_cons_self)
    have h2 := ih fun x hx => h x (List.mem_cons_of_mem _ hx)
    rw [byD_cons]
    simp only [List.length_cons]
    have h3 : (1099511627776 : Int) * ((l.length + 1 : Nat) : Int) = 1099511627776 * l.length + 1099511627776 := by rw [Int.natCast_add, Int.mul_add]; simp
    rw [h3]
    split <;> omega
theorem take_in {l : List De} (h : ∀ e ∈ l, inD e.2 = true) (k : Nat) : ∀ e ∈ l.take k, inD e.2 = true := fun e he => h e (List.mem_of_mem_take he)
set_option maxHeartbeats 1600000 in
theorem refby_any (V : Value) (l : List De) (p v : List UInt8) (w : World) (h : Dfs w V l) (hl : l.length ≤ 1000) (hi : ∀ e ∈ l, inD e.2 = true) :
    Calls Tryz.prog 31 #[V, .agg #[.string (mkB p), .string (mkB v)]] w fun e w' => e = .returned (.int .i64 (byD l (p, v))) ∧ Below w.heap.size w w' := by
  obtain ⟨a, c, rfl, h1, h2, -, -⟩ := h.ex
  unfold maxLen at h2
  obtain ⟨n, hn⟩ : ∃ n, l.length = n := ⟨_, rfl⟩
  rw [hn] at h1 h hl ⊢
  obtain ⟨R, hR⟩ : ∃ R, byD l (p, v) = R := ⟨_, rfl⟩
  rw [hR]
  have HN := Lib.hid hn; have ST := Lib.hid h; have HR := Lib.hid hR; have HI := Lib.hid hi
  clear h hn hR hi
  obtain ⟨W, g, hW, hg, d0, d1, hb⟩ := boxB1 w (.string (mkB p)) (.string (mkB v)) 40
  have HW := Lib.hid hW; have HG := Lib.hid hg; have B := Lib.hid hb; have D0 := Lib.hid d0; have D1 := Lib.hid d1
  clear hW hg hb d0 d1
  go_enter Tryz.func31, Tryz.ntmps31
  go_upto_region 1 with fail
  rw [HW.out, HG.out]
  go_wp2
  go_loopw [5, 6] (fun s i wr => ∃ (k q : Nat) (z : Int), k ≤ n ∧ i = .int .i64 k ∧ s = .int .i64 z ∧ wr = W.drewN q ∧ Hid (byD (l.take k) (p, v) = z)) (fun _ i _ => n - (intOf i).toNat)
  case atStart => exact ⟨0, 0, 0, Nat.zero_le _, rfl, rfl, rfl, Lib.hid rfl⟩
  case round =>
    obtain ⟨k, q, z, hk, rfl, rfl, rfl, H⟩ := hrel
    by_cases hlt : k < n
    · have hkl : k < l.length := by rw [HN.out]; exact hlt
      obtain ⟨Wq, hWq⟩ : ∃ Wq, W.drewN q = Wq := ⟨_, rfl⟩
      have hbq : Below W.heap.size W Wq := by rw [← hWq]; exact below_q ⟨q, rfl⟩
      obtain ⟨b, off, rfl, -, hc0, hc1, hc2⟩ := ((ST.out.below B.out).below hbq).at k hkl
      have d0 := cell_keep D0.out hbq
      have d1 := cell_keep D1.out hbq
      have hd := byD_take hkl (p, v)
      have hbd := byD_bound (take_in HI.out k) (p, v)
      have hin := inD_iff.1 (HI.out _ (df_mem hkl))
      rw [H.out, List.length_take] at hbd
      obtain ⟨y, hy⟩ : ∃ y, y = l.getD k zD := ⟨_, rfl⟩
      rw [← hy] at hc0 hc1 hc2 hd hin
      obtain ⟨⟨y1, y2⟩, u⟩ := y
      simp only at hc0 hc1 hc2 hd hin
      rw [hWq]
      have hwr : IntKind.i64.wrap (z + u) = z + u := IntWalk.i64_in _ (by omega)
      have HWq := Lib.hid hWq; have HD := Lib.hid hd; clear hy hd hbq hWq hbd hin
      have hgd := guard_nd
      have heq := eq_nd y1 y2 p v
      obtain ⟨o, ho⟩ : ∃ o, decide ((y1, y2) = (p, v)) = o := ⟨_, rfl⟩
      rw [ho] at heq
      have HO := Lib.hid ho; clear ho
      have hkb : (k : Int) < (n : Int) := by omega
      cases o
      · go_wp2_with fail
        go_quiet (fail)
        go_wp2
        have H5 : Hid (byD (l.take (k + 1)) (p, v) = z) := Lib.hid (by rw [HD.out, H.out, if_neg (of_decide_eq_false HO.out)]; omega)
        go_roundw
        case rel => exact ⟨k + 1, q + nq, z, by omega, by go_num, rfl, by rw [← HWq.out, World.drewN_drewN], H5⟩
        case measure => simp [intOf]; omega
      · go_wp2_with fail
        go_quiet (fail)
        go_wp2
        have H5 : Hid (byD (l.take (k + 1)) (p, v) = z + u) := Lib.hid (by rw [HD.out, H.out, if_pos (of_decide_eq_true HO.out)])
        go_roundw
        case rel => exact ⟨k + 1, q + nq, z + u, by omega, by go_num, rfl, by rw [← HWq.out, World.drewN_drewN], H5⟩
        case measure => simp [intOf]; omega
    · have e : z = R := by rw [← HR.out, ← H.out, List.take_of_length_le (by rw [HN.out]; omega)]
      have HE := Lib.hid e
      clear e
      go_wp2
      go_ret
      exact ⟨by rw [← HE.out]; rfl, below_step B.out (below_q ⟨q, rfl⟩)⟩
end Go.Proofs.YtopcbmmnjmmoiaaGreat

namespace Go.Proofs.YtopcbmmnjmmoiaaGreat
open Go.RowKit
set_option linter.unusedVariables false
set_option maxRecDepth 100000

theorem bin_sub {w : World} {a b z : Int} (h : IntKind.i64.wrap (a - b) = z) : Sem.run Tryz.prog (binOp .sub 3 (.int .i64 a) (.int .i64 b)) w = .ok (.int .i64 z) w := by
  go_simp
theorem bin_add {w : World} {a b z : Int} (h : IntKind.i64.wrap (a + b) = z) : Sem.run Tryz.prog (binOp .add 3 (.int .i64 a) (.int .i64 b)) w = .ok (.int .i64 z) w := by
  go_simp
theorem nds_row0 (w : World) : (w.alloc (.cells #[] 40)).ownsRow w.heap.size 40 2 (.slice (some ⟨w.heap.size, 0, none⟩) 0 0) 0 [] :=
  ⟨rfl, .inr ⟨w.heap.size, 0, #[], rfl, Nat.le_refl _, heap_alloc_new _ _, Nat.le_refl _, Nat.zero_le _, rfl, rfl⟩⟩
theorem small_app {l m : List Nd} (h : ∀ n ∈ l, smallN n) (k : ∀ n ∈ m, smallN n) : ∀ n ∈ l ++ m, smallN n := fun n hn => (List.mem_append.1 hn).elim (h n) (k n)
theorem small_set {l : List Nd} (o : ∀ n ∈ l, okN n = true) (h : ∀ n ∈ l, smallN n) : ∀ n ∈ setN l, smallN n := fun n hn => h n ((setN_mem o n).1 hn)

set_option maxHeartbeats 3200000 in
theorem refdiff_any (U V : Value) (old now : List Nd) (w : World) (hU : Nds w U old) (hV : Nds w V now) (so : ∀ n ∈ old, smallN n) (sn : ∀ n ∈ now, smallN n) (oo : ∀ n ∈ old ++ now, okN n = true) (lo : old.length ≤ 100000) (ln : now.length ≤ 100000) :
    Calls Tryz.prog 12 #[U, V] w fun e w' => ∃ v, e = .returned v ∧ w'.ownsRow w.heap.size 42 3 v (difL old now).length (dfC (difL old now)) ∧ Below w.heap.size w w' := by
  obtain ⟨Aa, ca, rfl, h1, h2, -, -⟩ := hU.ex
  obtain ⟨Ab, cb, rfl, h1', h2', -, -⟩ := hV.ex
  unfold maxLen at h2 h2'
  obtain ⟨p, hp⟩ : ∃ n, old.length = n := ⟨_, rfl⟩
  obtain ⟨m, hm⟩ : ∃ n, now.length = n := ⟨_, rfl⟩
  have hap : (old ++ now).length = p + m := by rw [List.length_append, hp, hm]
  have ks := fun V w h => refnset_any V (old ++ now) w h (small_app so sn) oo (by rw [hap]; omega)
  have hso := small_set oo (small_app so sn)
  have hsl := setN_len (old ++ now)
  rw [hap] at hsl
  obtain ⟨S, hS⟩ : ∃ S, setN (old ++ now) = S := ⟨_, rfl⟩
  obtain ⟨F, hF⟩ : ∃ F, difF old now = F := ⟨_, rfl⟩
  obtain ⟨R, hR⟩ : ∃ R, difL old now = R := ⟨_, rfl⟩
  rw [hR]
  have hR2 : mkD S F = R := by rw [← hR, ← hS, ← hF]; rfl
  rw [hS] at ks hso hsl
  obtain ⟨n, hn⟩ : ∃ n, S.length = n := ⟨_, rfl⟩
  rw [hn] at ks hsl
  rw [hp] at hU h1 lo ⊢
  rw [hm] at hV h1' ln ⊢
  have SU := Lib.hid hU; have SV := Lib.hid hV; have HP := Lib.hid hp; have HM := Lib.hid hm; have KS := Lib.hid ks; have HSO := Lib.hid hso; have HNS := Lib.hid hn; have HR := Lib.hid hR2; have HFF := Lib.hid hF; have HAP := Lib.hid hap
  have e1 : ∀ args w, (callFunc 25 args).run Tryz.prog w = .ok (.enter 25 args) w := enters_of Tryz.func25 (by kernel_rfl) rfl
  obtain ⟨X, hX⟩ : ∃ X, w.alloc (.cells #[] 40) = X := ⟨_, rfl⟩
  have ho0 := nds_row0 w
  have hbX : Below w.heap.size w (w.alloc (.cells #[] 40)) := (Below.refl _ _).alloc (Nat.le_refl _) _
  have HO0 := Lib.hid ho0; have BX := Lib.hid hbX
  clear hU hV hp hm ks hso hn hR hR2 hF hap hS so sn oo ho0 hbX hX
  go_enter Tryz.func12, Tryz.ntmps12
  go_wp2_with (first
    | (at_builtin; refine wpList_append_src rfl _ _ 22 rfl w.heap.size 40 (.agg #[.string ByteArray.empty, .string ByteArray.empty]) 2 32 Tryz.underlying22 Tryz.info_node rfl (by decide) _ 0 [] rfl HO0.out Aa p ca (ndsC old) rfl (by rw [ndsC_len, HP.out]) (SU.out.below BX.out).nil (SU.out.below BX.out).src (ndsC_one _) (by omega) (by unfold maxLen; omega) BX.out.size ?_; intro v1 w1 ho1 hb1; rw [Nat.zero_add, List.nil_append] at ho1; have HO1 := Lib.hid ho1; have B1 := Lib.hid (BX.out.trans hb1.toBelow); clear ho1 hb1 HO0)
    | (at_builtin; refine wpList_append_src rfl _ _ 22 rfl w.heap.size 40 (.agg #[.string ByteArray.empty, .string ByteArray.empty]) 2 32 Tryz.underlying22 Tryz.info_node rfl (by decide) _ p _ rfl HO1.out Ab m cb (ndsC now) rfl (by rw [ndsC_len, HM.out]) (SV.out.below B1.out).nil (SV.out.below B1.out).src (ndsC_one _) (by omega) (by unfold maxLen; omega) B1.out.size ?_; intro v2 w2 ho2 hb2; have hq2 : w2.ownsRow w.heap.size 40 2 v2 (old ++ now).length (ndsC (old ++ now)) := (by rw [HAP.out, ndsC_app]; exact ho2); obtain ⟨a2, c2, rfl, hnd⟩ := ndsO hq2; rw [HAP.out] at hnd ⊢; have SA := Lib.hid hnd; have B2 := Lib.hid (B1.out.trans hb2.toBelow); clear ho2 hb2 hq2 hnd)
    | (go_at_call 24; refine (KS.out _ _ SA.out).mono ?_; rintro e w3 ⟨a3, c3, rfl, hnd, hb3⟩; have SS0 := Lib.hid hnd; have B3 := Lib.hid (below_step B2.out hb3); clear hnd hb3))
  have SS := SS0
  go_loopw [6, 7] (fun v i wr => ∃ (k : Nat) (acc : List De), k ≤ n ∧ i = .int .i64 k ∧ acc.length ≤ k ∧ Hid (acc = mkD (S.take k) F) ∧ wr.ownsRow w3.heap.size 42 3 v acc.length (dfC acc) ∧ Hid (Below w3.heap.size w3 wr)) (fun _ i _ => n - (intOf i).toNat)
  case atStart => exact ⟨0, [], Nat.zero_le _, rfl, Nat.le_refl _, Lib.hid rfl, dfs_row0 _ _, Lib.hid (Below.refl _ _)⟩
  case round =>
    obtain ⟨k, acc, hk, rfl, hal, HACC, hown, HB⟩ := hrel
    by_cases hlt : k < n
    · have hkl : k < S.length := by rw [HNS.out]; exact hlt
      obtain ⟨bb, off, rfl, -, cw0, cw1⟩ := (SS.out.below HB.out).at k hkl
      have htk := mkD_take hkl F
      have hsm := HSO.out _ (nd_mem hkl)
      obtain ⟨y, hy⟩ : ∃ y, y = S.getD k ([], []) := ⟨_, rfl⟩
      rw [← hy] at cw0 cw1 htk hsm
      obtain ⟨y1, y2⟩ := y
      simp only at cw0 cw1
      obtain ⟨z1, hz1⟩ : ∃ z, cntN now (y1, y2) = z := ⟨_, rfl⟩
      obtain ⟨z2, hz2⟩ : ∃ z, cntN old (y1, y2) = z := ⟨_, rfl⟩
      have k1 := fun wx (hb : Below wr.heap.size wr wx) => refmany_any (.slice Ab m cb) now y1 y2 wx (SV.out.below (below_step (below_step B3.out HB.out) hb)) (by rw [HM.out]; omega)
      have k2 := fun wx (hb : Below wr.heap.size wr wx) => refmany_any (.slice Aa p ca) old y1 y2 wx (SU.out.below (below_step (below_step B3.out HB.out) hb)) (by rw [HP.out]; omega)
      have l1 := cntN_le now (y1, y2)
      have l2 := cntN_le old (y1, y2)
      rw [hz1] at k1 l1
      rw [hz2] at k2 l2
      rw [HM.out] at l1
      rw [HP.out] at l2
      have KM1 := Lib.hid k1; have KM2 := Lib.hid k2
      have hfz : F (y1, y2) = (z1 : Int) - z2 := by rw [← HFF.out, ← hz1, ← hz2]; rfl
      obtain ⟨z, hz⟩ : ∃ z, F (y1, y2) = z := ⟨_, rfl⟩
      rw [hz] at htk
      have hwz : IntKind.i64.wrap ((z1 : Int) - (z2 : Int)) = z := by rw [← hz, hfz]; exact IntWalk.i64_in _ (by omega)
      have HZ := Lib.hid hwz
      clear hwz hfz k1 k2 l1 l2 hz1 hz2
      have HTK := Lib.hid htk; have HOWN := Lib.hid hown; have HLT := Lib.hid hlt; have HSM := Lib.hid hsm
      clear hy htk hz hown hsm
      have hkb : (k : Int) < (n : Int) := by omega
      go_upto_region 6 with fail
      refine rol_run (by kernel_rfl) [[], [], [], [1, 2], [1, 2, 3], [0, 1, 2, 3, 4], [], [], [], [7, 8], [7, 8, 9], [0, 1, 2, 3, 4, 5, 6, 7, 8, 9, 10], [0, 1, 2, 3, 4, 5, 6, 7, 8, 9, 10, 11], [0, 1, 2, 3, 4, 5, 6, 7, 8, 9, 10, 11, 12]] (by kernel_rfl) [21, 22, 23, 24, 25, 26, 27, 28, 29, 30, 31, 32, 33, 8] [[], [], [], [1, 2], [3], [0, 4], [], [], [], [7, 8], [9], [6, 10], [5, 11], [12]] [0, 0, 0, 0, 0, 0, 0, 0, 0, 0, 0, 0, 0, 0] [0, 0, 0, 0, 0, 0, 0, 0, 0, 0, 0, 0, 0, 0] [1000, 1000, 1000, 1000, 1000, 1000, 1000, 1000, 1000, 1000, 1000, 1000, 1000, 1000] [.val 21 (.slice Ab m cb), .val 22 (.slice (some ⟨bb, off, none⟩) n c3), .val 23 (.int .i64 (k : Int)), .val 24 (.pointer (some ⟨bb, off + k * 2, none⟩)), .val 25 (.agg #[.string (mkB y1), .string (mkB y2)]), .val 26 (.int .i64 (z1 : Int)), .val 27 (.slice Aa p ca), .val 28 (.slice (some ⟨bb, off, none⟩) n c3), .val 29 (.int .i64 (k : Int)), .val 30 (.pointer (some ⟨bb, off + k * 2, none⟩)), .val 31 (.agg #[.string (mkB y1), .string (mkB y2)]), .val 32 (.int .i64 (z2 : Int)), .val 33 (.int .i64 z), .val 8 (.int .i64 z)] (by kernel_rfl) ?_ (wr.heap.size) (wr.heap.size) rfl (Below.refl _ _) rfl (fun _ => 0) ?_ ?_ ?_
      · intro j hj
        have hj3 : j < 14 := hj
        have hj2 : j = 0 ∨ j = 1 ∨ j = 2 ∨ j = 3 ∨ j = 4 ∨ j = 5 ∨ j = 6 ∨ j = 7 ∨ j = 8 ∨ j = 9 ∨ j = 10 ∨ j = 11 ∨ j = 12 ∨ j = 13 := by omega
        clear hj hj3
        rcases hj2 with rfl | rfl | rfl | rfl | rfl | rfl | rfl | rfl | rfl | rfl | rfl | rfl | rfl | rfl
        · exact trivial
        · exact trivial
        · exact trivial
        · exact trivial
        · exact trivial
        · exact trivial
        · exact trivial
        · exact trivial
        · exact trivial
        · exact trivial
        · exact trivial
        · exact trivial
        · exact trivial
        · exact trivial
      · intro j hj0 hj
        exact absurd hj (Nat.not_lt.2 hj0)
      · intro i hi a wx who hG hF
        have hz : a.tmps.size = 46 := hG.size
        have hi3 : i < 14 := hi
        have hi2 : i = 0 ∨ i = 1 ∨ i = 2 ∨ i = 3 ∨ i = 4 ∨ i = 5 ∨ i = 6 ∨ i = 7 ∨ i = 8 ∨ i = 9 ∨ i = 10 ∨ i = 11 ∨ i = 12 ∨ i = 13 := by omega
        clear hi hi3
        rcases hi2 with rfl | rfl | rfl | rfl | rfl | rfl | rfl | rfl | rfl | rfl | rfl | rfl | rfl | rfl
        · exact rol_val rfl rfl rfl (by rw [hz]; decide) (ex_move (Or.inl rfl) (eval_slot ((hG.slots 1 (by decide)).trans rfl))) hG.below
        · exact rol_val rfl rfl rfl (by rw [hz]; decide) (ex_move (Or.inl rfl) (eval_slot ((hG.slots 5 (by decide)).trans rfl))) hG.below
        · exact rol_val rfl rfl rfl (by rw [hz]; decide) (ex_move (Or.inl rfl) (eval_slot ((hG.slots 7 (by decide)).trans rfl))) hG.below
        · exact rol_val rfl rfl rfl (by rw [hz]; decide) (ex_index rfl (eval_slot (hF 1 (by decide))) (eval_slot (hF 2 (by decide))) (idx_nds HLT.out)) hG.below
        · exact rol_val rfl rfl rfl (by rw [hz]; decide) (ex_load rfl (eval_slot (hF 3 (by decide))) (ld_node (cell_keep cw0 hG.below) (cell_keep cw1 hG.below))) hG.below
        · refine rol_call rfl rfl rfl (by rw [hz]; decide) (ex_call rfl (by simp [eval_slot (hF 0 (by decide)), eval_slot (hF 4 (by decide))]) e1) (KM1.out wx hG.below) ?_ hG.below hG.new
          rintro e w1 ⟨rfl, hb1⟩
          exact ⟨_, rfl, hb1, .inl rfl⟩
        · exact rol_val rfl rfl rfl (by rw [hz]; decide) (ex_move (Or.inl rfl) (eval_slot ((hG.slots 0 (by decide)).trans rfl))) hG.below
        · exact rol_val rfl rfl rfl (by rw [hz]; decide) (ex_move (Or.inl rfl) (eval_slot ((hG.slots 5 (by decide)).trans rfl))) hG.below
        · exact rol_val rfl rfl rfl (by rw [hz]; decide) (ex_move (Or.inl rfl) (eval_slot ((hG.slots 7 (by decide)).trans rfl))) hG.below
        · exact rol_val rfl rfl rfl (by rw [hz]; decide) (ex_index rfl (eval_slot (hF 7 (by decide))) (eval_slot (hF 8 (by decide))) (idx_nds HLT.out)) hG.below
        · exact rol_val rfl rfl rfl (by rw [hz]; decide) (ex_load rfl (eval_slot (hF 9 (by decide))) (ld_node (cell_keep cw0 hG.below) (cell_keep cw1 hG.below))) hG.below
        · refine rol_call rfl rfl rfl (by rw [hz]; decide) (ex_call rfl (by simp [eval_slot (hF 6 (by decide)), eval_slot (hF 10 (by decide))]) e1) (KM2.out wx hG.below) ?_ hG.below hG.new
          rintro e w1 ⟨rfl, hb1⟩
          exact ⟨_, rfl, hb1, .inl rfl⟩
        · exact rol_val rfl rfl rfl (by rw [hz]; decide) (ex_bin rfl (eval_slot (hF 5 (by decide))) (eval_slot (hF 11 (by decide))) (by go_simp) (bin_sub HZ.out)) hG.below
        · exact rol_val rfl rfl rfl (by rw [hz]; decide) (ex_move (Or.inr rfl) (eval_slot (hF 12 (by decide)))) hG.below
      · intro a wx who hG hF
        have fv8 : a.tmps.getD 8 undef = .int .i64 z := eval_slot (s := 8) (hF 13 (of_decide_eq_true (by kernel_rfl)) (of_decide_eq_true (by kernel_rfl)))
        have hbx := hG.below
        have hnx := hG.new
        rw [hG.frame]
        simp only [List.foldl_cons, List.foldl_nil, List.setIfInBounds_toArray, List.set_cons_zero, List.set_cons_succ]
        generalize a.tmps.getD 21 undef = u21
        generalize a.tmps.getD 22 undef = u22
        generalize a.tmps.getD 23 undef = u23
        generalize a.tmps.getD 24 undef = u24
        generalize a.tmps.getD 25 undef = u25
        generalize a.tmps.getD 26 undef = u26
        generalize a.tmps.getD 27 undef = u27
        generalize a.tmps.getD 28 undef = u28
        generalize a.tmps.getD 29 undef = u29
        generalize a.tmps.getD 30 undef = u30
        generalize a.tmps.getD 31 undef = u31
        generalize a.tmps.getD 32 undef = u32
        generalize a.tmps.getD 33 undef = u33
        rw [fv8]
        clear hF hG fv8
        replace cw0 := cell_keep cw0 hbx; replace cw1 := cell_keep cw1 hbx
        replace HOWN := Lib.hid (ownsRow_belowB HOWN.out hbx); replace HB := Lib.hid (below_step HB.out hbx)
        clear hbx hnx
        by_cases h0 : z = 0
        · have hz1 : (z != 0) = false := by simp [h0]
          have HAC : Hid (acc = mkD (S.take (k + 1)) F) := Lib.hid (by rw [HTK.out, HACC.out, if_pos h0, List.append_nil])
          clear h0
          go_wp2
          go_roundw
          case rel => exact ⟨k + 1, acc, by omega, by go_num, by omega, HAC, HOWN.out, HB⟩
          case measure => simp [intOf]; omega
        · have hz1 : (z != 0) = true := by simp [h0]
          have HAC : Hid (acc ++ [((y1, y2), z)] = mkD (S.take (k + 1)) F) := Lib.hid (by rw [HTK.out, HACC.out, if_neg h0])
          clear h0
          go_wp2_with (at_builtin; refine wpList_append_new rfl _ _ 24 rfl w3.heap.size 42 zDV 3 40 Tryz.underlying24 Tryz.info_df rfl (by decide) _ _ _ rfl HOWN.out [.string (mkB y1), .string (mkB y2), .int .i64 z] rfl rfl rfl (by omega) (by unfold maxLen; omega) HB.out.size ?_)
          intro v' w' hown' hb'
          have e2 : dfC acc ++ [.string (mkB y1), .string (mkB y2), .int .i64 z] = dfC (acc ++ [((y1, y2), z)]) := (dfC_snoc acc ((y1, y2), z)).symm
          rw [e2] at hown'
          have ho2 : w'.ownsRow w3.heap.size 42 3 v' (acc ++ [((y1, y2), z)]).length (dfC (acc ++ [((y1, y2), z)])) := by rw [List.length_append]; exact hown'
          have HO2 := Lib.hid ho2; have HBN := Lib.hid (HB.out.trans hb'.toBelow)
          clear ho2 hown' hb'
          go_wp2
          go_roundw
          case rel => exact ⟨k + 1, acc ++ [((y1, y2), z)], by omega, by go_num, by simp; omega, HAC, HO2.out, HBN⟩
          case measure => simp [intOf]; omega
    · have e : k = n := by omega
      subst e
      have hac := HACC.out
      rw [List.take_of_length_le (by rw [HNS.out]; exact Nat.le_refl _), HR.out] at hac
      subst hac
      go_wp2
      go_ret
      exact ⟨_, rfl, row_base hown B3.out.size, below_step B3.out HB.out⟩

set_option maxHeartbeats 3200000 in
theorem refboth_any (U V : Value) (a b : List De) (w : World) (hU : Dfs w U a) (hV : Dfs w V b) (sa : ∀ e ∈ a, smallD e) (sb : ∀ e ∈ b, smallD e) (oa : okD a = true) (ob : okD b = true) (la : a.length ≤ 1000) (lb : b.length ≤ 1000) :
    Calls Tryz.prog 19 #[U, V] w fun e w' => ∃ v, e = .returned v ∧ w'.ownsRow w.heap.size 42 3 v (mergeD a b).length (dfC (mergeD a b)) ∧ Below w.heap.size w w' := by
  obtain ⟨Aa, ca, rfl, h1, h2, -, -⟩ := hU.ex
  obtain ⟨Ab, cb, rfl, h1', h2', -, -⟩ := hV.ex
  unfold maxLen at h2 h2'
  have hdoc := merge_doc oa ob
  have ia := okD_in oa
  have ib := okD_in ob
  have hok : ∀ n ∈ keyD a ++ keyD b, okN n = true := fun n hn => by
    rcases List.mem_append.1 hn with q | q
    · exact checkN_ok (okD_parts oa).2 n q
    · exact checkN_ok (okD_parts ob).2 n q
  have hsm : ∀ n ∈ keyD a ++ keyD b, smallN n := fun n hn => by
    rcases List.mem_append.1 hn with q | q
    · obtain ⟨e, he, rfl⟩ := List.mem_map.1 q; exact (sa e he).1
    · obtain ⟨e, he, rfl⟩ := List.mem_map.1 q; exact (sb e he).1
  obtain ⟨p, hp⟩ : ∃ n, a.length = n := ⟨_, rfl⟩
  obtain ⟨m, hm⟩ : ∃ n, b.length = n := ⟨_, rfl⟩
  have hap : (keyD a ++ keyD b).length = p + m := by rw [List.length_append]; unfold keyD; rw [List.length_map, List.length_map, hp, hm]
  have ks := fun V w h => refnset_any V (keyD a ++ keyD b) w h hsm hok (by rw [hap]; omega)
  have hso := small_set hok hsm
  have hsl := setN_len (keyD a ++ keyD b)
  rw [hap] at hsl
  obtain ⟨S, hS⟩ : ∃ S, setN (keyD a ++ keyD b) = S := ⟨_, rfl⟩
  obtain ⟨F, hF⟩ : ∃ F, (fun n => byD a n + byD b n) = F := ⟨_, rfl⟩
  obtain ⟨R, hR⟩ : ∃ R, mergeD a b = R := ⟨_, rfl⟩
  rw [hR, hS, hF] at hdoc
  rw [hR]
  rw [hS] at ks hso hsl
  obtain ⟨n, hn⟩ : ∃ n, S.length = n := ⟨_, rfl⟩
  rw [hn] at ks hsl
  rw [hp] at hU h1 la ⊢
  rw [hm] at hV h1' lb ⊢
  have SU := Lib.hid hU; have SV := Lib.hid hV; have HP := Lib.hid hp; have HM := Lib.hid hm; have KS := Lib.hid ks; have HSO := Lib.hid hso; have HNS := Lib.hid hn; have HR := Lib.hid hdoc; have HFF := Lib.hid hF; have HAP := Lib.hid hap; have IA := Lib.hid ia; have IB := Lib.hid ib
  have e1 : ∀ args w, (callFunc 31 args).run Tryz.prog w = .ok (.enter 31 args) w := enters_of Tryz.func31 (by kernel_rfl) rfl
  clear hU hV hp hm ks hso hn hR hdoc hF hap hS sa sb oa ob ia ib hok hsm
  go_enter Tryz.func19, Tryz.ntmps19
  go_wp2
  go_loopw [5, 6] (fun v i wr => ∃ (k : Nat) (acc : List Nd), k ≤ p ∧ i = .int .i64 k ∧ acc.length = k ∧ Hid (acc = keyD (a.take k)) ∧ wr.ownsRow w.heap.size 40 2 v acc.length (ndsC acc) ∧ Hid (Below w.heap.size w wr)) (fun _ i _ => p - (intOf i).toNat)
  case atStart => exact ⟨0, [], Nat.zero_le _, rfl, rfl, Lib.hid rfl, World.ownsRow_nil _ _ _ _, Lib.hid (Below.refl _ _)⟩
  case round =>
    obtain ⟨k, acc, hk, rfl, hal, HACC, hown, HB⟩ := hrel
    by_cases hlt : k < p
    · have hkl : k < a.length := by rw [HP.out]; exact hlt
      obtain ⟨b0, off, rfl, -, hc0, hc1, hc2⟩ := (SU.out.below HB.out).at k hkl
      have hz3 := keyD_take hkl
      obtain ⟨y, hy⟩ : ∃ y, y = a.getD k zD := ⟨_, rfl⟩
      rw [← hy] at hc0 hc1 hc2 hz3
      obtain ⟨⟨y1, y2⟩, z⟩ := y
      simp only at hc0 hc1 hc2 hz3
      have Z3 := Lib.hid hz3; have HOWN := Lib.hid hown; have HAL := Lib.hid hal
      clear hz3 hy hown
      have hkb : (k : Int) < (p : Int) := by omega
      go_wp2_with (at_builtin; refine wpList_append_new rfl _ _ 22 rfl w.heap.size 40 (.agg #[.string ByteArray.empty, .string ByteArray.empty]) 2 32 Tryz.underlying22 Tryz.info_node rfl (by decide) _ _ _ rfl HOWN.out [.string (mkB y1), .string (mkB y2)] rfl rfl rfl (by omega) (by unfold maxLen; omega) HB.out.size ?_)
      intro v' w' hown' hb'
      have e2 : ndsC acc ++ [.string (mkB y1), .string (mkB y2)] = ndsC (acc ++ [(y1, y2)]) := (ndsC_snoc acc (y1, y2)).symm
      rw [e2] at hown'
      have ho2 : w'.ownsRow w.heap.size 40 2 v' (acc ++ [(y1, y2)]).length (ndsC (acc ++ [(y1, y2)])) := by rw [List.length_append, HAL.out]; exact hown'
      have HO2 := Lib.hid ho2; have HBN := Lib.hid (HB.out.trans hb'.toBelow)
      have HAC : Hid (acc ++ [(y1, y2)] = keyD (a.take (k + 1))) := Lib.hid (by rw [Z3.out, HACC.out])
      clear ho2 hown' hb'
      go_wp2
      go_roundw
      case rel => exact ⟨k + 1, acc ++ [(y1, y2)], by omega, by go_num, by rw [List.length_append, HAL.out]; rfl, HAC, HO2.out, HBN⟩
      case measure => simp [intOf]; omega
    · have e : k = p := by omega
      subst e
      have hac := HACC.out
      rw [List.take_of_length_le (by rw [HP.out]; exact Nat.le_refl _)] at hac
      subst hac
      have HB0 := HB; have HO0 := Lib.hid hown; have HAL0 := Lib.hid hal
      clear hown hal HACC HB
      go_wp2
      go_loopw [5, 7] (fun v i wr => ∃ (k2 : Nat) (acc : List Nd), k2 ≤ m ∧ i = .int .i64 k2 ∧ acc.length = k + k2 ∧ Hid (acc = keyD a ++ keyD (b.take k2)) ∧ wr.ownsRow w.heap.size 40 2 v acc.length (ndsC acc) ∧ Hid (Below w.heap.size w wr)) (fun _ i _ => m - (intOf i).toNat)
      case atStart => exact ⟨0, keyD a, Nat.zero_le _, rfl, HAL0.out, Lib.hid (by simp [keyD]), HO0.out, HB0⟩
      case round =>
        obtain ⟨k2, acc, hk, rfl, hal, HACC, hown, HB⟩ := hrel
        by_cases hlt2 : k2 < m
        · have hkl : k2 < b.length := by rw [HM.out]; exact hlt2
          obtain ⟨b0, off, rfl, -, hc0, hc1, hc2⟩ := (SV.out.below HB.out).at k2 hkl
          have hz3 := keyD_take hkl
          obtain ⟨y, hy⟩ : ∃ y, y = b.getD k2 zD := ⟨_, rfl⟩
          rw [← hy] at hc0 hc1 hc2 hz3
          obtain ⟨⟨y1, y2⟩, z⟩ := y
          simp only at hc0 hc1 hc2 hz3
          have Z3 := Lib.hid hz3; have HOWN := Lib.hid hown; have HAL := Lib.hid hal
          clear hz3 hy hown
          have hkb : (k2 : Int) < (m : Int) := by omega
          go_wp2_with (at_builtin; refine wpList_append_new rfl _ _ 22 rfl w.heap.size 40 (.agg #[.string ByteArray.empty, .string ByteArray.empty]) 2 32 Tryz.underlying22 Tryz.info_node rfl (by decide) _ _ _ rfl HOWN.out [.string (mkB y1), .string (mkB y2)] rfl rfl rfl (by omega) (by unfold maxLen; omega) HB.out.size ?_)
          intro v' w' hown' hb'
          have e2 : ndsC acc ++ [.string (mkB y1), .string (mkB y2)] = ndsC (acc ++ [(y1, y2)]) := (ndsC_snoc acc (y1, y2)).symm
          rw [e2] at hown'
          have ho2 : w'.ownsRow w.heap.size 40 2 v' (acc ++ [(y1, y2)]).length (ndsC (acc ++ [(y1, y2)])) := by rw [List.length_append, HAL.out]; exact hown'
          have HO2 := Lib.hid ho2; have HBN := Lib.hid (HB.out.trans hb'.toBelow)
          have HAC : Hid (acc ++ [(y1, y2)] = keyD a ++ keyD (b.take (k2 + 1))) := Lib.hid (by rw [Z3.out, HACC.out]; exact List.append_assoc _ _ _)
          clear ho2 hown' hb'
          go_wp2
          go_roundw
          case rel => exact ⟨k2 + 1, acc ++ [(y1, y2)], by omega, by go_num, by rw [List.length_append, HAL.out]; rfl, HAC, HO2.out, HBN⟩
          case measure => simp [intOf]; omega
        · have e : k2 = m := by omega
          subst e
          have hac := HACC.out
          rw [List.take_of_length_le (by rw [HM.out]; exact Nat.le_refl _)] at hac
          subst hac
          obtain ⟨a2, c2, rfl, hnd⟩ := ndsO hown
          rw [HAP.out] at hnd ⊢
          have SA := Lib.hid hnd; have B2 := HB
          clear hown hnd hal HACC
          go_upto_region 13 with (go_at_call 24; refine (KS.out _ _ SA.out).mono ?_; rintro e w3 ⟨a3, c3, rfl, hnd, hb3⟩; have SS0 := Lib.hid hnd; have B3 := Lib.hid (below_step B2.out hb3); clear hnd hb3)
          have SS := SS0
          clear SA SS0
          go_loopw [8, 9] (fun v i wr => ∃ (k3 : Nat) (acc : List De), k3 ≤ n ∧ i = .int .i64 k3 ∧ acc.length ≤ k3 ∧ Hid (acc = mkD (S.take k3) F) ∧ wr.ownsRow w3.heap.size 42 3 v acc.length (dfC acc) ∧ Hid (Below w3.heap.size w3 wr)) (fun _ i _ => n - (intOf i).toNat)
          case atStart => exact ⟨0, [], Nat.zero_le _, rfl, Nat.le_refl _, Lib.hid rfl, dfs_row0 _ _, Lib.hid (Below.refl _ _)⟩
          case round =>
            obtain ⟨k3, acc, hk, rfl, hal, HACC, hown, HB⟩ := hrel
            by_cases hlt3 : k3 < n
            · have hkl : k3 < S.length := by rw [HNS.out]; exact hlt3
              obtain ⟨bb, off, rfl, -, cw0, cw1⟩ := (SS.out.below HB.out).at k3 hkl
              have htk := mkD_take hkl F
              have hsm := HSO.out _ (nd_mem hkl)
              obtain ⟨y, hy⟩ : ∃ y, y = S.getD k3 ([], []) := ⟨_, rfl⟩
              rw [← hy] at cw0 cw1 htk hsm
              obtain ⟨y1, y2⟩ := y
              simp only at cw0 cw1
              obtain ⟨z1, hz1⟩ : ∃ z, byD a (y1, y2) = z := ⟨_, rfl⟩
              obtain ⟨z2, hz2⟩ : ∃ z, byD b (y1, y2) = z := ⟨_, rfl⟩
              have k1 := fun wx (hb : Below wr.heap.size wr wx) => refby_any (.slice Aa k ca) a y1 y2 wx (SU.out.below (below_step (below_step B3.out HB.out) hb)) (by rw [HP.out]; omega) IA.out
              have k2 := fun wx (hb : Below wr.heap.size wr wx) => refby_any (.slice Ab k2 cb) b y1 y2 wx (SV.out.below (below_step (below_step B3.out HB.out) hb)) (by rw [HM.out]; omega) IB.out
              have l1 := byD_bound IA.out (y1, y2)
              have l2 := byD_bound IB.out (y1, y2)
              rw [hz1] at k1 l1
              rw [hz2] at k2 l2
              rw [HP.out] at l1
              rw [HM.out] at l2
              have KM1 := Lib.hid k1; have KM2 := Lib.hid k2
              have hfz : F (y1, y2) = z1 + z2 := by rw [← HFF.out, ← hz1, ← hz2]
              obtain ⟨z, hz⟩ : ∃ z, F (y1, y2) = z := ⟨_, rfl⟩
              rw [hz] at htk
              have hwz : IntKind.i64.wrap (z1 + z2) = z := by rw [← hz, hfz]; exact IntWalk.i64_in _ (by omega)
              have HZ := Lib.hid hwz
              clear hwz hfz k1 k2 l1 l2 hz1 hz2
              have HTK := Lib.hid htk; have HOWN := Lib.hid hown; have HLT := Lib.hid hlt3; have HSM := Lib.hid hsm
              clear hy htk hz hown hsm
              have hkb : (k3 : Int) < (n : Int) := by omega
              go_upto_region 15 with fail
              refine rol_run (by kernel_rfl) [[], [], [], [1, 2], [1, 2, 3], [0, 1, 2, 3, 4], [], [], [], [7, 8], [7, 8, 9], [0, 1, 2, 3, 4, 5, 6, 7, 8, 9, 10], [0, 1, 2, 3, 4, 5, 6, 7, 8, 9, 10, 11], [0, 1, 2, 3, 4, 5, 6, 7, 8, 9, 10, 11, 12]] (by kernel_rfl) [47, 48, 49, 50, 51, 52, 53, 54, 55, 56, 57, 58, 59, 10] [[], [], [], [1, 2], [3], [0, 4], [], [], [], [7, 8], [9], [6, 10], [5, 11], [12]] [0, 0, 0, 0, 0, 0, 0, 0, 0, 0, 0, 0, 0, 0] [0, 0, 0, 0, 0, 0, 0, 0, 0, 0, 0, 0, 0, 0] [1000, 1000, 1000, 1000, 1000, 1000, 1000, 1000, 1000, 1000, 1000, 1000, 1000, 1000] [.val 47 (.slice Aa k ca), .val 48 (.slice (some ⟨bb, off, none⟩) n c3), .val 49 (.int .i64 (k3 : Int)), .val 50 (.pointer (some ⟨bb, off + k3 * 2, none⟩)), .val 51 (.agg #[.string (mkB y1), .string (mkB y2)]), .val 52 (.int .i64 z1), .val 53 (.slice Ab k2 cb), .val 54 (.slice (some ⟨bb, off, none⟩) n c3), .val 55 (.int .i64 (k3 : Int)), .val 56 (.pointer (some ⟨bb, off + k3 * 2, none⟩)), .val 57 (.agg #[.string (mkB y1), .string (mkB y2)]), .val 58 (.int .i64 z2), .val 59 (.int .i64 z), .val 10 (.int .i64 z)] (by kernel_rfl) ?_ (wr.heap.size) (wr.heap.size) rfl (Below.refl _ _) rfl (fun _ => 0) ?_ ?_ ?_
              · intro j hj
                have hj3 : j < 14 := hj
                have hj2 : j = 0 ∨ j = 1 ∨ j = 2 ∨ j = 3 ∨ j = 4 ∨ j = 5 ∨ j = 6 ∨ j = 7 ∨ j = 8 ∨ j = 9 ∨ j = 10 ∨ j = 11 ∨ j = 12 ∨ j = 13 := by omega
                clear hj hj3
                rcases hj2 with rfl | rfl | rfl | rfl | rfl | rfl | rfl | rfl | rfl | rfl | rfl | rfl | rfl | rfl
                · exact trivial
                · exact trivial
                · exact trivial
                · exact trivial
                · exact trivial
                · exact trivial
                · exact trivial
                · exact trivial
                · exact trivial
                · exact trivial
                · exact trivial
                · exact trivial
                · exact trivial
                · exact trivial
              · intro j hj0 hj
                exact absurd hj (Nat.not_lt.2 hj0)
              · intro i hi a wx who hG hF
                have hz : a.tmps.size = 72 := hG.size
                have hi3 : i < 14 := hi
                have hi2 : i = 0 ∨ i = 1 ∨ i = 2 ∨ i = 3 ∨ i = 4 ∨ i = 5 ∨ i = 6 ∨ i = 7 ∨ i = 8 ∨ i = 9 ∨ i = 10 ∨ i = 11 ∨ i = 12 ∨ i = 13 := by omega
                clear hi hi3
                rcases hi2 with rfl | rfl | rfl | rfl | rfl | rfl | rfl | rfl | rfl | rfl | rfl | rfl | rfl | rfl
                · exact rol_val rfl rfl rfl (by rw [hz]; decide) (ex_move (Or.inl rfl) (eval_slot ((hG.slots 0 (by decide)).trans rfl))) hG.below
                · exact rol_val rfl rfl rfl (by rw [hz]; decide) (ex_move (Or.inl rfl) (eval_slot ((hG.slots 5 (by decide)).trans rfl))) hG.below
                · exact rol_val rfl rfl rfl (by rw [hz]; decide) (ex_move (Or.inl rfl) (eval_slot ((hG.slots 9 (by decide)).trans rfl))) hG.below
                · exact rol_val rfl rfl rfl (by rw [hz]; decide) (ex_index rfl (eval_slot (hF 1 (by decide))) (eval_slot (hF 2 (by decide))) (idx_nds HLT.out)) hG.below
                · exact rol_val rfl rfl rfl (by rw [hz]; decide) (ex_load rfl (eval_slot (hF 3 (by decide))) (ld_node (cell_keep cw0 hG.below) (cell_keep cw1 hG.below))) hG.below
                · refine rol_call rfl rfl rfl (by rw [hz]; decide) (ex_call rfl (by simp [eval_slot (hF 0 (by decide)), eval_slot (hF 4 (by decide))]) e1) (KM1.out wx hG.below) ?_ hG.below hG.new
                  rintro e w1 ⟨rfl, hb1⟩
                  exact ⟨_, rfl, hb1, .inl rfl⟩
                · exact rol_val rfl rfl rfl (by rw [hz]; decide) (ex_move (Or.inl rfl) (eval_slot ((hG.slots 1 (by decide)).trans rfl))) hG.below
                · exact rol_val rfl rfl rfl (by rw [hz]; decide) (ex_move (Or.inl rfl) (eval_slot ((hG.slots 5 (by decide)).trans rfl))) hG.below
                · exact rol_val rfl rfl rfl (by rw [hz]; decide) (ex_move (Or.inl rfl) (eval_slot ((hG.slots 9 (by decide)).trans rfl))) hG.below
                · exact rol_val rfl rfl rfl (by rw [hz]; decide) (ex_index rfl (eval_slot (hF 7 (by decide))) (eval_slot (hF 8 (by decide))) (idx_nds HLT.out)) hG.below
                · exact rol_val rfl rfl rfl (by rw [hz]; decide) (ex_load rfl (eval_slot (hF 9 (by decide))) (ld_node (cell_keep cw0 hG.below) (cell_keep cw1 hG.below))) hG.below
                · refine rol_call rfl rfl rfl (by rw [hz]; decide) (ex_call rfl (by simp [eval_slot (hF 6 (by decide)), eval_slot (hF 10 (by decide))]) e1) (KM2.out wx hG.below) ?_ hG.below hG.new
                  rintro e w1 ⟨rfl, hb1⟩
                  exact ⟨_, rfl, hb1, .inl rfl⟩
                · exact rol_val rfl rfl rfl (by rw [hz]; decide) (ex_bin rfl (eval_slot (hF 5 (by decide))) (eval_slot (hF 11 (by decide))) (by go_simp) (bin_add HZ.out)) hG.below
                · exact rol_val rfl rfl rfl (by rw [hz]; decide) (ex_move (Or.inr rfl) (eval_slot (hF 12 (by decide)))) hG.below
              · intro a wx who hG hF
                have fv10 : a.tmps.getD 10 undef = .int .i64 z := eval_slot (s := 10) (hF 13 (of_decide_eq_true (by kernel_rfl)) (of_decide_eq_true (by kernel_rfl)))
                have hbx := hG.below
                have hnx := hG.new
                rw [hG.frame]
                simp only [List.foldl_cons, List.foldl_nil, List.setIfInBounds_toArray, List.set_cons_zero, List.set_cons_succ]
                generalize a.tmps.getD 47 undef = u47
                generalize a.tmps.getD 48 undef = u48
                generalize a.tmps.getD 49 undef = u49
                generalize a.tmps.getD 50 undef = u50
                generalize a.tmps.getD 51 undef = u51
                generalize a.tmps.getD 52 undef = u52
                generalize a.tmps.getD 53 undef = u53
                generalize a.tmps.getD 54 undef = u54
                generalize a.tmps.getD 55 undef = u55
                generalize a.tmps.getD 56 undef = u56
                generalize a.tmps.getD 57 undef = u57
                generalize a.tmps.getD 58 undef = u58
                generalize a.tmps.getD 59 undef = u59
                rw [fv10]
                clear hF hG fv10
                replace cw0 := cell_keep cw0 hbx; replace cw1 := cell_keep cw1 hbx
                replace HOWN := Lib.hid (ownsRow_belowB HOWN.out hbx); replace HB := Lib.hid (below_step HB.out hbx)
                clear hbx hnx
                by_cases h0 : z = 0
                · have hz1 : (z != 0) = false := by simp [h0]
                  have HAC : Hid (acc = mkD (S.take (k3 + 1)) F) := Lib.hid (by rw [HTK.out, HACC.out, if_pos h0, List.append_nil])
                  clear h0
                  go_wp2
                  go_roundw
                  case rel => exact ⟨k3 + 1, acc, by omega, by go_num, by omega, HAC, HOWN.out, HB⟩
                  case measure => simp [intOf]; omega
                · have hz1 : (z != 0) = true := by simp [h0]
                  have HAC : Hid (acc ++ [((y1, y2), z)] = mkD (S.take (k3 + 1)) F) := Lib.hid (by rw [HTK.out, HACC.out, if_neg h0])
                  clear h0
                  go_wp2_with (at_builtin; refine wpList_append_new rfl _ _ 24 rfl w3.heap.size 42 zDV 3 40 Tryz.underlying24 Tryz.info_df rfl (by decide) _ _ _ rfl HOWN.out [.string (mkB y1), .string (mkB y2), .int .i64 z] rfl rfl rfl (by omega) (by unfold maxLen; omega) HB.out.size ?_)
                  intro v' w' hown' hb'
                  have e2 : dfC acc ++ [.string (mkB y1), .string (mkB y2), .int .i64 z] = dfC (acc ++ [((y1, y2), z)]) := (dfC_snoc acc ((y1, y2), z)).symm
                  rw [e2] at hown'
                  have ho2 : w'.ownsRow w3.heap.size 42 3 v' (acc ++ [((y1, y2), z)]).length (dfC (acc ++ [((y1, y2), z)])) := by rw [List.length_append]; exact hown'
                  have HO2 := Lib.hid ho2; have HBN := Lib.hid (HB.out.trans hb'.toBelow)
                  clear ho2 hown' hb'
                  go_wp2
                  go_roundw
                  case rel => exact ⟨k3 + 1, acc ++ [((y1, y2), z)], by omega, by go_num, by simp; omega, HAC, HO2.out, HBN⟩
                  case measure => simp [intOf]; omega
            · have e : k3 = n := by omega
              subst e
              have hac := HACC.out
              rw [List.take_of_length_le (by rw [HNS.out]; exact Nat.le_refl _), HR.out] at hac
              subst hac
              go_wp2
              go_ret
              exact ⟨_, rfl, row_base hown B3.out.size, below_step B3.out HB.out⟩
end Go.Proofs.YtopcbmmnjmmoiaaGreat
