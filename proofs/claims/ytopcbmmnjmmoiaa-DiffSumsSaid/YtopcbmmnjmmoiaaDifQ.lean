/- The chapter's examples. -/
import Derived.Test.YtopcbmmnjmmoiaaDifP
namespace Go.Proofs.Ytopcbmmnjmmoiaa
open Go.RowKit
set_option linter.unusedVariables false
set_option maxRecDepth 100000

theorem nds_blk {w : World} {b : Nat} {l : List Nd} (h : w.heap[b]? = some (.cells (ndsC l).toArray 30 (0, 0))) (hl : l.length ≤ 1000) : Nds w (.slice (some ⟨b, 0, none⟩) l.length l.length) l :=
  Nds.owned (base := 0) (e := 30) ⟨ndsC_len l, .inr ⟨b, l.length, _, rfl, Nat.zero_le _, h, Nat.le_refl _, by unfold maxLen; omega, by rw [List.size_toArray, ndsC_len], by rw [List.take_of_length_le (by simp [ndsC_len])]⟩⟩
theorem dfs_blk {w : World} {b : Nat} {l : List De} (h : w.heap[b]? = some (.cells (dfC l).toArray 32 (0, 0))) (hl : l.length ≤ 1000) : Dfs w (.slice (some ⟨b, 0, none⟩) l.length l.length) l :=
  Dfs.owned (base := 0) (e := 32) (rowC_own h rfl (by omega) (Nat.zero_le _))
theorem turn_small {l : List De} (h : ∀ e ∈ l, smallD e) (o : okD l = true) : ∀ e ∈ turnD l, smallD e := fun e he => by
  obtain ⟨x, hx, rfl⟩ := List.mem_map.1 he
  have h1 := inD_iff.1 (okD_in o x hx)
  exact ⟨(h x hx).1, by unfold fitI; simp only; omega⟩
def vOne : List UInt8 := [118, 49, 46, 48, 46, 48]
abbrev nA : Nd := ([97], [118, 49, 46, 48, 46, 48])
abbrev nB : Nd := ([98], [118, 49, 46, 48, 46, 48])
abbrev nC : Nd := ([99], [118, 49, 46, 48, 46, 48])
theorem exD1 : diffE [nA, nA, nB] [nB, nC] = ([(nA, -2), (nC, 1)], 0) := by decide +kernel
theorem mergeD_ex : mergeD [(nA, 1)] [(nA, -1)] = [] := by
  rw [merge_0 (x := (nA, 1)) (y := (nA, -1)) (a := []) (b := []) rfl (by decide), merge_nilL]
theorem exD2 : bothE [(nA, 1)] [(nA, -1)] = ([], 0) := by
  have h1 : (okD [(nA, 1)] && okD [(nA, -1)]) = true := by decide +kernel
  have h2 : okD (mergeD [(nA, 1)] [(nA, -1)]) = true := by rw [mergeD_ex]; rfl
  rw [bothE_yes h1 h2, mergeD_ex]
theorem smA : smallN nA := ⟨by decide, by decide⟩
theorem smB : smallN nB := ⟨by decide, by decide⟩
theorem smC : smallN nC := ⟨by decide, by decide⟩
theorem boxN3 (w : World) (a b c d e f : Value) (t : TypeId) : ∃ W g1 g2 g3, ((w.alloc (.cells #[a, b] t)).alloc (.cells #[c, d] t)).alloc (.cells #[e, f] t) = W ∧ w.heap.size = g1 ∧ w.heap.size + 1 = g2 ∧ w.heap.size + 1 + 1 = g3 ∧ W.cell? ⟨g1, 0, none⟩ = some a ∧ W.cell? ⟨g1, 1, none⟩ = some b ∧ W.cell? ⟨g2, 0, none⟩ = some c ∧ W.cell? ⟨g2, 1, none⟩ = some d ∧ W.cell? ⟨g3, 0, none⟩ = some e ∧ W.cell? ⟨g3, 1, none⟩ = some f ∧ Below w.heap.size w W :=
  ⟨_, _, _, _, rfl, rfl, rfl, rfl, cell_alloc (cell_alloc (cell_new rfl rfl) _) _, cell_alloc (cell_alloc (cell_new rfl rfl) _) _, cell_alloc (cell_new (by simp) rfl) _, cell_alloc (cell_new (by simp) rfl) _, cell_new (by simp) rfl, cell_new (by simp) rfl, (((Below.refl _ _).alloc (Nat.le_refl _) _).alloc (by simp) _).alloc (by simp; omega) _⟩

set_option maxHeartbeats 3200000 in
theorem dawake_any (w : World) : Calls Try.prog 7 #[] w fun e w' => e = .returned (.bool true) ∧ Below w.heap.size w w' := by
  have h1 := fun U V w hu hv => diff_any U V [nA, nA, nB] [nB, nC] w hu hv (by intro n hn; simp at hn; rcases hn with rfl | rfl <;> first | exact smA | exact smB) (by intro n hn; simp at hn; rcases hn with rfl | rfl <;> first | exact smB | exact smC) (by decide) (by decide)
  have h2 := fun U V w hu hv => both_any U V [(nA, 1)] [(nA, -1)] w hu hv (by intro n hn; simp at hn; subst hn; exact ⟨smA, by unfold fitI; decide⟩) (by intro n hn; simp at hn; subst hn; exact ⟨smA, by unfold fitI; decide⟩) (by decide) (by decide)
  rw [exD1] at h1
  rw [exD2] at h2
  simp only at h1 h2
  go_enter Try.func7, Try.ntmps7
  go_upto_region 2 with fail
  obtain ⟨W, g1, g2, g3, hW, hg1, hg2, hg3, a0, a1, b0, b1, c0, c1, hb⟩ := boxN3 w (.string (mkB [97])) (.string (mkB [118, 49, 46, 48, 46, 48])) (.string (mkB [98])) (.string (mkB [118, 49, 46, 48, 46, 48])) (.string (mkB [99])) (.string (mkB [118, 49, 46, 48, 46, 48])) 30
  change Code.wp _ _ _ _ (((w.alloc (.cells #[.string (mkB [97]), .string (mkB [118, 49, 46, 48, 46, 48])] 30)).alloc (.cells #[.string (mkB [98]), .string (mkB [118, 49, 46, 48, 46, 48])] 30)).alloc (.cells #[.string (mkB [99]), .string (mkB [118, 49, 46, 48, 46, 48])] 30))
  rw [hW, hg3, hg2, hg1]
  have B := Lib.hid hb
  have hu : Nds ((W.alloc (.cells #[.string (mkB [97]), .string (mkB [118, 49, 46, 48, 46, 48]), .string (mkB [97]), .string (mkB [118, 49, 46, 48, 46, 48]), .string (mkB [98]), .string (mkB [118, 49, 46, 48, 46, 48])] 30)).alloc (.cells #[.string (mkB [98]), .string (mkB [118, 49, 46, 48, 46, 48]), .string (mkB [99]), .string (mkB [118, 49, 46, 48, 46, 48])] 30)) (.slice (some ⟨W.heap.size, 0, none⟩) 3 3) [nA, nA, nB] := (nds_blk (l := [nA, nA, nB]) (heap_alloc_new W _) (by decide)).below ((Below.refl _ _).alloc (Nat.le_refl _) _)
  have hv : Nds ((W.alloc (.cells #[.string (mkB [97]), .string (mkB [118, 49, 46, 48, 46, 48]), .string (mkB [97]), .string (mkB [118, 49, 46, 48, 46, 48]), .string (mkB [98]), .string (mkB [118, 49, 46, 48, 46, 48])] 30)).alloc (.cells #[.string (mkB [98]), .string (mkB [118, 49, 46, 48, 46, 48]), .string (mkB [99]), .string (mkB [118, 49, 46, 48, 46, 48])] 30)) (.slice (some ⟨W.heap.size + 1, 0, none⟩) 2 2) [nB, nC] := by
    have := nds_blk (l := [nB, nC]) (heap_alloc_new (W.alloc (.cells #[.string (mkB [97]), .string (mkB [118, 49, 46, 48, 46, 48]), .string (mkB [97]), .string (mkB [118, 49, 46, 48, 46, 48]), .string (mkB [98]), .string (mkB [118, 49, 46, 48, 46, 48])] 30)) (.cells #[.string (mkB [98]), .string (mkB [118, 49, 46, 48, 46, 48]), .string (mkB [99]), .string (mkB [118, 49, 46, 48, 46, 48])] 30)) (by decide)
    simpa using this
  have hbb : Below W.heap.size W ((W.alloc (.cells #[.string (mkB [97]), .string (mkB [118, 49, 46, 48, 46, 48]), .string (mkB [97]), .string (mkB [118, 49, 46, 48, 46, 48]), .string (mkB [98]), .string (mkB [118, 49, 46, 48, 46, 48])] 30)).alloc (.cells #[.string (mkB [98]), .string (mkB [118, 49, 46, 48, 46, 48]), .string (mkB [99]), .string (mkB [118, 49, 46, 48, 46, 48])] 30)) := ((Below.refl _ _).alloc (Nat.le_refl _) _).alloc (by simp) _
  have HU := Lib.hid hu; have HV := Lib.hid hv; have HBB := Lib.hid hbb
  clear hW hg1 hg2 hg3 hb hu hv hbb
  have b0' := fun o => cell_alloc b0 o
  have b1' := fun o => cell_alloc b1 o
  have c0' := fun o => cell_alloc c0 o
  have c1' := fun o => cell_alloc c1 o
  go_upto_region 3 with (go_at_call 6; refine (h1 _ _ _ HU.out HV.out).mono ?_; rintro e w1 ⟨v1, rfl, hrow, hb1⟩; have hbw := below_step HBB.out hb1; have HR1 := Lib.hid hrow; replace a0 := cell_keep a0 hbw; replace a1 := cell_keep a1 hbw; replace c0 := cell_keep c0 hbw; replace c1 := cell_keep c1 hbw; replace B := Lib.hid (below_step B.out hbw); clear hb1 hbw hrow h1 HU HV HBB b0 b1 b0' b1' c0' c1')
  obtain ⟨k1, j1, rfl, hD⟩ := dfsO HR1.out
  have D1 := Lib.hid hD
  clear hD HR1
  have hu : Dfs ((w1.alloc (.cells #[.string (mkB [97]), .string (mkB [118, 49, 46, 48, 46, 48]), .int .i64 1] 32)).alloc (.cells #[.string (mkB [97]), .string (mkB [118, 49, 46, 48, 46, 48]), .int .i64 (-1)] 32)) (.slice (some ⟨w1.heap.size, 0, none⟩) 1 1) [(nA, 1)] := (dfs_blk (l := [(nA, 1)]) (heap_alloc_new w1 _) (by decide)).below ((Below.refl _ _).alloc (Nat.le_refl _) _)
  have hv : Dfs ((w1.alloc (.cells #[.string (mkB [97]), .string (mkB [118, 49, 46, 48, 46, 48]), .int .i64 1] 32)).alloc (.cells #[.string (mkB [97]), .string (mkB [118, 49, 46, 48, 46, 48]), .int .i64 (-1)] 32)) (.slice (some ⟨w1.heap.size + 1, 0, none⟩) 1 1) [(nA, -1)] := by
    have := dfs_blk (l := [(nA, -1)]) (heap_alloc_new (w1.alloc (.cells #[.string (mkB [97]), .string (mkB [118, 49, 46, 48, 46, 48]), .int .i64 1] 32)) (.cells #[.string (mkB [97]), .string (mkB [118, 49, 46, 48, 46, 48]), .int .i64 (-1)] 32)) (by decide)
    simpa using this
  have hbb : Below w1.heap.size w1 ((w1.alloc (.cells #[.string (mkB [97]), .string (mkB [118, 49, 46, 48, 46, 48]), .int .i64 1] 32)).alloc (.cells #[.string (mkB [97]), .string (mkB [118, 49, 46, 48, 46, 48]), .int .i64 (-1)] 32)) := ((Below.refl _ _).alloc (Nat.le_refl _) _).alloc (by simp) _
  have HU := Lib.hid hu; have HV := Lib.hid hv; have HBB := Lib.hid hbb
  clear hu hv hbb
  have a0' := fun o => cell_alloc a0 o
  have a1' := fun o => cell_alloc a1 o
  go_upto_region 4 with (go_at_call 11; refine (h2 _ _ _ HU.out HV.out).mono ?_; rintro e w2 ⟨v2, rfl, hrow, hb1⟩; have hbw := below_step HBB.out hb1; have HR2 := Lib.hid hrow; replace D1 := Lib.hid (D1.out.below hbw); replace a0 := cell_keep a0 hbw; replace a1 := cell_keep a1 hbw; replace c0 := cell_keep c0 hbw; replace c1 := cell_keep c1 hbw; replace B := Lib.hid (below_step B.out hbw); clear hb1 hbw hrow h2 HU HV HBB a0' a1')
  obtain ⟨k2, j2, rfl, -⟩ := dfsO HR2.out
  obtain ⟨b, off, rfl, -, d0, d1, d2⟩ := D1.out.at 0 (by decide)
  obtain ⟨b', off', hab, -, e0, e1, e2⟩ := D1.out.at 1 (by decide)
  injection hab with hab
  injection hab with q1 q2
  subst q1 q2
  simp only [Nat.zero_mul, Nat.add_zero, Nat.one_mul] at d0 d1 d2 e0 e1 e2
  have hgd := guard_df
  have hq1 := eq_df [97] [118, 49, 46, 48, 46, 48] [97] [118, 49, 46, 48, 46, 48] (-2) (-2)
  have hq2 := eq_df [99] [118, 49, 46, 48, 46, 48] [99] [118, 49, 46, 48, 46, 48] 1 1
  rw [decide_eq_true rfl] at hq1 hq2
  simp only [List.length_nil]
  go_quiet (fail)
  go_wp2
  go_ret
  exact ⟨rfl, below_step B.out (below_q ⟨nq, rfl⟩)⟩
end Go.Proofs.Ytopcbmmnjmmoiaa
