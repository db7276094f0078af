/- The chapter's examples of graphs. -/
import Derived.Test.YtfkbpkjejnpaiaaReaT
namespace Go.Proofs.Ytfkbpkjejnpaiaa
open Go.RowKit
set_option linter.unusedVariables false
set_option maxRecDepth 100000

theorem fit_small {l : List Ed} (h : (l.all fun e => decide (-1000 ≤ e.1) && decide (e.1 ≤ 1000) && decide (-1000 ≤ e.2.1) && decide (e.2.1 ≤ 1000) && decide (-1000 ≤ e.2.2) && decide (e.2.2 ≤ 1000)) = true) : ∀ e ∈ l, fitE e := fun e he => by
  have := List.all_eq_true.1 h e he
  simp only [Bool.and_eq_true, decide_eq_true_eq] at this
  exact ⟨⟨by omega, by omega⟩, ⟨by omega, by omega⟩, ⟨by omega, by omega⟩⟩
theorem ex1 : linkK ([], []) (-1) 0 = 0 ∧ linkG ([], []) (-1) 0 = ([(-1, 0, 1)], [0]) ∧ linkD ([], []) (-1) 0 = [0] := by
  have hok : okG ([], []) = true := okG_calc (by decide)
  obtain ⟨h1, h2⟩ := linkL_of hok (-1) 0
  have h3 : linkK ([], []) (-1) 0 = 0 := by rw [h2]; decide
  obtain ⟨h4, h5⟩ := link_vals h3 (E := [(-1, 0, 1)]) (by rw [h1]; decide) (L := [0]) (live_is (by decide))
  exact ⟨h3, h4, by rw [h5]; decide⟩
theorem ex2 : linkK ([(-1, 0, 1)], [0]) (0) 1 = 0 ∧ linkG ([(-1, 0, 1)], [0]) (0) 1 = ([(-1, 0, 1), (0, 1, 1)], [0, 1]) ∧ linkD ([(-1, 0, 1)], [0]) (0) 1 = [1] := by
  have hok : okG ([(-1, 0, 1)], [0]) = true := okG_calc (by decide)
  obtain ⟨h1, h2⟩ := linkL_of hok (0) 1
  have h3 : linkK ([(-1, 0, 1)], [0]) (0) 1 = 0 := by rw [h2]; decide
  obtain ⟨h4, h5⟩ := link_vals h3 (E := [(-1, 0, 1), (0, 1, 1)]) (by rw [h1]; decide) (L := [0, 1]) (live_is (by decide))
  exact ⟨h3, h4, by rw [h5]; decide⟩
theorem ex3 : linkK ([(-1, 0, 1), (0, 1, 1)], [0, 1]) (1) 0 = 0 ∧ linkG ([(-1, 0, 1), (0, 1, 1)], [0, 1]) (1) 0 = ([(-1, 0, 1), (0, 1, 1), (1, 0, 1)], [0, 1]) ∧ linkD ([(-1, 0, 1), (0, 1, 1)], [0, 1]) (1) 0 = [] := by
  have hok : okG ([(-1, 0, 1), (0, 1, 1)], [0, 1]) = true := okG_calc (by decide)
  obtain ⟨h1, h2⟩ := linkL_of hok (1) 0
  have h3 : linkK ([(-1, 0, 1), (0, 1, 1)], [0, 1]) (1) 0 = 0 := by rw [h2]; decide
  obtain ⟨h4, h5⟩ := link_vals h3 (E := [(-1, 0, 1), (0, 1, 1), (1, 0, 1)]) (by rw [h1]; decide) (L := [0, 1]) (live_is (by decide))
  exact ⟨h3, h4, by rw [h5]; decide⟩
theorem ex4 : unlkK ([(-1, 0, 1), (0, 1, 1), (1, 0, 1)], [0, 1]) (-1) 0 = 0 ∧ unlkG ([(-1, 0, 1), (0, 1, 1), (1, 0, 1)], [0, 1]) (-1) 0 = ([(0, 1, 1), (1, 0, 1)], []) ∧ unlkD ([(-1, 0, 1), (0, 1, 1), (1, 0, 1)], [0, 1]) (-1) 0 = [0, 1] := by
  have hok : okG ([(-1, 0, 1), (0, 1, 1), (1, 0, 1)], [0, 1]) = true := okG_calc (by decide)
  obtain ⟨h1, h2⟩ := unlkL_of hok (-1) 0
  have h3 : unlkK ([(-1, 0, 1), (0, 1, 1), (1, 0, 1)], [0, 1]) (-1) 0 = 0 := by rw [h2]; decide
  obtain ⟨h4, h5⟩ := unlk_vals h3 (E := [(0, 1, 1), (1, 0, 1)]) (by rw [h1]; decide) (L := []) (live_is (by decide))
  exact ⟨h3, h4, by rw [h5]; decide⟩
set_option maxHeartbeats 3200000 in
theorem gawake_any (w : World) :
    Calls Try.prog 18 #[] w fun e w' => e = .returned (.bool true) ∧ Below w.heap.size w w' := by
  have BB := Lib.hid (Below.refl w.heap.size w)
  have k1 := fun V w h => link_any V ([], []) (-1) 0 w h (by decide) (by decide) (fun e he => fit_small (by decide) e he) ⟨by decide, by decide⟩ ⟨by decide, by decide⟩
  rw [ex1.1, ex1.2.1, ex1.2.2] at k1
  have K1 := Lib.hid k1
  clear k1
  have k2 := fun V w h => link_any V ([(-1, 0, 1)], [0]) (0) 1 w h (by decide) (by decide) (fun e he => fit_small (by decide) e he) ⟨by decide, by decide⟩ ⟨by decide, by decide⟩
  rw [ex2.1, ex2.2.1, ex2.2.2] at k2
  have K2 := Lib.hid k2
  clear k2
  have k3 := fun V w h => link_any V ([(-1, 0, 1), (0, 1, 1)], [0, 1]) (1) 0 w h (by decide) (by decide) (fun e he => fit_small (by decide) e he) ⟨by decide, by decide⟩ ⟨by decide, by decide⟩
  rw [ex3.1, ex3.2.1, ex3.2.2] at k3
  have K3 := Lib.hid k3
  clear k3
  have k4 := fun V w h => unlk_any V ([(-1, 0, 1), (0, 1, 1), (1, 0, 1)], [0, 1]) (-1) 0 w h (by decide) (by decide) (fun e he => fit_small (by decide) e he) ⟨by decide, by decide⟩ ⟨by decide, by decide⟩
  rw [ex4.1, ex4.2.1, ex4.2.2] at k4
  have K4 := Lib.hid k4
  clear k4
  go_enter Try.func18, Try.ntmps18
  go_upto_region 2 with (go_at_call 20; refine (K1.out _ _ (gra_none _)).mono ?_; rintro e w1 ⟨v1, u1, rfl, hg1, hu1, hb1⟩; obtain ⟨aA, cA, bA, dA, rfl, hG1⟩ := hg1.lens (n := 1) (m := 1) rfl rfl; obtain ⟨aU, cU, rfl, hU1⟩ := intsR hu1 (n := 1) rfl; replace BB := Lib.hid (below_step BB.out hb1); have GA := Lib.hid hG1; have SU := Lib.hid hU1; clear hg1 hu1 hG1 hU1 hb1 K1)
  obtain ⟨WA, pA, hW2, hp2, hr2, hb1⟩ := boxR1 w1 (.slice aA 1 cA) (.slice bA 1 dA) 25
  rw [hW2, hp2]
  have LA := Lib.hid (show w.heap.size ≤ pA from by rw [← hp2]; exact BB.out.size)
  replace GA := Lib.hid (GA.out.below hb1)
  replace SU := Lib.hid (SU.out.belowB hb1)
  replace BB := Lib.hid (below_step BB.out hb1)
  obtain ⟨a0, a1, -, -⟩ := row2 hr2
  have RA := Lib.hid hr2
  clear hW2 hp2 hr2 hb1
  go_upto_region 3 with (go_at_call 20; refine (K2.out _ _ GA.out).mono ?_; rintro e w1 ⟨v1, u1, rfl, hg1, hu1, hb1⟩; obtain ⟨aB, cB, bB, dB, rfl, hG1⟩ := hg1.lens (n := 2) (m := 2) rfl rfl; obtain ⟨aV, cV, rfl, hU1⟩ := intsR hu1 (n := 1) rfl; replace a0 := cell_keep a0 hb1; replace a1 := cell_keep a1 hb1; replace RA := Lib.hid (row_keepB RA.out hb1); replace GA := Lib.hid (GA.out.below hb1); replace SU := Lib.hid (SU.out.belowB hb1); replace BB := Lib.hid (below_step BB.out hb1); have GB := Lib.hid hG1; have SV := Lib.hid hU1; obtain ⟨a0, a1, ff0, ff1⟩ := row2 RA.out; clear hg1 hu1 hG1 hU1 hb1 K2)
  obtain ⟨WY, hWY⟩ : ∃ r, (w1.setCell ⟨pA, 0, none⟩ (.slice aB 2 cB)).setCell ⟨pA, 1, none⟩ (.slice bB 2 dB) = r := ⟨_, rfl⟩
  have hRI := RA.out
  have hRN := row2_set hRI (.slice aB 2 cB) (.slice bB 2 dB)
  have hGA := Gra.set (a' := aB) (n' := 2) (c' := cB) (b' := bB) (m' := 2) (d' := dB) GA.out hRI
  have hGB := Gra.set (a' := aB) (n' := 2) (c' := cB) (b' := bB) (m' := 2) (d' := dB) GB.out hRI
  have hSU := ints_set2 (a' := aB) (n' := 2) (c' := cB) (b' := bB) (m' := 2) (d' := dB) SU.out hRI
  have hSV := ints_set2 (a' := aB) (n' := 2) (c' := cB) (b' := bB) (m' := 2) (d' := dB) SV.out hRI
  have hBN := (BB.out.setCell (p := ⟨pA, 0, none⟩) LA.out (.slice aB 2 cB)).setCell (p := ⟨pA, 1, none⟩) LA.out (.slice bB 2 dB)
  rw [hWY] at hRN hBN hGA hGB hSU hSV ⊢
  clear hWY hRI ff0 ff1 a0 a1
  replace GA := Lib.hid hGA
  replace GB := Lib.hid hGB
  replace SU := Lib.hid hSU
  replace SV := Lib.hid hSV
  replace RA := Lib.hid hRN
  replace BB := Lib.hid hBN
  clear hRN hBN hGA hGB hSU hSV
  obtain ⟨a0, a1, -, -⟩ := row2 RA.out
  clear GA
  go_upto_region 4 with (go_at_call 20; refine (K3.out _ _ GB.out).mono ?_; rintro e w1 ⟨v1, u1, rfl, hg1, hu1, hb1⟩; obtain ⟨aC, cC, bC, dC, rfl, hG1⟩ := hg1.lens (n := 3) (m := 2) rfl rfl; obtain ⟨aX, cX, rfl, hU1⟩ := intsR hu1 (n := 0) rfl; replace a0 := cell_keep a0 hb1; replace a1 := cell_keep a1 hb1; replace RA := Lib.hid (row_keepB RA.out hb1); replace GB := Lib.hid (GB.out.below hb1); replace SU := Lib.hid (SU.out.belowB hb1); replace SV := Lib.hid (SV.out.belowB hb1); replace BB := Lib.hid (below_step BB.out hb1); have GC := Lib.hid hG1; have SX := Lib.hid hU1; obtain ⟨a0, a1, ff0, ff1⟩ := row2 RA.out; clear hg1 hu1 hG1 hU1 hb1 K3)
  obtain ⟨WY, hWY⟩ : ∃ r, (w1.setCell ⟨pA, 0, none⟩ (.slice aC 3 cC)).setCell ⟨pA, 1, none⟩ (.slice bC 2 dC) = r := ⟨_, rfl⟩
  have hRI := RA.out
  have hRN := row2_set hRI (.slice aC 3 cC) (.slice bC 2 dC)
  have hGB := Gra.set (a' := aC) (n' := 3) (c' := cC) (b' := bC) (m' := 2) (d' := dC) GB.out hRI
  have hGC := Gra.set (a' := aC) (n' := 3) (c' := cC) (b' := bC) (m' := 2) (d' := dC) GC.out hRI
  have hSU := ints_set2 (a' := aC) (n' := 3) (c' := cC) (b' := bC) (m' := 2) (d' := dC) SU.out hRI
  have hSV := ints_set2 (a' := aC) (n' := 3) (c' := cC) (b' := bC) (m' := 2) (d' := dC) SV.out hRI
  have hSX := ints_set2 (a' := aC) (n' := 3) (c' := cC) (b' := bC) (m' := 2) (d' := dC) SX.out hRI
  have hBN := (BB.out.setCell (p := ⟨pA, 0, none⟩) LA.out (.slice aC 3 cC)).setCell (p := ⟨pA, 1, none⟩) LA.out (.slice bC 2 dC)
  rw [hWY] at hRN hBN hGB hGC hSU hSV hSX ⊢
  clear hWY hRI ff0 ff1 a0 a1
  replace GB := Lib.hid hGB
  replace GC := Lib.hid hGC
  replace SU := Lib.hid hSU
  replace SV := Lib.hid hSV
  replace SX := Lib.hid hSX
  replace RA := Lib.hid hRN
  replace BB := Lib.hid hBN
  clear hRN hBN hGB hGC hSU hSV hSX
  obtain ⟨a0, a1, -, -⟩ := row2 RA.out
  clear GB
  go_upto_region 5 with (go_at_call 25; refine (K4.out _ _ GC.out).mono ?_; rintro e w1 ⟨v1, u1, rfl, hg1, hu1, hb1⟩; obtain ⟨aD, cD, bD, dD, rfl, hG1⟩ := hg1.lens (n := 2) (m := 0) rfl rfl; obtain ⟨aY, cY, rfl, hU1⟩ := intsR hu1 (n := 2) rfl; replace a0 := cell_keep a0 hb1; replace a1 := cell_keep a1 hb1; replace RA := Lib.hid (row_keepB RA.out hb1); replace GC := Lib.hid (GC.out.below hb1); replace SU := Lib.hid (SU.out.belowB hb1); replace SV := Lib.hid (SV.out.belowB hb1); replace SX := Lib.hid (SX.out.belowB hb1); replace BB := Lib.hid (below_step BB.out hb1); have GD := Lib.hid hG1; have SY := Lib.hid hU1; clear hg1 hu1 hG1 hU1 hb1 K4)
  obtain ⟨WD, pD, hW2, hp2, hr2, hb1⟩ := boxR1 w1 (.slice aD 2 cD) (.slice bD 0 dD) 25
  rw [hW2, hp2]
  have LD := Lib.hid (show w.heap.size ≤ pD from by rw [← hp2]; exact BB.out.size)
  replace a0 := cell_keep a0 hb1
  replace a1 := cell_keep a1 hb1
  replace RA := Lib.hid (row_keepB RA.out hb1)
  replace GC := Lib.hid (GC.out.below hb1)
  replace GD := Lib.hid (GD.out.below hb1)
  replace SU := Lib.hid (SU.out.belowB hb1)
  replace SV := Lib.hid (SV.out.belowB hb1)
  replace SX := Lib.hid (SX.out.belowB hb1)
  replace SY := Lib.hid (SY.out.belowB hb1)
  replace BB := Lib.hid (below_step BB.out hb1)
  obtain ⟨d0, d1, -, -⟩ := row2 hr2
  have RD := Lib.hid hr2
  clear hW2 hp2 hr2 hb1
  go_wp2
  go_ret
  exact ⟨rfl, BB.out⟩
end Go.Proofs.Ytfkbpkjejnpaiaa
