/- Of every edges (no more of them than are looked at): what is reached is an edge's To, rising; what Root leads to is reached; without an edge from Root nothing is; no condition. -/
import Derived.Test.YtfkbpkjejnpaiaaRows
import Derived.Test.YtfkbpkjejnpaiaaReaV
import Derived.ProofKit
import Derived.OpenShut
import Derived.ShutString
import Derived.ChangeOld
namespace Go.Proofs.Ytfkbpkjejnpaiaa.reachEnds
open Go.ChangeShapes Go.WideShapes Go.ChangeAt Go.RowKit
open Go.ChangeMaps (open_string shut_string)
set_option maxRecDepth 100000
set_option linter.unusedVariables false

theorem live_back {x : List Ed} {z : Int} (h : z ∈ liveE x) : 0 < (backE x z).length := by
  obtain ⟨e, he, rfl⟩ := live_to h
  unfold backE
  rw [List.length_map]
  exact List.length_pos_of_mem (List.mem_filter.2 ⟨he, by simp⟩)
theorem root_live {x : List Ed} (hok : okE x = true) {z : Int} (h : z ∈ nextE x (-1)) : z ∈ liveE x := by
  have h1 := next_to.1 h
  have := (to_ok hok h1).2
  exact live_mem.2 ⟨by omega, Way.here.on h1⟩
theorem root_some {x : List Ed} (hok : okE x = true) : 0 < (nextE x (-1)).length ↔ 0 < (liveE x).length := by
  constructor
  · intro h
    obtain ⟨z, hz⟩ := List.exists_mem_of_length_pos h
    exact List.length_pos_of_mem (root_live hok hz)
  · intro h
    obtain ⟨z, hz⟩ := List.exists_mem_of_length_pos h
    rcases Nat.eq_zero_or_pos (nextE x (-1)).length with h0 | h0
    · exfalso
      obtain ⟨h1, h2⟩ := live_mem.1 hz
      have := h2.closed (P := fun y => y = -1) (fun a b ha hab => by
        subst ha
        have := next_to.2 hab
        rw [List.eq_nil_of_length_eq_zero h0] at this; cases this) rfl
      exact h1 this
    · exact h0
theorem rise_at {l : List Int} (h : l.Pairwise (· < ·)) {k : Nat} (hk : k + 1 < l.length) : l.getD k 0 < l.getD (k + 1) 0 := by
  have := List.pairwise_iff_getElem.1 h k (k + 1) (by omega) hk (Nat.lt_succ_self k)
  simpa [List.getD_eq_getElem?_getD, List.getElem?_eq_getElem hk, List.getElem?_eq_getElem (show k < l.length by omega)] using this
set_option maxRecDepth 100000 in
set_option maxHeartbeats 6400000 in
theorem walk (U : Value) (l0 : List Ed) (w : World) (hU : Eds w U l0 ∧ ∀ e ∈ l0, fitE e) :
    Calls Try.prog 9 #[U] w fun e w' => e = .returned (.bool true) ∧ Below w.heap.size w w' := by
  obtain ⟨hU, fU⟩ := hU
  obtain ⟨a1, c1, rfl, -⟩ := hU.ex
  have k1 := fun w h => efewP_any a1 c1 l0 w h
  have hsx := eds_few hU
  obtain ⟨x, hx⟩ : ∃ x, fewE l0 = x := ⟨_, rfl⟩
  have hxl := fewE_len l0
  have hxf : ∀ e ∈ x, fitE e := by rw [← hx]; exact fun e he => fU e (List.mem_of_mem_take he)
  rw [hx] at k1 hsx hxl
  obtain ⟨nx, hnx⟩ : ∃ n, x.length = n := ⟨_, rfl⟩
  rw [hnx] at k1 hsx hxl
  have ko := fun V w h => gof_any V x w h (by rw [hnx]; omega) hxf
  have kn := fun V w h => refnext_any V x (-1) w h (by rw [hnx]; omega)
  have kb := fun V z w h => refback_any V x z w h (by rw [hnx]; omega)
  obtain ⟨n1, hn1⟩ : ∃ n, l0.length = n := ⟨_, rfl⟩
  simp only [hn1] at hU k1 ⊢
  have SU := Lib.hid hU; have K1 := Lib.hid k1; have HSX := Lib.hid hsx; have KO := Lib.hid ko; have KN := Lib.hid kn; have KB := Lib.hid kb; have BB := Lib.hid (Below.refl w.heap.size w); have HNX := Lib.hid hnx
  clear hU fU k1 hsx hx hxf ko kn kb hn1 hnx
  obtain ⟨ox, hox⟩ : ∃ o, okE x = o := ⟨_, rfl⟩
  obtain ⟨GE, hGE⟩ : ∃ r, gOf x = r := ⟨_, rfl⟩
  obtain ⟨KX, hKX⟩ : ∃ r, chkE x = r := ⟨_, rfl⟩
  rw [hGE, hKX] at KO
  obtain ⟨E, Lv⟩ := GE
  simp only at KO
  obtain ⟨ne, hne⟩ : ∃ n, E.length = n := ⟨_, rfl⟩
  obtain ⟨me, hme⟩ : ∃ n, Lv.length = n := ⟨_, rfl⟩
  have HNE := Lib.hid hne; have HME := Lib.hid hme
  cases ox
  · have hk1 : KX = 1 := by unfold chkE at hKX; rw [hox] at hKX; exact hKX.symm
    subst hk1
    clear hne hme hGE hKX hox
    go_enter Try.func9, Try.ntmps9
    go_upto_region 2 with (go_at_call 10; refine (K1.out _ SU.out).mono ?_; rintro e w1 ⟨rfl, he1⟩; have hb1 : Below w.heap.size w w1 := he1 ▸ Below.refl _ _; replace BB := Lib.hid hb1; have SX := Lib.hid (HSX.out.below hb1); clear K1 SU HSX he1 hb1)
    go_upto_region 3 with (go_at_call 12; refine (KO.out _ _ SX.out).mono ?_; rintro e w1 ⟨v1, rfl, hg1, hb1⟩; obtain ⟨aX, cX, bX, dX, rfl, hG1⟩ := hg1.lens (n := ne) (m := me) HNE.out HME.out; replace SX := Lib.hid (SX.out.below hb1); replace BB := Lib.hid (below_step BB.out hb1); have GX := Lib.hid hG1; clear hg1 hG1 hb1 KO)
    obtain ⟨WX, pX, hW2, hp2, hr2, hb1⟩ := boxR1 w1 (.slice aX ne cX) (.slice bX me dX) 25
    rw [hW2, hp2]
    have LX := Lib.hid (show w.heap.size ≤ pX from by rw [← hp2]; exact BB.out.size)
    replace GX := Lib.hid (GX.out.below hb1)
    replace SX := Lib.hid (SX.out.below hb1)
    replace BB := Lib.hid (below_step BB.out hb1)
    obtain ⟨x0, x1, -, -⟩ := row2 hr2
    have RX := Lib.hid hr2
    clear hW2 hp2 hr2 hb1
    go_wp2_with (go_at_call 18; refine (gawake_any _).mono ?_; rintro e w9 ⟨rfl, hb1⟩; replace x0 := cell_keep x0 hb1; replace x1 := cell_keep x1 hb1; replace RX := Lib.hid (row_keepB RX.out hb1); replace GX := Lib.hid (GX.out.below hb1); replace SX := Lib.hid (SX.out.below hb1); replace BB := Lib.hid (below_step BB.out hb1); clear hb1)
    go_ret
    exact ⟨rfl, BB.out⟩
  · rw [gOf_ok hox] at hGE
    injection hGE with hz1 hz2
    have hk1 : KX = 0 := by unfold chkE at hKX; rw [hox] at hKX; exact hKX.symm
    subst hz1 hk1
    have hle : me ≤ 40 := by have := live_len x; rw [hz2, hme, HNX.out] at this; omega
    have hrise : Lv.Pairwise (· < ·) := by rw [← hz2]; exact live_pw x
    have hback : ∀ z ∈ Lv, 0 < (backE x z).length := by rw [← hz2]; exact fun z hz => live_back hz
    have hroot : ∀ z ∈ nextE x (-1), z ∈ Lv := by rw [← hz2]; exact fun z hz => root_live hox hz
    have hsome := root_some hox
    rw [hz2, hme] at hsome
    obtain ⟨Rt, hRt⟩ : ∃ r, nextE x (-1) = r := ⟨_, rfl⟩
    rw [hRt] at KN hroot hsome
    obtain ⟨nr, hnr⟩ : ∃ n, Rt.length = n := ⟨_, rfl⟩
    have hnr40 : nr ≤ 40 := by have := nextE_len x (-1); rw [hRt, hnr, HNX.out] at this; omega
    rw [hnr] at hsome
    have HRISE := Lib.hid hrise; have HBACK := Lib.hid hback; have HROOT := Lib.hid hroot; have HSOME := Lib.hid hsome; have HNR := Lib.hid hnr
    clear hne hme hKX hox hz2 hrise hback hroot hsome hRt hnr
    have e1 : ∀ args w, (callFunc 26 args).run Try.prog w = .ok (.enter 26 args) w := enters_of Try.func26 (by kernel_rfl) rfl
    go_enter Try.func9, Try.ntmps9
    go_upto_region 2 with (go_at_call 10; refine (K1.out _ SU.out).mono ?_; rintro e w1 ⟨rfl, he1⟩; have hb1 : Below w.heap.size w w1 := he1 ▸ Below.refl _ _; replace BB := Lib.hid hb1; have SX := Lib.hid (HSX.out.below hb1); clear K1 SU HSX he1 hb1)
    go_upto_region 3 with (go_at_call 12; refine (KO.out _ _ SX.out).mono ?_; rintro e w1 ⟨v1, rfl, hg1, hb1⟩; obtain ⟨aX, cX, bX, dX, rfl, hG1⟩ := hg1.lens (n := ne) (m := me) HNE.out HME.out; replace SX := Lib.hid (SX.out.below hb1); replace BB := Lib.hid (below_step BB.out hb1); have GX := Lib.hid hG1; clear hg1 hG1 hb1 KO)
    obtain ⟨WX, pX, hW2, hp2, hr2, hb1⟩ := boxR1 w1 (.slice aX ne cX) (.slice bX me dX) 25
    rw [hW2, hp2]
    have LX := Lib.hid (show w.heap.size ≤ pX from by rw [← hp2]; exact BB.out.size)
    replace GX := Lib.hid (GX.out.below hb1)
    replace SX := Lib.hid (SX.out.below hb1)
    replace BB := Lib.hid (below_step BB.out hb1)
    obtain ⟨x0, x1, -, -⟩ := row2 hr2
    have RX := Lib.hid hr2
    clear hW2 hp2 hr2 hb1
    go_upto_region 6 with (go_at_call 28; refine (KN.out _ _ SX.out).mono ?_; rintro e w1 ⟨v1, rfl, hrow, hb1⟩; replace x0 := cell_keep x0 hb1; replace x1 := cell_keep x1 hb1; replace RX := Lib.hid (row_keepB RX.out hb1); replace GX := Lib.hid (GX.out.below hb1); replace SX := Lib.hid (SX.out.below hb1); replace BB := Lib.hid (below_step BB.out hb1); obtain ⟨aT, cT, rfl, hd⟩ := intsR hrow HNR.out; have ST := Lib.hid hd; clear hrow hd hb1 KN)
    go_wp2
    obtain ⟨wz, hwz⟩ : ∃ r, r = w1 := ⟨_, rfl⟩
    subst hwz
    clear x0 x1
    go_loopw [6] (fun i wr => ∃ k : Nat, k ≤ me ∧ i = .int .i64 k ∧ Hid (Below wz.heap.size wz wr)) (fun i _ => me - (numR i).toNat)
    case atStart => exact ⟨0, Nat.zero_le _, rfl, Lib.hid (Below.refl _ _)⟩
    case round =>
      obtain ⟨k, hk, rfl, HB⟩ := hrel
      by_cases hlt : k < me
      · have hkl : k < Lv.length := by rw [HME.out]; exact hlt
        have RXk := Lib.hid (row_keepB RX.out HB.out)
        have SXk := Lib.hid (SX.out.below HB.out)
        have GXk := Lib.hid (GX.out.below HB.out)
        have STk := Lib.hid (ST.out.belowB HB.out)
        have BBk := Lib.hid (below_step BB.out HB.out)
        have hlv := gra_snd GXk.out
        obtain ⟨gb, go, rfl⟩ := hlv.some (by omega)
        have hck := hlv.cell k hlt
        have hnb := HBACK.out _ (int_mem hkl)
        obtain ⟨z, hz⟩ : ∃ z, z = Lv.getD k 0 := ⟨_, rfl⟩
        rw [← hz] at hck hnb
        obtain ⟨nb, hnb2⟩ : ∃ n, (backE x z).length = n := ⟨_, rfl⟩
        rw [hnb2] at hnb
        have HNB := Lib.hid hnb2; have HNBP := Lib.hid hnb; have HZ := Lib.hid hz
        obtain ⟨x0, x1, -, -⟩ := row2 RXk.out
        have hkm : (k : Int) < (me : Int) := by omega
        clear hnb2 hnb hz hlv
        rcases Nat.eq_zero_or_pos k with h0 | hp
        · have HKP := Lib.hid h0
          clear h0
          go_upto_region 9 with fail
          refine rol_run (by kernel_rfl) [[], [], [1], [], [1, 2, 3], [1, 2, 3, 4], [0, 1, 2, 3, 4, 5], [0, 1, 2, 3, 4, 5, 6], [0, 1, 2, 3, 4, 5, 6, 7], [0, 1, 2, 3, 4, 5, 6, 7, 8], [0, 1, 2, 3, 4, 5, 6, 7, 8, 9], [0, 1, 2, 3, 4, 5, 6, 7, 8, 9, 10], [0, 1, 2, 3, 4, 5, 6, 7, 8, 9, 10, 11], [0, 1, 2, 3, 4, 5, 6, 7, 8, 9, 10, 11, 12], [0, 1, 2, 3, 4, 5, 6, 7, 8, 9, 10, 11, 12, 13], [0, 1, 2, 3, 4, 5, 6, 7, 8, 9, 10, 11, 12], [0, 1, 2, 3, 4, 5, 6, 7, 8, 9, 10, 11, 12, 13, 14, 15], [0, 1, 2, 3, 4, 5, 6, 7, 8, 9, 10, 11, 12, 13, 14, 15, 16], [0, 1, 2, 3, 4, 5, 6, 7, 8, 9, 10, 11, 12], [0, 1, 2, 3, 4, 5, 6, 7, 8, 9, 10, 11, 12, 18], [0, 1, 2, 3, 4, 5, 6, 7, 8, 9, 10, 11, 12], [0, 1, 2, 3, 4, 5, 6, 7, 8, 9, 10, 11, 12, 20], [0, 1, 2, 3, 4, 5, 6, 7, 8, 9, 10, 11, 12, 18, 19, 20, 21], [0, 1, 2, 3, 4, 5, 6, 7, 8, 9, 10, 11, 12, 18, 19, 20, 21, 22], [0, 1, 2, 3, 4, 5, 6, 7, 8, 9, 10, 11, 12, 13, 14, 15, 16, 17, 18, 19, 20, 21, 22, 23], [0, 1, 2, 3, 4, 5, 6, 7, 8, 9, 10, 11, 12, 13, 14, 15, 16, 17, 18, 19, 20, 21, 22, 23, 24], [0, 1, 2, 3, 4, 5, 6, 7, 8, 9, 10, 11, 12, 13, 14, 15, 16, 17, 18, 19, 20, 21, 22, 23, 24, 25]] (by kernel_rfl) [27, 28, 29, 30, 31, 32, 33, 34, 35, 36, 37, 38, 39, 40, 41, 42, 43, 44, 45, 46, 47, 48, 49, 50, 51, 52, 53] [[], [], [1, 27], [], [2, 3], [4], [0, 5], [6], [7], [8], [9], [9, 10], [9, 11], [12], [12], [12], [12], [12], [12], [12], [12], [12], [12], [12], [12], [9, 12], [9, 25]] [0, 0, 0, 0, 0, 0, 1, 0, 0, 0, 0, 0, 0, 0, 0, 0, 0, 0, 0, 0, 0, 0, 0, 0, 0, 0, 0, 3] [0, 0, 0, 0, 0, 0, 0, 0, 0, 0, 0, 0, 0, 0, 0, 0, 0, 0, 0, 0, 0, 0, 0, 0, 0, 0, 0] [1000, 1000, 1000, 1000, 1000, 1000, 1000, 1000, 1000, 1000, 1000, 1000, 1000, 1000, 1000, 1000, 1000, 1000, 1000, 1000, 1000, 1000, 1000, 1000, 1000, 1000, 1000, 1000] [.val 27 (.slice a1 nx c1), .val 28 (.pointer (some ⟨pX, 1, none⟩)), .val 29 (.slice (some ⟨gb, go, none⟩) me dX), .val 30 (.int .i64 (k : Int)), .val 31 (.pointer (some ⟨gb, go + k, none⟩)), .val 32 (.int .i64 z), .mem 33 (sliceN nb), .val 34 (.int .i64 (nb : Int)), .val 35 (.bool false), .val 36 (.bool false), .val 37 (.int .i64 (k : Int)), .val 38 (.bool false), .val 39 (.bool false), .val 40 undef, .val 41 undef, .val 42 undef, .val 43 undef, .val 44 undef, .val 45 undef, .val 46 undef, .val 47 undef, .val 48 undef, .val 49 undef, .val 50 undef, .val 51 undef, .val 52 (.bool false), .val 53 (.bool false), .box (pX) (.cells #[.slice aX ne cX, .slice (some ⟨gb, go, none⟩) me dX] 25)] (by kernel_rfl) ?_ (wr.heap.size) (wr.heap.size) rfl (Below.refl _ _) rfl (fun _ => 3) ?_ ?_ ?_
          · intro j hj
            have hj3 : j < 28 := hj
            have hj2 : j = 0 ∨ j = 1 ∨ j = 2 ∨ j = 3 ∨ j = 4 ∨ j = 5 ∨ j = 6 ∨ j = 7 ∨ j = 8 ∨ j = 9 ∨ j = 10 ∨ j = 11 ∨ j = 12 ∨ j = 13 ∨ j = 14 ∨ j = 15 ∨ j = 16 ∨ j = 17 ∨ j = 18 ∨ j = 19 ∨ j = 20 ∨ j = 21 ∨ j = 22 ∨ j = 23 ∨ j = 24 ∨ j = 25 ∨ j = 26 ∨ j = 27 := by omega
            clear hj hj3
            rcases hj2 with rfl | rfl | rfl | rfl | rfl | rfl | rfl | rfl | rfl | rfl | rfl | rfl | rfl | rfl | rfl | rfl | rfl | rfl | rfl | rfl | rfl | rfl | rfl | rfl | rfl | rfl | rfl | rfl
            · exact trivial
            · exact trivial
            · exact trivial
            · exact trivial
            · exact trivial
            · exact trivial
            · exact sliceN_near
            · exact trivial
            · exact trivial
            · exact trivial
            · exact trivial
            · exact trivial
            · exact trivial
            · exact trivial
            · exact trivial
            · exact trivial
            · exact trivial
            · exact trivial
            · exact trivial
            · exact trivial
            · exact trivial
            · exact trivial
            · exact trivial
            · exact trivial
            · exact trivial
            · exact trivial
            · exact trivial
            · exact trivial
          · intro j hj0 hj
            have hj1 : 27 ≤ j := hj0
            have hj3 : j < 28 := hj
            have hj2 : j = 27 := by omega
            clear hj0 hj hj1 hj3
            rcases hj2 with rfl
            · exact ⟨RXk.out, rfl⟩
          · intro i hi a wx who hG hF
            have hz : a.tmps.size = 79 := hG.size
            have hi3 : i < 27 := hi
            have hi2 : i = 0 ∨ i = 1 ∨ i = 2 ∨ i = 3 ∨ i = 4 ∨ i = 5 ∨ i = 6 ∨ i = 7 ∨ i = 8 ∨ i = 9 ∨ i = 10 ∨ i = 11 ∨ i = 12 ∨ i = 13 ∨ i = 14 ∨ i = 15 ∨ i = 16 ∨ i = 17 ∨ i = 18 ∨ i = 19 ∨ i = 20 ∨ i = 21 ∨ i = 22 ∨ i = 23 ∨ i = 24 ∨ i = 25 ∨ i = 26 := by omega
            clear hi hi3
            rcases hi2 with rfl | rfl | rfl | rfl | rfl | rfl | rfl | rfl | rfl | rfl | rfl | rfl | rfl | rfl | rfl | rfl | rfl | rfl | rfl | rfl | rfl | rfl | rfl | rfl | rfl | rfl | rfl
            · exact rol_val rfl rfl rfl (by rw [hz]; decide) (ex_move (Or.inl rfl) (eval_slot ((hG.slots 0 (by decide)).trans rfl))) hG.below
            · exact rol_val rfl rfl rfl (by rw [hz]; decide) (ex_field rfl (eval_slot ((hG.slots 3 (by decide)).trans rfl)) (by go_simp)) hG.below
            · exact rol_val rfl rfl rfl (by rw [hz]; decide) (ex_load rfl (eval_slot (hF 1 (by decide))) (ld_ints (row2 (hF 27 (by decide)).1).2.1)) hG.below
            · exact rol_val rfl rfl rfl (by rw [hz]; decide) (ex_move (Or.inl rfl) (eval_slot ((hG.slots 6 (by decide)).trans rfl))) hG.below
            · exact rol_val rfl rfl rfl (by rw [hz]; decide) (ex_index rfl (eval_slot (hF 2 (by decide))) (eval_slot (hF 3 (by decide))) (idxR hlt)) hG.below
            · exact rol_val rfl rfl rfl (by rw [hz]; decide) (ex_load rfl (eval_slot (hF 4 (by decide))) (ld_numR (cell_keep hck hG.below))) hG.below
            · refine rol_calls rfl rfl rfl (by rw [hz]; decide) (ex_call rfl (by simp [eval_slot (hF 0 (by decide)), eval_slot (hF 5 (by decide))]) e1) (KB.out _ z wx (SXk.out.below hG.below)) ?_ hG.below hG.new
              rintro e w1 ⟨u, rfl, hown, hb1⟩
              obtain ⟨a9, c9, rfl, -⟩ := intsR hown HNB.out
              exact ⟨_, rfl, hb1, .inr (.inl ⟨_, none, rfl, fun b e => (by cases e), ⟨a9, c9, rfl⟩, rfl⟩)⟩
            · obtain ⟨v9, ob9, hv9, -, ⟨a9, c9, rfl⟩, -⟩ := hF 6 (by decide)
              exact rol_val rfl rfl rfl (by rw [hz]; decide) (ex_len rfl (eval_slot hv9) (by go_simp)) hG.below
            · exact rol_val rfl rfl rfl (by rw [hz]; decide) (ex_bin rfl (eval_slot (hF 7 (by decide))) rfl (by go_simp) (eq_posR HNBP.out wx)) hG.below
            · exact rol_val rfl rfl rfl (by rw [hz]; decide) (ex_move (Or.inl rfl) (eval_slot (hF 8 (by decide)))) hG.below
            · exact rol_val rfl (want_yes rfl rfl (hF 9 (by decide))) rfl (by rw [hz]; decide) (ex_move (Or.inl rfl) (eval_slot ((hG.slots 6 (by decide)).trans rfl))) hG.below
            · exact rol_val rfl (want_yes rfl rfl (hF 9 (by decide))) rfl (by rw [hz]; decide) (ex_bin rfl (eval_slot (hF 10 (by decide))) rfl (by go_simp) (gt_zeroR HKP.out wx)) hG.below
            · exact rol_val rfl (want_yes rfl rfl (hF 9 (by decide))) rfl (by rw [hz]; decide) (ex_move (Or.inl rfl) (eval_slot (hF 11 (by decide)))) hG.below
            · exact rol_val_skip rfl (want_no rfl rfl (hF 12 (by decide)) (by decide)) rfl (by rw [hz]; decide) hG.below
            · exact rol_val_skip rfl (want_no rfl rfl (hF 12 (by decide)) (by decide)) rfl (by rw [hz]; decide) hG.below
            · exact rol_val_skip rfl (want_no rfl rfl (hF 12 (by decide)) (by decide)) rfl (by rw [hz]; decide) hG.below
            · exact rol_val_skip rfl (want_no rfl rfl (hF 12 (by decide)) (by decide)) rfl (by rw [hz]; decide) hG.below
            · exact rol_val_skip rfl (want_no rfl rfl (hF 12 (by decide)) (by decide)) rfl (by rw [hz]; decide) hG.below
            · exact rol_val_skip rfl (want_no rfl rfl (hF 12 (by decide)) (by decide)) rfl (by rw [hz]; decide) hG.below
            · exact rol_val_skip rfl (want_no rfl rfl (hF 12 (by decide)) (by decide)) rfl (by rw [hz]; decide) hG.below
            · exact rol_val_skip rfl (want_no rfl rfl (hF 12 (by decide)) (by decide)) rfl (by rw [hz]; decide) hG.below
            · exact rol_val_skip rfl (want_no rfl rfl (hF 12 (by decide)) (by decide)) rfl (by rw [hz]; decide) hG.below
            · exact rol_val_skip rfl (want_no rfl rfl (hF 12 (by decide)) (by decide)) rfl (by rw [hz]; decide) hG.below
            · exact rol_val_skip rfl (want_no rfl rfl (hF 12 (by decide)) (by decide)) rfl (by rw [hz]; decide) hG.below
            · exact rol_val_skip rfl (want_no rfl rfl (hF 12 (by decide)) (by decide)) rfl (by rw [hz]; decide) hG.below
            · exact rol_val rfl (want_yes rfl rfl (hF 9 (by decide))) rfl (by rw [hz]; decide) (ex_pick_no rfl (eval_slot (hF 12 (by decide))) rfl) hG.below
            · exact rol_val rfl rfl rfl (by rw [hz]; decide) (ex_pick_no rfl (eval_slot (hF 9 (by decide))) (eval_slot (hF 25 (by decide)))) hG.below
          · intro a wx who hG hF
            have fv53 : a.tmps.getD 53 undef = .bool false := eval_slot (s := 53) (hF 26 (of_decide_eq_true (by kernel_rfl)) (of_decide_eq_true (by kernel_rfl)))
            have hbx := hG.below
            have hnx := hG.new
            rw [hG.frame]
            simp only [List.foldl_cons, List.foldl_nil, List.setIfInBounds_toArray, List.set_cons_zero, List.set_cons_succ]
            generalize a.tmps.getD 27 undef = u27
            generalize a.tmps.getD 28 undef = u28
            generalize a.tmps.getD 29 undef = u29
            generalize a.tmps.getD 30 undef = u30
            generalize a.tmps.getD 31 undef = u31
            generalize a.tmps.getD 32 undef = u32
            generalize a.tmps.getD 33 undef = u33
            generalize a.tmps.getD 34 undef = u34
            generalize a.tmps.getD 35 undef = u35
            generalize a.tmps.getD 36 undef = u36
            generalize a.tmps.getD 37 undef = u37
            generalize a.tmps.getD 38 undef = u38
            generalize a.tmps.getD 39 undef = u39
            generalize a.tmps.getD 40 undef = u40
            generalize a.tmps.getD 41 undef = u41
            generalize a.tmps.getD 42 undef = u42
            generalize a.tmps.getD 43 undef = u43
            generalize a.tmps.getD 44 undef = u44
            generalize a.tmps.getD 45 undef = u45
            generalize a.tmps.getD 46 undef = u46
            generalize a.tmps.getD 47 undef = u47
            generalize a.tmps.getD 48 undef = u48
            generalize a.tmps.getD 49 undef = u49
            generalize a.tmps.getD 50 undef = u50
            generalize a.tmps.getD 51 undef = u51
            generalize a.tmps.getD 52 undef = u52
            rw [fv53]
            clear hF hG fv53
            go_wp2
            go_roundw
            case rel => exact ⟨k + 1, by omega, by go_num, Lib.hid (below_step HB.out hbx)⟩
            case measure => simp [numR]; omega
        · have HKP := Lib.hid hp
          obtain ⟨s, hs⟩ : ∃ s, k = s + 1 := ⟨k - 1, by omega⟩
          have hslt : s < me := by omega
          have hcs := (gra_snd GXk.out).cell s hslt
          have hzy : Lv.getD s 0 < Lv.getD k 0 := by rw [hs]; exact rise_at HRISE.out (by rw [HME.out]; omega)
          rw [← HZ.out] at hzy
          obtain ⟨y, hy⟩ : ∃ y, y = Lv.getD s 0 := ⟨_, rfl⟩
          rw [← hy] at hcs hzy
          have HKS := Lib.hid hs; have HZY := Lib.hid hzy; have HS6 := Lib.hid (show s ≤ 1000000 by omega)
          clear hp hs hzy hy
          go_upto_region 9 with fail
          refine rol_run (by kernel_rfl) [[], [], [1], [], [1, 2, 3], [1, 2, 3, 4], [0, 1, 2, 3, 4, 5], [0, 1, 2, 3, 4, 5, 6], [0, 1, 2, 3, 4, 5, 6, 7], [0, 1, 2, 3, 4, 5, 6, 7, 8], [0, 1, 2, 3, 4, 5, 6, 7, 8, 9], [0, 1, 2, 3, 4, 5, 6, 7, 8, 9, 10], [0, 1, 2, 3, 4, 5, 6, 7, 8, 9, 10, 11], [0, 1, 2, 3, 4, 5, 6, 7, 8, 9, 10, 11, 12], [0, 1, 2, 3, 4, 5, 6, 7, 8, 9, 10, 11, 12, 13], [0, 1, 2, 3, 4, 5, 6, 7, 8, 9, 10, 11, 12], [0, 1, 2, 3, 4, 5, 6, 7, 8, 9, 10, 11, 12, 13, 14, 15], [0, 1, 2, 3, 4, 5, 6, 7, 8, 9, 10, 11, 12, 13, 14, 15, 16], [0, 1, 2, 3, 4, 5, 6, 7, 8, 9, 10, 11, 12], [0, 1, 2, 3, 4, 5, 6, 7, 8, 9, 10, 11, 12, 18], [0, 1, 2, 3, 4, 5, 6, 7, 8, 9, 10, 11, 12], [0, 1, 2, 3, 4, 5, 6, 7, 8, 9, 10, 11, 12, 20], [0, 1, 2, 3, 4, 5, 6, 7, 8, 9, 10, 11, 12, 18, 19, 20, 21], [0, 1, 2, 3, 4, 5, 6, 7, 8, 9, 10, 11, 12, 18, 19, 20, 21, 22], [0, 1, 2, 3, 4, 5, 6, 7, 8, 9, 10, 11, 12, 13, 14, 15, 16, 17, 18, 19, 20, 21, 22, 23], [0, 1, 2, 3, 4, 5, 6, 7, 8, 9, 10, 11, 12, 13, 14, 15, 16, 17, 18, 19, 20, 21, 22, 23, 24], [0, 1, 2, 3, 4, 5, 6, 7, 8, 9, 10, 11, 12, 13, 14, 15, 16, 17, 18, 19, 20, 21, 22, 23, 24, 25]] (by kernel_rfl) [27, 28, 29, 30, 31, 32, 33, 34, 35, 36, 37, 38, 39, 40, 41, 42, 43, 44, 45, 46, 47, 48, 49, 50, 51, 52, 53] [[], [], [1, 27], [], [2, 3], [4], [0, 5], [6], [7], [8], [9], [9, 10], [9, 11], [12], [12, 13, 27], [12], [12, 14, 15], [12, 16], [12], [12, 18, 27], [12], [12, 20], [12, 19, 21], [12, 22], [12, 17, 23], [9, 12, 24], [9, 25]] [0, 0, 0, 0, 0, 0, 1, 0, 0, 0, 0, 0, 0, 0, 0, 0, 0, 0, 0, 0, 0, 0, 0, 0, 0, 0, 0, 3] [0, 0, 0, 0, 0, 0, 0, 0, 0, 0, 0, 0, 0, 0, 0, 0, 0, 0, 0, 0, 0, 0, 0, 0, 0, 0, 0] [1000, 1000, 1000, 1000, 1000, 1000, 1000, 1000, 1000, 1000, 1000, 1000, 1000, 1000, 1000, 1000, 1000, 1000, 1000, 1000, 1000, 1000, 1000, 1000, 1000, 1000, 1000, 1000] [.val 27 (.slice a1 nx c1), .val 28 (.pointer (some ⟨pX, 1, none⟩)), .val 29 (.slice (some ⟨gb, go, none⟩) me dX), .val 30 (.int .i64 (k : Int)), .val 31 (.pointer (some ⟨gb, go + k, none⟩)), .val 32 (.int .i64 z), .mem 33 (sliceN nb), .val 34 (.int .i64 (nb : Int)), .val 35 (.bool false), .val 36 (.bool false), .val 37 (.int .i64 (k : Int)), .val 38 (.bool true), .val 39 (.bool true), .val 40 (.pointer (some ⟨pX, 1, none⟩)), .val 41 (.slice (some ⟨gb, go, none⟩) me dX), .val 42 (.int .i64 (k : Int)), .val 43 (.pointer (some ⟨gb, go + k, none⟩)), .val 44 (.int .i64 z), .val 45 (.pointer (some ⟨pX, 1, none⟩)), .val 46 (.slice (some ⟨gb, go, none⟩) me dX), .val 47 (.int .i64 (k : Int)), .val 48 (.int .i64 (s : Int)), .val 49 (.pointer (some ⟨gb, go + s, none⟩)), .val 50 (.int .i64 y), .val 51 (.bool false), .val 52 (.bool false), .val 53 (.bool false), .box (pX) (.cells #[.slice aX ne cX, .slice (some ⟨gb, go, none⟩) me dX] 25)] (by kernel_rfl) ?_ (wr.heap.size) (wr.heap.size) rfl (Below.refl _ _) rfl (fun _ => 3) ?_ ?_ ?_
          · intro j hj
            have hj3 : j < 28 := hj
            have hj2 : j = 0 ∨ j = 1 ∨ j = 2 ∨ j = 3 ∨ j = 4 ∨ j = 5 ∨ j = 6 ∨ j = 7 ∨ j = 8 ∨ j = 9 ∨ j = 10 ∨ j = 11 ∨ j = 12 ∨ j = 13 ∨ j = 14 ∨ j = 15 ∨ j = 16 ∨ j = 17 ∨ j = 18 ∨ j = 19 ∨ j = 20 ∨ j = 21 ∨ j = 22 ∨ j = 23 ∨ j = 24 ∨ j = 25 ∨ j = 26 ∨ j = 27 := by omega
            clear hj hj3
            rcases hj2 with rfl | rfl | rfl | rfl | rfl | rfl | rfl | rfl | rfl | rfl | rfl | rfl | rfl | rfl | rfl | rfl | rfl | rfl | rfl | rfl | rfl | rfl | rfl | rfl | rfl | rfl | rfl | rfl
            · exact trivial
            · exact trivial
            · exact trivial
            · exact trivial
            · exact trivial
            · exact trivial
            · exact sliceN_near
            · exact trivial
            · exact trivial
            · exact trivial
            · exact trivial
            · exact trivial
            · exact trivial
            · exact trivial
            · exact trivial
            · exact trivial
            · exact trivial
            · exact trivial
            · exact trivial
            · exact trivial
            · exact trivial
            · exact trivial
            · exact trivial
            · exact trivial
            · exact trivial
            · exact trivial
            · exact trivial
            · exact trivial
          · intro j hj0 hj
            have hj1 : 27 ≤ j := hj0
            have hj3 : j < 28 := hj
            have hj2 : j = 27 := by omega
            clear hj0 hj hj1 hj3
            rcases hj2 with rfl
            · exact ⟨RXk.out, rfl⟩
          · intro i hi a wx who hG hF
            have hz : a.tmps.size = 79 := hG.size
            have hi3 : i < 27 := hi
            have hi2 : i = 0 ∨ i = 1 ∨ i = 2 ∨ i = 3 ∨ i = 4 ∨ i = 5 ∨ i = 6 ∨ i = 7 ∨ i = 8 ∨ i = 9 ∨ i = 10 ∨ i = 11 ∨ i = 12 ∨ i = 13 ∨ i = 14 ∨ i = 15 ∨ i = 16 ∨ i = 17 ∨ i = 18 ∨ i = 19 ∨ i = 20 ∨ i = 21 ∨ i = 22 ∨ i = 23 ∨ i = 24 ∨ i = 25 ∨ i = 26 := by omega
            clear hi hi3
            rcases hi2 with rfl | rfl | rfl | rfl | rfl | rfl | rfl | rfl | rfl | rfl | rfl | rfl | rfl | rfl | rfl | rfl | rfl | rfl | rfl | rfl | rfl | rfl | rfl | rfl | rfl | rfl | rfl
            · exact rol_val rfl rfl rfl (by rw [hz]; decide) (ex_move (Or.inl rfl) (eval_slot ((hG.slots 0 (by decide)).trans rfl))) hG.below
            · exact rol_val rfl rfl rfl (by rw [hz]; decide) (ex_field rfl (eval_slot ((hG.slots 3 (by decide)).trans rfl)) (by go_simp)) hG.below
            · exact rol_val rfl rfl rfl (by rw [hz]; decide) (ex_load rfl (eval_slot (hF 1 (by decide))) (ld_ints (row2 (hF 27 (by decide)).1).2.1)) hG.below
            · exact rol_val rfl rfl rfl (by rw [hz]; decide) (ex_move (Or.inl rfl) (eval_slot ((hG.slots 6 (by decide)).trans rfl))) hG.below
            · exact rol_val rfl rfl rfl (by rw [hz]; decide) (ex_index rfl (eval_slot (hF 2 (by decide))) (eval_slot (hF 3 (by decide))) (idxR hlt)) hG.below
            · exact rol_val rfl rfl rfl (by rw [hz]; decide) (ex_load rfl (eval_slot (hF 4 (by decide))) (ld_numR (cell_keep hck hG.below))) hG.below
            · refine rol_calls rfl rfl rfl (by rw [hz]; decide) (ex_call rfl (by simp [eval_slot (hF 0 (by decide)), eval_slot (hF 5 (by decide))]) e1) (KB.out _ z wx (SXk.out.below hG.below)) ?_ hG.below hG.new
              rintro e w1 ⟨u, rfl, hown, hb1⟩
              obtain ⟨a9, c9, rfl, -⟩ := intsR hown HNB.out
              exact ⟨_, rfl, hb1, .inr (.inl ⟨_, none, rfl, fun b e => (by cases e), ⟨a9, c9, rfl⟩, rfl⟩)⟩
            · obtain ⟨v9, ob9, hv9, -, ⟨a9, c9, rfl⟩, -⟩ := hF 6 (by decide)
              exact rol_val rfl rfl rfl (by rw [hz]; decide) (ex_len rfl (eval_slot hv9) (by go_simp)) hG.below
            · exact rol_val rfl rfl rfl (by rw [hz]; decide) (ex_bin rfl (eval_slot (hF 7 (by decide))) rfl (by go_simp) (eq_posR HNBP.out wx)) hG.below
            · exact rol_val rfl rfl rfl (by rw [hz]; decide) (ex_move (Or.inl rfl) (eval_slot (hF 8 (by decide)))) hG.below
            · exact rol_val rfl (want_yes rfl rfl (hF 9 (by decide))) rfl (by rw [hz]; decide) (ex_move (Or.inl rfl) (eval_slot ((hG.slots 6 (by decide)).trans rfl))) hG.below
            · exact rol_val rfl (want_yes rfl rfl (hF 9 (by decide))) rfl (by rw [hz]; decide) (ex_bin rfl (eval_slot (hF 10 (by decide))) rfl (by go_simp) (gt_posR HKP.out wx)) hG.below
            · exact rol_val rfl (want_yes rfl rfl (hF 9 (by decide))) rfl (by rw [hz]; decide) (ex_move (Or.inl rfl) (eval_slot (hF 11 (by decide)))) hG.below
            · exact rol_val rfl (want_yes rfl rfl (hF 12 (by decide))) rfl (by rw [hz]; decide) (ex_field rfl (eval_slot ((hG.slots 3 (by decide)).trans rfl)) (by go_simp)) hG.below
            · exact rol_val rfl (want_yes rfl rfl (hF 12 (by decide))) rfl (by rw [hz]; decide) (ex_load rfl (eval_slot (hF 13 (by decide))) (ld_ints (row2 (hF 27 (by decide)).1).2.1)) hG.below
            · exact rol_val rfl (want_yes rfl rfl (hF 12 (by decide))) rfl (by rw [hz]; decide) (ex_move (Or.inl rfl) (eval_slot ((hG.slots 6 (by decide)).trans rfl))) hG.below
            · exact rol_val rfl (want_yes rfl rfl (hF 12 (by decide))) rfl (by rw [hz]; decide) (ex_index rfl (eval_slot (hF 14 (by decide))) (eval_slot (hF 15 (by decide))) (idxR hlt)) hG.below
            · exact rol_val rfl (want_yes rfl rfl (hF 12 (by decide))) rfl (by rw [hz]; decide) (ex_load rfl (eval_slot (hF 16 (by decide))) (ld_numR (cell_keep hck hG.below))) hG.below
            · exact rol_val rfl (want_yes rfl rfl (hF 12 (by decide))) rfl (by rw [hz]; decide) (ex_field rfl (eval_slot ((hG.slots 3 (by decide)).trans rfl)) (by go_simp)) hG.below
            · exact rol_val rfl (want_yes rfl rfl (hF 12 (by decide))) rfl (by rw [hz]; decide) (ex_load rfl (eval_slot (hF 18 (by decide))) (ld_ints (row2 (hF 27 (by decide)).1).2.1)) hG.below
            · exact rol_val rfl (want_yes rfl rfl (hF 12 (by decide))) rfl (by rw [hz]; decide) (ex_move (Or.inl rfl) (eval_slot ((hG.slots 6 (by decide)).trans rfl))) hG.below
            · exact rol_val rfl (want_yes rfl rfl (hF 12 (by decide))) rfl (by rw [hz]; decide) (ex_bin rfl (eval_slot (hF 20 (by decide))) rfl (by go_simp) (sub1R HKS.out HS6.out wx)) hG.below
            · exact rol_val rfl (want_yes rfl rfl (hF 12 (by decide))) rfl (by rw [hz]; decide) (ex_index rfl (eval_slot (hF 19 (by decide))) (eval_slot (hF 21 (by decide))) (idxR hslt)) hG.below
            · exact rol_val rfl (want_yes rfl rfl (hF 12 (by decide))) rfl (by rw [hz]; decide) (ex_load rfl (eval_slot (hF 22 (by decide))) (ld_numR (cell_keep hcs hG.below))) hG.below
            · exact rol_val rfl (want_yes rfl rfl (hF 12 (by decide))) rfl (by rw [hz]; decide) (ex_bin rfl (eval_slot (hF 17 (by decide))) (eval_slot (hF 23 (by decide))) (by go_simp) (leq_noR HZY.out wx)) hG.below
            · exact rol_val rfl (want_yes rfl rfl (hF 9 (by decide))) rfl (by rw [hz]; decide) (ex_pick_yes rfl (eval_slot (hF 12 (by decide))) (eval_slot (hF 24 (by decide)))) hG.below
            · exact rol_val rfl rfl rfl (by rw [hz]; decide) (ex_pick_no rfl (eval_slot (hF 9 (by decide))) (eval_slot (hF 25 (by decide)))) hG.below
          · intro a wx who hG hF
            have fv53 : a.tmps.getD 53 undef = .bool false := eval_slot (s := 53) (hF 26 (of_decide_eq_true (by kernel_rfl)) (of_decide_eq_true (by kernel_rfl)))
            have hbx := hG.below
            have hnx := hG.new
            rw [hG.frame]
            simp only [List.foldl_cons, List.foldl_nil, List.setIfInBounds_toArray, List.set_cons_zero, List.set_cons_succ]
            generalize a.tmps.getD 27 undef = u27
            generalize a.tmps.getD 28 undef = u28
            generalize a.tmps.getD 29 undef = u29
            generalize a.tmps.getD 30 undef = u30
            generalize a.tmps.getD 31 undef = u31
            generalize a.tmps.getD 32 undef = u32
            generalize a.tmps.getD 33 undef = u33
            generalize a.tmps.getD 34 undef = u34
            generalize a.tmps.getD 35 undef = u35
            generalize a.tmps.getD 36 undef = u36
            generalize a.tmps.getD 37 undef = u37
            generalize a.tmps.getD 38 undef = u38
            generalize a.tmps.getD 39 undef = u39
            generalize a.tmps.getD 40 undef = u40
            generalize a.tmps.getD 41 undef = u41
            generalize a.tmps.getD 42 undef = u42
            generalize a.tmps.getD 43 undef = u43
            generalize a.tmps.getD 44 undef = u44
            generalize a.tmps.getD 45 undef = u45
            generalize a.tmps.getD 46 undef = u46
            generalize a.tmps.getD 47 undef = u47
            generalize a.tmps.getD 48 undef = u48
            generalize a.tmps.getD 49 undef = u49
            generalize a.tmps.getD 50 undef = u50
            generalize a.tmps.getD 51 undef = u51
            generalize a.tmps.getD 52 undef = u52
            rw [fv53]
            clear hF hG fv53
            go_wp2
            go_roundw
            case rel => exact ⟨k + 1, by omega, by go_num, Lib.hid (below_step HB.out hbx)⟩
            case measure => simp [numR]; omega
      · have e : k = me := by omega
        subst e
        have RXk := Lib.hid (row_keepB RX.out HB.out)
        have SXk := Lib.hid (SX.out.below HB.out)
        have GXk := Lib.hid (GX.out.below HB.out)
        have STk := Lib.hid (ST.out.belowB HB.out)
        have BBk := Lib.hid (below_step BB.out HB.out)
        obtain ⟨x0, x1, -, -⟩ := row2 RXk.out
        go_wp2
        go_loopw [7] (fun i wr2 => ∃ (j q : Nat), j ≤ nr ∧ i = .int .i64 j ∧ wr2 = wr.drewN q) (fun i _ => nr - (numR i).toNat)
        case atStart => exact ⟨0, 0, Nat.zero_le _, rfl, rfl⟩
        case round =>
          obtain ⟨j, q, hj, rfl, rfl⟩ := hrel
          obtain ⟨Wq, hWq⟩ : ∃ Wq, wr.drewN q = Wq := ⟨_, rfl⟩
          have hbq : Below wr.heap.size wr Wq := by rw [← hWq]; exact below_q ⟨q, rfl⟩
          have HWQ := Lib.hid hWq
          rw [hWq]
          have RXq := Lib.hid (row_keepB RXk.out hbq); have GXq := Lib.hid (GXk.out.below hbq); have STq := Lib.hid (STk.out.belowB hbq); have BBq := Lib.hid (below_step BBk.out hbq)
          clear x0 x1 hbq hWq
          obtain ⟨x0, x1, -, -⟩ := row2 RXq.out
          by_cases hjl : j < nr
          · obtain ⟨tb, to0, rfl⟩ := STq.out.some (by omega)
            have hct := STq.out.cell j hjl
            have hin : hasB Lv (Rt.getD j 0) = true := by unfold hasB; exact decide_eq_true (HROOT.out _ (int_mem (by rw [HNR.out]; exact hjl)))
            obtain ⟨y, hy⟩ : ∃ y, y = Rt.getD j 0 := ⟨_, rfl⟩
            rw [← hy] at hct hin
            have kh := fun V w h => refhasz_any V Lv y w h
            rw [hin] at kh
            have SLq := Lib.hid (gra_snd GXq.out)
            have hjr : (j : Int) < (nr : Int) := by omega
            clear hy hin
            go_wp2_with fail
            go_quiet ((go_at_call 27; refine Calls.quiet_of_same (kh _ _ (SLq.out.belowB (below_q ⟨_, rfl⟩)))))
            go_wp2
            go_roundw
            case rel => exact ⟨j + 1, q + nq, by omega, by go_num, by rw [← HWQ.out, World.drewN_drewN]⟩
            case measure => simp [numR]; omega
          · have e2 : j = nr := by omega
            subst e2
            replace BB := BBq
            rcases Nat.eq_zero_or_pos j with h0 | hp
            · have h00 : ¬ 0 < k := fun h => by have := HSOME.out.2 h; omega
              have h1 : decide (0 < j) = false := by simp; omega
              have h2 : decide (0 < k) = false := by simp; omega
              clear h0 h00
              go_wp2_with (go_at_call 18; refine (gawake_any _).mono ?_; rintro e w9 ⟨rfl, hb1⟩; replace BB := Lib.hid (below_step BB.out hb1); clear hb1)
              go_ret
              exact ⟨rfl, BB.out⟩
            · have h00 : 0 < k := HSOME.out.1 hp
              have h1 : decide (0 < j) = true := by simp; omega
              have h2 : decide (0 < k) = true := by simp; omega
              clear hp h00
              go_wp2_with (go_at_call 18; refine (gawake_any _).mono ?_; rintro e w9 ⟨rfl, hb1⟩; replace BB := Lib.hid (below_step BB.out hb1); clear hb1)
              go_ret
              exact ⟨rfl, BB.out⟩

theorem own : ownKnob Try.prog.godebug = none := by kernel_rfl
theorem laidOut : laidOutB Try.prog = true := by kernel_rfl

set_option maxRecDepth 100000 in
theorem lifted (os : Os) (started : os.Started) (H : Type) (enc : TypeId × Value → H) :
    ReturnsInHanded {} Try.checked os 9 .any (Rows.reachEndsSpec.pre6 enc Try.prog Try.f9 Rows.reachEndsRow.domain false) (Rows.reachEndsSpec.post enc Try.prog Try.f9 false true false false) := by
  refine returnsInHanded_of_change (C := Try.checked) own started (by kernel_rfl) Try.func9
    (ChangeSpec.witness6 (enc := enc) (C := Try.checked) false ⟨#[], #[.slice none 0 0], []⟩ 8 (by kernel_rfl) (by kernel_rfl) (by kernel_rfl) (by kernel_rfl)) ?_
  intro W base args ds gs before hval0 hW hcnd _
  have hval : ∀ (j : Nat) t v, Try.f9.params[j]? = some t → args[j]? = some v → Value.okWide Try.prog W .any base t v := hval0
  have hW' := hW
  obtain ⟨p, q, hA0, hV, rfl, hfz, hnd⟩ := hW
  have hA : DataW.TrodAll enc Try.prog W 0 (fun _ => true) true Try.f9.params.toList args.toList ds p := hA0
  rw [Try.params9] at hA hval
  obtain ⟨v0, vs0, d0, ds0, p0, q0, hargs, rfl, rfl, h0, r0⟩ := trodAll_cons hA
  obtain ⟨rfl, rfl, rfl⟩ := trodAll_nil r0
  obtain rfl : args = #[v0] := by cases args; simp_all
  obtain ⟨rfl, rfl⟩ := trodVars_none hV
  obtain ⟨a0, len0, cap0, rfl⟩ := okWide_slice Try.underlying22 (hval 0 22 v0 rfl rfl)
  have k0 := h0
  have lt0 : ∀ x ∈ p0, x.block < W.heap.size := by obtain ⟨m, hm⟩ := k0; exact DataW.trod_lt m _ _ _ hm
  obtain ⟨z0, w0⟩ : ∃ zs, Eds W (.slice a0 len0 cap0) zs ∧ ∀ e ∈ zs, fitE e := by
    obtain ⟨fuel, hf⟩ := h0
    exact eds_open (by simpa [Value.cells] using hf)
  clear hA0 hval0
  refine (walk _ z0 W w0).mono fun e W' ⟨he, bel⟩ => ?_
  subst he
  exact ⟨_, rfl, _, _, _, [], _, [], hW', trodAll_mk1 (shut_bool Try.underlying4 _), (trodAll_cons_mk (Below.trod laidOut (by kernel_rfl) (of_decide_eq_true (by kernel_rfl)) k0 bel lt0) trodAll_mk0), rfl, bel.frame _, fun h => by cases h⟩

-- the given statement
theorem proved : Rows.ReachEndsSaid :=
  OpenClaim.holds_of_wide 9 Try.f9 rfl rfl rfl rfl rfl rfl rfl ⟨rfl, rfl, rfl, rfl, rfl⟩ rfl rfl rfl rfl rfl (by kernel_rfl) Try.func9 (by kernel_rfl)
    (of_decide_eq_true (by kernel_rfl)) (by unfold Func.isWrapper; first | (rw [if_pos (by decide +kernel)]; kernel_rfl) | (rw [if_neg (by decide +kernel)]; exact ⟨rfl, rfl⟩))
    (fun os started H enc _ => lifted os started H enc)
end Go.Proofs.Ytfkbpkjejnpaiaa.reachEnds
