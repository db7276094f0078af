/- THE TEXTS OF StoI StoJ StoR StoS: A store with a node: of the program. A store without a node: of the program. What comes into the laws: a store, and what is asked of one; the chapter's examples of stores. What the laws of stores lean on: plain facts, and operations of their first regions. -/
import Derived.Test.YtceefoiffkgliaaStoH
import Derived.Test.YtceefoiffkgliaaStoQ
import Derived.Test.YtceefoiffkgliaaNodR
import Derived.Test.YtceefoiffkgliaaOctR
namespace Go.Proofs.Ytceefoiffkgliaa
open Go.RowKit
set_option linter.unusedVariables false
set_option maxRecDepth 100000

set_option maxHeartbeats 3200000 in
theorem sput_no (A B : Option Addr) (n c m d : Nat) (K : List Nd) (T : List (List UInt8)) (p v t : List UInt8) (w : World) (hk : Nds w (.slice A n c) K) (ht : Strs w (.slice B m d) T) (hs : ∀ n ∈ K, smallN n) (hn : smallN (p, v)) (hl : n ≤ 600000) (hm : m ≤ 600000) (hx : (okS K T && okN (p, v)) = false) :
    Calls Try.prog 11 #[.agg #[.slice A n c, .slice B m d], .agg #[.string (mkB p), .string (mkB v)], .string (mkB t)] w fun e w' => ∃ u, e = .returned (.tuple #[u, .int .i64 (putE K T (p, v) t).2.2]) ∧ StoO w' w.heap.size u (putE K T (p, v) t).1 (putE K T (p, v) t).2.1 ∧ Below w.heap.size w w' := by
  obtain ⟨W, gs, gn, gr, hW, hg, hg', hg'', r0, r1, r2, hb⟩ := boxS3 w (.slice A n c) (.slice B m d) (.string (mkB p)) (.string (mkB v)) (.slice none 0 0) (.slice none 0 0) 25 27 25
  obtain ⟨d0, d1, -, -⟩ := row2 r0
  obtain ⟨d2, d3, -, -⟩ := row2 r1
  obtain ⟨hK, -, -⟩ := hk.lenE
  obtain ⟨hT, -, -⟩ := ht.lenE
  have hgrW := (Array.getElem?_eq_some_iff.1 r2).1
  have SK0 := Lib.hid hk; have ST0 := Lib.hid ht
  have SK := Lib.hid (hk.below hb); have ST := Lib.hid (ht.belowB hb); have HS := Lib.hid hs; have HN := Lib.hid hn; have HW := Lib.hid hW; have HG := Lib.hid hg; have HG' := Lib.hid hg'; have HG'' := Lib.hid hg''; have BB := Lib.hid hb; have HK := Lib.hid hK; have HT := Lib.hid hT; have RS := Lib.hid r0; have RN := Lib.hid r1; have RR := Lib.hid r2; have HGL := Lib.hid (show w.heap.size ≤ gr by omega); have HNE := Lib.hid (show ¬ gs = gr by omega); have HNE2 := Lib.hid (show ¬ gn = gr by omega); have HGRW := Lib.hid hgrW; have HNB := Lib.hid hl; have HMB := Lib.hid hm
  clear hk ht hs hn hW hg hg' hg'' hb r0 r1 r2 hK hT hgrW
  rw [putE_no hx]
  have HX := Lib.hid hx; clear hx
  go_enter Try.func11, Try.ntmps11
  go_upto_region 1 with fail
  rw [HW.out, HG''.out, HG'.out, HG.out]
  go_wp2_with (first
    | (go_at_call 25; refine (seek_no _ _ _ _ _ _ K T p v _ SK.out ST.out HS.out HN.out HX.out).mono ?_; rintro e w1 ⟨rfl, hb1⟩; replace BB := Lib.hid (below_step BB.out hb1); replace SK := Lib.hid (SK.out.below hb1); replace ST := Lib.hid (ST.out.belowB hb1); replace d0 := cell_keep d0 hb1; replace d1 := cell_keep d1 hb1; replace d2 := cell_keep d2 hb1; replace d3 := cell_keep d3 hb1; replace RS := Lib.hid (row_keepB RS.out hb1); replace RN := Lib.hid (row_keepB RN.out hb1); replace RR := Lib.hid (row_keepB RR.out hb1); replace HGRW := Lib.hid (Nat.lt_of_lt_of_le HGRW.out hb1.size); clear hb1)
    | (go_at_call 26; refine (sown_any _ _ _ _ _ _ K T _ SK.out ST.out HNB.out HMB.out).mono ?_; rintro e w2 ⟨u2, rfl, hso, hb2⟩; obtain ⟨a1, c1, b1, e1, rfl, -, -⟩ := hso.forms; have HSO := Lib.hid (StoO.base hso (Nat.le_succ _)); have HR2 := Lib.hid (row_keepB RR.out hb2); obtain ⟨q0, q1, qf0, qf1⟩ := row2 HR2.out; have HWS := Lib.hid BB.out.size; replace BB := Lib.hid (below_step BB.out hb2); clear hb2 hso))
  try simp only [Exit.inBlock, Exit.then]
  refine bodyPost_ret (v := .tuple #[.agg #[.slice a1 K.length c1, .slice b1 T.length e1], .int .i64 1]) (results_ct (fn := Try.f11) (q := 6) (r := 7) (ty := 25) rfl _ _ gr 25 #[.slice a1 K.length c1, .slice b1 T.length e1] (0, 0) _ rfl (row2_set HR2.out _ _) Try.underlying25 rfl Try.size_sto) rfl ?_
  exact ⟨_, rfl, ((HSO.out.far HGRW.out _).far HGRW.out _).base HWS.out, (BB.out.setCell HGL.out _).setCell HGL.out _⟩
set_option maxHeartbeats 3200000 in
theorem sput_in (A B : Option Addr) (n c m d : Nat) (K : List Nd) (T : List (List UInt8)) (p v t : List UInt8) (w : World) (hk : Nds w (.slice A n c) K) (ht : Strs w (.slice B m d) T) (hs : ∀ n ∈ K, smallN n) (hn : smallN (p, v)) (hl : n ≤ 600000) (hm : m ≤ 600000) (hx : okS K T = true) (hy : okN (p, v) = true) (hf : hasN K (p, v) = true) :
    Calls Try.prog 11 #[.agg #[.slice A n c, .slice B m d], .agg #[.string (mkB p), .string (mkB v)], .string (mkB t)] w fun e w' => ∃ u, e = .returned (.tuple #[u, .int .i64 (putE K T (p, v) t).2.2]) ∧ StoO w' w.heap.size u (putE K T (p, v) t).1 (putE K T (p, v) t).2.1 ∧ Below w.heap.size w w' := by
  obtain ⟨W, gs, gn, gr, hW, hg, hg', hg'', r0, r1, r2, hb⟩ := boxS3 w (.slice A n c) (.slice B m d) (.string (mkB p)) (.string (mkB v)) (.slice none 0 0) (.slice none 0 0) 25 27 25
  obtain ⟨d0, d1, -, -⟩ := row2 r0
  obtain ⟨d2, d3, -, -⟩ := row2 r1
  obtain ⟨hK, -, -⟩ := hk.lenE
  obtain ⟨hT, -, -⟩ := ht.lenE
  have hgrW := (Array.getElem?_eq_some_iff.1 r2).1
  have SK0 := Lib.hid hk; have ST0 := Lib.hid ht
  have SK := Lib.hid (hk.below hb); have ST := Lib.hid (ht.belowB hb); have HS := Lib.hid hs; have HN := Lib.hid hn; have HW := Lib.hid hW; have HG := Lib.hid hg; have HG' := Lib.hid hg'; have HG'' := Lib.hid hg''; have BB := Lib.hid hb; have HK := Lib.hid hK; have HT := Lib.hid hT; have RS := Lib.hid r0; have RN := Lib.hid r1; have RR := Lib.hid r2; have HGL := Lib.hid (show w.heap.size ≤ gr by omega); have HNE := Lib.hid (show ¬ gs = gr by omega); have HNE2 := Lib.hid (show ¬ gn = gr by omega); have HGRW := Lib.hid hgrW; have HNB := Lib.hid hl; have HMB := Lib.hid hm
  have hsk := fun w h1 h2 => seek_yes A B n c m d K T p v w h1 h2 hs hn hl hx hy
  rw [hf] at hsk
  have HSK := Lib.hid hsk; have HX := Lib.hid hx; have HY := Lib.hid hy; have HF := Lib.hid hf
  clear hx hsk hf hy
  clear hk ht hs hn hW hg hg' hg'' hb r0 r1 r2 hK hT hgrW
  obtain ⟨Z, hZ⟩ : ∃ Z, putE K T (p, v) t = Z := ⟨_, rfl⟩
  rw [hZ]
  obtain ⟨XK, XT, ze⟩ := Z
  simp only
  have HZ := Lib.hid hZ; clear hZ
  have e1 : ∀ args w, (callFunc 27 args).run Try.prog w = .ok (.enter 27 args) w := enters_of Try.func27 (by kernel_rfl) rfl
  have e2 : ∀ args w, (callFunc 28 args).run Try.prog w = .ok (.enter 28 args) w := enters_of Try.func28 (by kernel_rfl) rfl
  go_enter Try.func11, Try.ntmps11
  go_upto_region 1 with fail
  rw [HW.out, HG''.out, HG'.out, HG.out]
  go_upto_region 5 with (go_at_call 25; refine (HSK.out _ SK.out ST.out).mono ?_; rintro e wz ⟨⟨i, rfl, hi, hI⟩, hb1⟩; have HFI := Lib.hid hI; clear hI; replace BB := Lib.hid (below_step BB.out hb1); replace SK := Lib.hid (SK.out.below hb1); replace ST := Lib.hid (ST.out.belowB hb1); replace d0 := cell_keep d0 hb1; replace d1 := cell_keep d1 hb1; replace d2 := cell_keep d2 hb1; replace d3 := cell_keep d3 hb1; replace RS := Lib.hid (row_keepB RS.out hb1); replace RN := Lib.hid (row_keepB RN.out hb1); replace RR := Lib.hid (row_keepB RR.out hb1); replace HGRW := Lib.hid (Nat.lt_of_lt_of_le HGRW.out hb1.size); clear hb1)
  have hil : i ≤ K.length := by rw [HK.out]; exact hi
  have hze := putE_in (t := t) HX.out HY.out hil HFI.out HF.out
  rw [HZ.out] at hze
  obtain ⟨hz1, hz2, hz3⟩ : XK = K.take i ++ [(p, v)] ++ K.drop (i + 1) ∧ XT = T.take i ++ [t] ++ T.drop (i + 1) ∧ ze = 0 := by
    injection hze with h1 h2
    injection h2 with h2 h3
    exact ⟨h1, h2, h3⟩
  subst hz3
  have hnm : n = m := by
    have := HX.out
    unfold okS at this
    rw [Bool.and_eq_true, decide_eq_true_iff] at this
    rw [← HK.out, ← HT.out]; exact this.2
  have hi1 : i + 1 ≤ m := by
    have := (getE_in HX.out HY.out hil HFI.out HF.out).2
    rw [HT.out] at this; exact this
  have HI1 := Lib.hid (show i + 1 ≤ n by omega); have HI1M := Lib.hid hi1
  have HI := Lib.hid hi; have HIM := Lib.hid (show i ≤ m by omega); have HXK := Lib.hid hz1.symm; have HXT := Lib.hid hz2.symm; have HIB := Lib.hid (show i ≤ 1000000 by have := HNB.out; omega)
  replace SK := Lib.hid SK0.out; replace ST := Lib.hid ST0.out
  clear hz1 hz2 hze hil hnm d0 d1 d2 d3
  refine rol_run (by kernel_rfl) [[], [0], [], [], [3], [], [5], [0, 1, 2, 3, 4, 5, 6], [], [8], [], [], [11], [], [13], [0, 1, 2, 3, 4, 5, 6, 7, 8, 9, 10, 11, 12, 13, 14], [0, 1, 2, 3, 4, 5, 6, 7, 8, 9, 10, 11, 12, 13, 14, 15], [0, 1, 2, 3, 4, 5, 6, 7, 8, 9, 10, 11, 12, 13, 14, 15, 16], [0, 1, 2, 3, 4, 5, 6, 7, 8, 9, 10, 11, 12, 13, 14, 15, 16, 17]] (by kernel_rfl) [26, 27, 28, 29, 30, 31, 32, 33, 34, 35, 36, 37, 38, 39, 40, 41, 42, 7] [[], [0, 19], [], [], [3], [21], [5], [1, 2, 4, 6], [], [8, 19], [], [], [11], [], [13], [9, 10, 12, 14], [7, 15], [16, 20], []] [0, 0, 0, 0, 0, 0, 1, 1, 0, 0, 0, 0, 0, 0, 1, 1, 1, 2, 0, 3, 2, 3] [0, 0, 0, 0, 0, 0, 0, 0, 0, 0, 0, 0, 0, 0, 0, 0, 0, 2, 0] [1000, 1000, 1000, 1000, 1000, 1000, 1000, 1000, 1000, 1000, 1000, 1000, 1000, 1000, 1000, 1000, 1000, 1000, 1000, 1000, 17, 1000] [.val 26 (.pointer (some ⟨gs, 0, none⟩)), .val 27 (.slice A n c), .val 28 (.int .i64 (i : Int)), .val 29 (.int .i64 (i : Int)), .val 30 (.int .i64 ((i + 1 : Nat) : Int)), .val 31 (.agg #[.string (mkB p), .string (mkB v)]), .mem 32 (blkG 27 #[.string (mkB p), .string (mkB v)] 1), .mem 33 (rowG wz.heap.size 27 2 XK.length (ndsC XK)), .val 34 (.pointer (some ⟨gs, 1, none⟩)), .val 35 (.slice B m d), .val 36 (.int .i64 (i : Int)), .val 37 (.int .i64 (i : Int)), .val 38 (.int .i64 ((i + 1 : Nat) : Int)), .val 39 (.string (mkB t)), .mem 40 (blkG 9 #[.string (mkB t)] 1), .mem 41 (rowG wz.heap.size 9 1 XT.length (strC XT)), .mems 42 (stoG wz.heap.size XK XT), .mem 42 (boxG gr 25), .val 7 (.int .i64 0), .box (gs) (.cells #[.slice A n c, .slice B m d] 25), .box (gr) (.cells #[.slice none 0 0, .slice none 0 0] 25), .box (gn) (.cells #[.string (mkB p), .string (mkB v)] 27)] (by kernel_rfl) ?_ (w.heap.size) (wz.heap.size) rfl BB.out rfl (fun k => if k = gr then 2 else 3) ?_ ?_ ?_
  · intro j hj
    have hj3 : j < 22 := hj
    have hj2 : j = 0 ∨ j = 1 ∨ j = 2 ∨ j = 3 ∨ j = 4 ∨ j = 5 ∨ j = 6 ∨ j = 7 ∨ j = 8 ∨ j = 9 ∨ j = 10 ∨ j = 11 ∨ j = 12 ∨ j = 13 ∨ j = 14 ∨ j = 15 ∨ j = 16 ∨ j = 17 ∨ j = 18 ∨ j = 19 ∨ j = 20 ∨ j = 21 := by omega
    clear hj hj3
    rcases hj2 with rfl | rfl | rfl | rfl | rfl | rfl | rfl | rfl | rfl | rfl | rfl | rfl | rfl | rfl | rfl | rfl | rfl | rfl | rfl | rfl | rfl | rfl
    · exact trivial
    · exact trivial
    · exact trivial
    · exact trivial
    · exact trivial
    · exact trivial
    · exact blkG_near
    · exact rowG_near
    · exact trivial
    · exact trivial
    · exact trivial
    · exact trivial
    · exact trivial
    · exact trivial
    · exact blkG_near
    · exact rowG_near
    · exact stoG_near
    · exact boxG_near
    · exact trivial
    · exact trivial
    · exact trivial
    · exact trivial
  · intro j hj0 hj
    have hj1 : 19 ≤ j := hj0
    have hj3 : j < 22 := hj
    have hj2 : j = 19 ∨ j = 20 ∨ j = 21 := by omega
    clear hj0 hj hj1 hj3
    rcases hj2 with rfl | rfl | rfl
    · exact ⟨RS.out, if_neg HNE.out⟩
    · exact ⟨RR.out, if_pos rfl⟩
    · exact ⟨RN.out, if_neg HNE2.out⟩
  · intro i hi a wx who hG hF
    have hz : a.tmps.size = 58 := hG.size
    have hi3 : i < 19 := hi
    have hi2 : i = 0 ∨ i = 1 ∨ i = 2 ∨ i = 3 ∨ i = 4 ∨ i = 5 ∨ i = 6 ∨ i = 7 ∨ i = 8 ∨ i = 9 ∨ i = 10 ∨ i = 11 ∨ i = 12 ∨ i = 13 ∨ i = 14 ∨ i = 15 ∨ i = 16 ∨ i = 17 ∨ i = 18 := by omega
    clear hi hi3
    rcases hi2 with rfl | rfl | rfl | rfl | rfl | rfl | rfl | rfl | rfl | rfl | rfl | rfl | rfl | rfl | rfl | rfl | rfl | rfl | rfl
    · exact rol_val rfl rfl rfl (by rw [hz]; decide) (ex_field rfl (eval_slot ((hG.slots 3 (by decide)).trans rfl)) (by go_simp)) hG.below
    · exact rol_val rfl rfl rfl (by rw [hz]; decide) (ex_load rfl (eval_slot (hF 0 (by decide))) (ld_nds (row2 (hF 19 (by decide)).1).1)) hG.below
    · exact rol_val rfl rfl rfl (by rw [hz]; decide) (ex_move (Or.inl rfl) (eval_slot ((hG.slots 8 (by decide)).trans rfl))) hG.below
    · exact rol_val rfl rfl rfl (by rw [hz]; decide) (ex_move (Or.inl rfl) (eval_slot ((hG.slots 8 (by decide)).trans rfl))) hG.below
    · exact rol_val rfl rfl rfl (by rw [hz]; decide) (ex_bin rfl (eval_slot (hF 3 (by decide))) rfl (by go_simp) (bin_add1 HIB.out)) hG.below
    · exact rol_val rfl rfl rfl (by rw [hz]; decide) (ex_load rfl (eval_slot ((hG.slots 4 (by decide)).trans rfl)) (ld_node (row2 (hF 21 (by decide)).1).1 (row2 (hF 21 (by decide)).1).2.1)) hG.below
    · exact rol_newO rfl rfl rfl (by rw [hz]; decide) (x := .cells #[.string (mkB p), .string (mkB v)] 27) (v := .slice (some ⟨wx.heap.size, 0, none⟩) 1 1) (ex_slice rfl (vs := #[(0, .agg #[.string (mkB p), .string (mkB v)])]) (by simp only [List.map_toArray, List.map_cons, List.map_nil, eval_slot (hF 5 (by decide))]) (by go_simp)) ⟨_, rfl, rfl, heap_alloc_new _ _⟩ hG.below (Nat.le_trans BB.out.size hG.new)
    · obtain ⟨v, ob, hv, hob, b, rfl, rfl, hh⟩ := hF 6 (by decide)
      refine rol_calls rfl rfl rfl (by rw [hz]; decide) (ex_call rfl (by simp [eval_slot (hF 1 (by decide)), eval_slot (hF 2 (by decide)), eval_slot (hF 4 (by decide)), eval_slot hv]) e1) (nd_with A n c K i (i + 1) (some ⟨b, 0, none⟩) 1 1 [(p, v)] wx ((Nds.below SK.out hG.below)) (blkG.nds hh) HI.out HI1.out HNB.out (by omega)) ?_ hG.below (Nat.le_trans BB.out.size hG.new)
      rintro e w1 ⟨u, rfl, hown, hb1⟩
      rw [HXK.out] at hown
      exact ⟨u, rfl, hb1, .inr (.inl ⟨_, u.ownBlock, rfl, fun b e => hown.lt b e, row_base hown hG.new, rfl⟩)⟩
    · exact rol_val rfl rfl rfl (by rw [hz]; decide) (ex_field rfl (eval_slot ((hG.slots 3 (by decide)).trans rfl)) (by go_simp)) hG.below
    · exact rol_val rfl rfl rfl (by rw [hz]; decide) (ex_load rfl (eval_slot (hF 8 (by decide))) (ld_sts (row2 (hF 19 (by decide)).1).2.1)) hG.below
    · exact rol_val rfl rfl rfl (by rw [hz]; decide) (ex_move (Or.inl rfl) (eval_slot ((hG.slots 8 (by decide)).trans rfl))) hG.below
    · exact rol_val rfl rfl rfl (by rw [hz]; decide) (ex_move (Or.inl rfl) (eval_slot ((hG.slots 8 (by decide)).trans rfl))) hG.below
    · exact rol_val rfl rfl rfl (by rw [hz]; decide) (ex_bin rfl (eval_slot (hF 11 (by decide))) rfl (by go_simp) (bin_add1 HIB.out)) hG.below
    · exact rol_val rfl rfl rfl (by rw [hz]; decide) (ex_move (Or.inl rfl) (eval_slot ((hG.slots 2 (by decide)).trans rfl))) hG.below
    · exact rol_newO rfl rfl rfl (by rw [hz]; decide) (x := .cells #[.string (mkB t)] 9) (v := .slice (some ⟨wx.heap.size, 0, none⟩) 1 1) (ex_slice rfl (vs := #[(0, .string (mkB t))]) (by simp only [List.map_toArray, List.map_cons, List.map_nil, eval_slot (hF 13 (by decide))]) (by go_simp)) ⟨_, rfl, rfl, heap_alloc_new _ _⟩ hG.below (Nat.le_trans BB.out.size hG.new)
    · obtain ⟨v, ob, hv, hob, b, rfl, rfl, hh⟩ := hF 14 (by decide)
      refine rol_calls rfl rfl rfl (by rw [hz]; decide) (ex_call rfl (by simp [eval_slot (hF 9 (by decide)), eval_slot (hF 10 (by decide)), eval_slot (hF 12 (by decide)), eval_slot hv]) e2) (st_with B m d T i (i + 1) (some ⟨b, 0, none⟩) 1 1 [t] wx ((Strs.belowB ST.out hG.below)) (blkG.strs hh) HIM.out HI1M.out HMB.out (by omega)) ?_ hG.below (Nat.le_trans BB.out.size hG.new)
      rintro e w1 ⟨u, rfl, hown, hb1⟩
      rw [HXT.out] at hown
      exact ⟨u, rfl, hb1, .inr (.inl ⟨_, u.ownBlock, rfl, fun b e => hown.lt b e, row_base hown hG.new, rfl⟩)⟩
    · exact rol_agg rfl rfl rfl (by rw [hz]; decide) rfl rfl rfl (hF 7 (by decide)) (hF 15 (by decide)) hG.below
    · exact rol_box rfl rfl rfl rfl (eval_slot ((hG.slots 6 (by decide)).trans rfl)) (hF 16 (by decide)) (hF 20 (by decide)) hG.below HGL.out
    · exact rol_val rfl rfl rfl (by rw [hz]; decide) (ex_move (Or.inr rfl) rfl) hG.below
  · intro a wx who hG hF
    obtain ⟨v42, bs42, fv42, fo42, fp42⟩ := hF 16 (of_decide_eq_true (by kernel_rfl)) (of_decide_eq_true (by kernel_rfl))
    replace fv42 : a.tmps.getD 42 undef = v42 := eval_slot (s := 42) fv42
    have fv7 : a.tmps.getD 7 undef = .int .i64 0 := eval_slot (s := 7) (hF 18 (of_decide_eq_true (by kernel_rfl)) (of_decide_eq_true (by kernel_rfl)))
    have hbox := hF 17 (of_decide_eq_true (by kernel_rfl)) (of_decide_eq_true (by kernel_rfl))
    obtain ⟨p11, ob11, hp11, -, -, x11, y11, hv11, hrow11⟩ := hbox
    have e11 : v42 = p11 := fv42.symm.trans (eval_slot hp11)
    subst e11
    clear hp11 ob11
    have hbx := hG.below
    have hnx := hG.new
    rw [hG.frame]
    simp only [List.foldl_cons, List.foldl_nil, List.setIfInBounds_toArray, List.set_cons_zero, List.set_cons_succ]
    generalize a.tmps.getD 26 undef = u26
    generalize a.tmps.getD 27 undef = u27
    generalize a.tmps.getD 28 undef = u28
    generalize a.tmps.getD 29 undef = u29
    generalize a.tmps.getD 30 undef = u30
    generalize a.tmps.getD 31 undef = u31
    generalize a.tmps.getD 32 undef = u32
    generalize a.tmps.getD 33 undef = u33
    generalize a.tmps.getD 34 undef = u34
    generalize a.tmps.getD 35 undef = u35
    generalize a.tmps.getD 36 undef = u36
    generalize a.tmps.getD 37 undef = u37
    generalize a.tmps.getD 38 undef = u38
    generalize a.tmps.getD 39 undef = u39
    generalize a.tmps.getD 40 undef = u40
    generalize a.tmps.getD 41 undef = u41
    rw [fv42]
    rw [fv7]
    clear hF hG fv42 fv7
    have hso := fp42.own
    obtain ⟨a1, c1, b1, d1, hv1, -, -⟩ := hso.forms
    rw [hv11] at hv1
    injection hv1 with hv1
    injection hv1 with hv1
    injection hv1 with hv1 hv2
    injection hv2 with hv2
    subst hv1 hv2 hv11
    have HSO := Lib.hid (hso.base BB.out.size)
    have HROW := Lib.hid hrow11
    clear fp42 fo42 hso hrow11
    go_wp2
    try simp only [Exit.inBlock, Exit.then]
    refine bodyPost_ret (v := .tuple #[.agg #[.slice a1 XK.length c1, .slice b1 XT.length d1], .int .i64 0]) (results_ct (fn := Try.f11) (q := 6) (r := 7) (ty := 25) rfl _ _ gr 25 #[.slice a1 XK.length c1, .slice b1 XT.length d1] (0, 0) _ rfl HROW.out Try.underlying25 rfl Try.size_sto) rfl ?_
    exact ⟨_, rfl, HSO.out, hbx⟩
set_option maxHeartbeats 3200000 in
theorem sput_out (A B : Option Addr) (n c m d : Nat) (K : List Nd) (T : List (List UInt8)) (p v t : List UInt8) (w : World) (hk : Nds w (.slice A n c) K) (ht : Strs w (.slice B m d) T) (hs : ∀ n ∈ K, smallN n) (hn : smallN (p, v)) (hl : n ≤ 600000) (hm : m ≤ 600000) (hx : okS K T = true) (hy : okN (p, v) = true) (hf : hasN K (p, v) = false) :
    Calls Try.prog 11 #[.agg #[.slice A n c, .slice B m d], .agg #[.string (mkB p), .string (mkB v)], .string (mkB t)] w fun e w' => ∃ u, e = .returned (.tuple #[u, .int .i64 (putE K T (p, v) t).2.2]) ∧ StoO w' w.heap.size u (putE K T (p, v) t).1 (putE K T (p, v) t).2.1 ∧ Below w.heap.size w w' := by
  obtain ⟨W, gs, gn, gr, hW, hg, hg', hg'', r0, r1, r2, hb⟩ := boxS3 w (.slice A n c) (.slice B m d) (.string (mkB p)) (.string (mkB v)) (.slice none 0 0) (.slice none 0 0) 25 27 25
  obtain ⟨d0, d1, -, -⟩ := row2 r0
  obtain ⟨d2, d3, -, -⟩ := row2 r1
  obtain ⟨hK, -, -⟩ := hk.lenE
  obtain ⟨hT, -, -⟩ := ht.lenE
  have hgrW := (Array.getElem?_eq_some_iff.1 r2).1
  have SK0 := Lib.hid hk; have ST0 := Lib.hid ht
  have SK := Lib.hid (hk.below hb); have ST := Lib.hid (ht.belowB hb); have HS := Lib.hid hs; have HN := Lib.hid hn; have HW := Lib.hid hW; have HG := Lib.hid hg; have HG' := Lib.hid hg'; have HG'' := Lib.hid hg''; have BB := Lib.hid hb; have HK := Lib.hid hK; have HT := Lib.hid hT; have RS := Lib.hid r0; have RN := Lib.hid r1; have RR := Lib.hid r2; have HGL := Lib.hid (show w.heap.size ≤ gr by omega); have HNE := Lib.hid (show ¬ gs = gr by omega); have HNE2 := Lib.hid (show ¬ gn = gr by omega); have HGRW := Lib.hid hgrW; have HNB := Lib.hid hl; have HMB := Lib.hid hm
  have hsk := fun w h1 h2 => seek_yes A B n c m d K T p v w h1 h2 hs hn hl hx hy
  rw [hf] at hsk
  have HSK := Lib.hid hsk; have HX := Lib.hid hx; have HY := Lib.hid hy; have HF := Lib.hid hf
  clear hx hsk hf hy
  clear hk ht hs hn hW hg hg' hg'' hb r0 r1 r2 hK hT hgrW
  obtain ⟨Z, hZ⟩ : ∃ Z, putE K T (p, v) t = Z := ⟨_, rfl⟩
  rw [hZ]
  obtain ⟨XK, XT, ze⟩ := Z
  simp only
  have HZ := Lib.hid hZ; clear hZ
  have e1 : ∀ args w, (callFunc 27 args).run Try.prog w = .ok (.enter 27 args) w := enters_of Try.func27 (by kernel_rfl) rfl
  have e2 : ∀ args w, (callFunc 28 args).run Try.prog w = .ok (.enter 28 args) w := enters_of Try.func28 (by kernel_rfl) rfl
  go_enter Try.func11, Try.ntmps11
  go_upto_region 1 with fail
  rw [HW.out, HG''.out, HG'.out, HG.out]
  go_upto_region 6 with (go_at_call 25; refine (HSK.out _ SK.out ST.out).mono ?_; rintro e wz ⟨⟨i, rfl, hi, hI⟩, hb1⟩; have HFI := Lib.hid hI; clear hI; replace BB := Lib.hid (below_step BB.out hb1); replace SK := Lib.hid (SK.out.below hb1); replace ST := Lib.hid (ST.out.belowB hb1); replace d0 := cell_keep d0 hb1; replace d1 := cell_keep d1 hb1; replace d2 := cell_keep d2 hb1; replace d3 := cell_keep d3 hb1; replace RS := Lib.hid (row_keepB RS.out hb1); replace RN := Lib.hid (row_keepB RN.out hb1); replace RR := Lib.hid (row_keepB RR.out hb1); replace HGRW := Lib.hid (Nat.lt_of_lt_of_le HGRW.out hb1.size); clear hb1)
  have hil : i ≤ K.length := by rw [HK.out]; exact hi
  have hze := putE_out (t := t) HX.out HY.out hil HFI.out HF.out
  rw [HZ.out] at hze
  obtain ⟨hz1, hz2, hz3⟩ : XK = K.take i ++ [(p, v)] ++ K.drop (i) ∧ XT = T.take i ++ [t] ++ T.drop (i) ∧ ze = 0 := by
    injection hze with h1 h2
    injection h2 with h2 h3
    exact ⟨h1, h2, h3⟩
  subst hz3
  have hnm : n = m := by
    have := HX.out
    unfold okS at this
    rw [Bool.and_eq_true, decide_eq_true_iff] at this
    rw [← HK.out, ← HT.out]; exact this.2
  have HI := Lib.hid hi; have HIM := Lib.hid (show i ≤ m by omega); have HXK := Lib.hid hz1.symm; have HXT := Lib.hid hz2.symm; have HIB := Lib.hid (show i ≤ 1000000 by have := HNB.out; omega)
  replace SK := Lib.hid SK0.out; replace ST := Lib.hid ST0.out
  clear hz1 hz2 hze hil hnm d0 d1 d2 d3
  refine rol_run (by kernel_rfl) [[], [0], [], [], [], [4], [0, 1, 2, 3, 4, 5], [], [7], [], [], [], [11], [0, 1, 2, 3, 4, 5, 6, 7, 8, 9, 10, 11, 12], [0, 1, 2, 3, 4, 5, 6, 7, 8, 9, 10, 11, 12, 13], [0, 1, 2, 3, 4, 5, 6, 7, 8, 9, 10, 11, 12, 13, 14], [0, 1, 2, 3, 4, 5, 6, 7, 8, 9, 10, 11, 12, 13, 14, 15]] (by kernel_rfl) [43, 44, 45, 46, 47, 48, 49, 50, 51, 52, 53, 54, 55, 56, 57, 7] [[], [0, 17], [], [], [19], [4], [1, 2, 3, 5], [], [7, 17], [], [], [], [11], [8, 9, 10, 12], [6, 13], [14, 18], []] [0, 0, 0, 0, 0, 1, 1, 0, 0, 0, 0, 0, 1, 1, 1, 2, 0, 3, 2, 3] [0, 0, 0, 0, 0, 0, 0, 0, 0, 0, 0, 0, 0, 0, 0, 2, 0] [1000, 1000, 1000, 1000, 1000, 1000, 1000, 1000, 1000, 1000, 1000, 1000, 1000, 1000, 1000, 1000, 1000, 1000, 15, 1000] [.val 43 (.pointer (some ⟨gs, 0, none⟩)), .val 44 (.slice A n c), .val 45 (.int .i64 (i : Int)), .val 46 (.int .i64 (i : Int)), .val 47 (.agg #[.string (mkB p), .string (mkB v)]), .mem 48 (blkG 27 #[.string (mkB p), .string (mkB v)] 1), .mem 49 (rowG wz.heap.size 27 2 XK.length (ndsC XK)), .val 50 (.pointer (some ⟨gs, 1, none⟩)), .val 51 (.slice B m d), .val 52 (.int .i64 (i : Int)), .val 53 (.int .i64 (i : Int)), .val 54 (.string (mkB t)), .mem 55 (blkG 9 #[.string (mkB t)] 1), .mem 56 (rowG wz.heap.size 9 1 XT.length (strC XT)), .mems 57 (stoG wz.heap.size XK XT), .mem 57 (boxG gr 25), .val 7 (.int .i64 0), .box (gs) (.cells #[.slice A n c, .slice B m d] 25), .box (gr) (.cells #[.slice none 0 0, .slice none 0 0] 25), .box (gn) (.cells #[.string (mkB p), .string (mkB v)] 27)] (by kernel_rfl) ?_ (w.heap.size) (wz.heap.size) rfl BB.out rfl (fun k => if k = gr then 2 else 3) ?_ ?_ ?_
  · intro j hj
    have hj3 : j < 20 := hj
    have hj2 : j = 0 ∨ j = 1 ∨ j = 2 ∨ j = 3 ∨ j = 4 ∨ j = 5 ∨ j = 6 ∨ j = 7 ∨ j = 8 ∨ j = 9 ∨ j = 10 ∨ j = 11 ∨ j = 12 ∨ j = 13 ∨ j = 14 ∨ j = 15 ∨ j = 16 ∨ j = 17 ∨ j = 18 ∨ j = 19 := by omega
    clear hj hj3
    rcases hj2 with rfl | rfl | rfl | rfl | rfl | rfl | rfl | rfl | rfl | rfl | rfl | rfl | rfl | rfl | rfl | rfl | rfl | rfl | rfl | rfl
    · exact trivial
    · exact trivial
    · exact trivial
    · exact trivial
    · exact trivial
    · exact blkG_near
    · exact rowG_near
    · exact trivial
    · exact trivial
    · exact trivial
    · exact trivial
    · exact trivial
    · exact blkG_near
    · exact rowG_near
    · exact stoG_near
    · exact boxG_near
    · exact trivial
    · exact trivial
    · exact trivial
    · exact trivial
  · intro j hj0 hj
    have hj1 : 17 ≤ j := hj0
    have hj3 : j < 20 := hj
    have hj2 : j = 17 ∨ j = 18 ∨ j = 19 := by omega
    clear hj0 hj hj1 hj3
    rcases hj2 with rfl | rfl | rfl
    · exact ⟨RS.out, if_neg HNE.out⟩
    · exact ⟨RR.out, if_pos rfl⟩
    · exact ⟨RN.out, if_neg HNE2.out⟩
  · intro i hi a wx who hG hF
    have hz : a.tmps.size = 58 := hG.size
    have hi3 : i < 17 := hi
    have hi2 : i = 0 ∨ i = 1 ∨ i = 2 ∨ i = 3 ∨ i = 4 ∨ i = 5 ∨ i = 6 ∨ i = 7 ∨ i = 8 ∨ i = 9 ∨ i = 10 ∨ i = 11 ∨ i = 12 ∨ i = 13 ∨ i = 14 ∨ i = 15 ∨ i = 16 := by omega
    clear hi hi3
    rcases hi2 with rfl | rfl | rfl | rfl | rfl | rfl | rfl | rfl | rfl | rfl | rfl | rfl | rfl | rfl | rfl | rfl | rfl
    · exact rol_val rfl rfl rfl (by rw [hz]; decide) (ex_field rfl (eval_slot ((hG.slots 3 (by decide)).trans rfl)) (by go_simp)) hG.below
    · exact rol_val rfl rfl rfl (by rw [hz]; decide) (ex_load rfl (eval_slot (hF 0 (by decide))) (ld_nds (row2 (hF 17 (by decide)).1).1)) hG.below
    · exact rol_val rfl rfl rfl (by rw [hz]; decide) (ex_move (Or.inl rfl) (eval_slot ((hG.slots 8 (by decide)).trans rfl))) hG.below
    · exact rol_val rfl rfl rfl (by rw [hz]; decide) (ex_move (Or.inl rfl) (eval_slot ((hG.slots 8 (by decide)).trans rfl))) hG.below
    · exact rol_val rfl rfl rfl (by rw [hz]; decide) (ex_load rfl (eval_slot ((hG.slots 4 (by decide)).trans rfl)) (ld_node (row2 (hF 19 (by decide)).1).1 (row2 (hF 19 (by decide)).1).2.1)) hG.below
    · exact rol_newO rfl rfl rfl (by rw [hz]; decide) (x := .cells #[.string (mkB p), .string (mkB v)] 27) (v := .slice (some ⟨wx.heap.size, 0, none⟩) 1 1) (ex_slice rfl (vs := #[(0, .agg #[.string (mkB p), .string (mkB v)])]) (by simp only [List.map_toArray, List.map_cons, List.map_nil, eval_slot (hF 4 (by decide))]) (by go_simp)) ⟨_, rfl, rfl, heap_alloc_new _ _⟩ hG.below (Nat.le_trans BB.out.size hG.new)
    · obtain ⟨v, ob, hv, hob, b, rfl, rfl, hh⟩ := hF 5 (by decide)
      refine rol_calls rfl rfl rfl (by rw [hz]; decide) (ex_call rfl (by simp [eval_slot (hF 1 (by decide)), eval_slot (hF 2 (by decide)), eval_slot (hF 3 (by decide)), eval_slot hv]) e1) (nd_with A n c K i (i) (some ⟨b, 0, none⟩) 1 1 [(p, v)] wx ((Nds.below SK.out hG.below)) (blkG.nds hh) HI.out HI.out HNB.out (by omega)) ?_ hG.below (Nat.le_trans BB.out.size hG.new)
      rintro e w1 ⟨u, rfl, hown, hb1⟩
      rw [HXK.out] at hown
      exact ⟨u, rfl, hb1, .inr (.inl ⟨_, u.ownBlock, rfl, fun b e => hown.lt b e, row_base hown hG.new, rfl⟩)⟩
    · exact rol_val rfl rfl rfl (by rw [hz]; decide) (ex_field rfl (eval_slot ((hG.slots 3 (by decide)).trans rfl)) (by go_simp)) hG.below
    · exact rol_val rfl rfl rfl (by rw [hz]; decide) (ex_load rfl (eval_slot (hF 7 (by decide))) (ld_sts (row2 (hF 17 (by decide)).1).2.1)) hG.below
    · exact rol_val rfl rfl rfl (by rw [hz]; decide) (ex_move (Or.inl rfl) (eval_slot ((hG.slots 8 (by decide)).trans rfl))) hG.below
    · exact rol_val rfl rfl rfl (by rw [hz]; decide) (ex_move (Or.inl rfl) (eval_slot ((hG.slots 8 (by decide)).trans rfl))) hG.below
    · exact rol_val rfl rfl rfl (by rw [hz]; decide) (ex_move (Or.inl rfl) (eval_slot ((hG.slots 2 (by decide)).trans rfl))) hG.below
    · exact rol_newO rfl rfl rfl (by rw [hz]; decide) (x := .cells #[.string (mkB t)] 9) (v := .slice (some ⟨wx.heap.size, 0, none⟩) 1 1) (ex_slice rfl (vs := #[(0, .string (mkB t))]) (by simp only [List.map_toArray, List.map_cons, List.map_nil, eval_slot (hF 11 (by decide))]) (by go_simp)) ⟨_, rfl, rfl, heap_alloc_new _ _⟩ hG.below (Nat.le_trans BB.out.size hG.new)
    · obtain ⟨v, ob, hv, hob, b, rfl, rfl, hh⟩ := hF 12 (by decide)
      refine rol_calls rfl rfl rfl (by rw [hz]; decide) (ex_call rfl (by simp [eval_slot (hF 8 (by decide)), eval_slot (hF 9 (by decide)), eval_slot (hF 10 (by decide)), eval_slot hv]) e2) (st_with B m d T i (i) (some ⟨b, 0, none⟩) 1 1 [t] wx ((Strs.belowB ST.out hG.below)) (blkG.strs hh) HIM.out HIM.out HMB.out (by omega)) ?_ hG.below (Nat.le_trans BB.out.size hG.new)
      rintro e w1 ⟨u, rfl, hown, hb1⟩
      rw [HXT.out] at hown
      exact ⟨u, rfl, hb1, .inr (.inl ⟨_, u.ownBlock, rfl, fun b e => hown.lt b e, row_base hown hG.new, rfl⟩)⟩
    · exact rol_agg rfl rfl rfl (by rw [hz]; decide) rfl rfl rfl (hF 6 (by decide)) (hF 13 (by decide)) hG.below
    · exact rol_box rfl rfl rfl rfl (eval_slot ((hG.slots 6 (by decide)).trans rfl)) (hF 14 (by decide)) (hF 18 (by decide)) hG.below HGL.out
    · exact rol_val rfl rfl rfl (by rw [hz]; decide) (ex_move (Or.inr rfl) rfl) hG.below
  · intro a wx who hG hF
    obtain ⟨v57, bs57, fv57, fo57, fp57⟩ := hF 14 (of_decide_eq_true (by kernel_rfl)) (of_decide_eq_true (by kernel_rfl))
    replace fv57 : a.tmps.getD 57 undef = v57 := eval_slot (s := 57) fv57
    have fv7 : a.tmps.getD 7 undef = .int .i64 0 := eval_slot (s := 7) (hF 16 (of_decide_eq_true (by kernel_rfl)) (of_decide_eq_true (by kernel_rfl)))
    have hbox := hF 15 (of_decide_eq_true (by kernel_rfl)) (of_decide_eq_true (by kernel_rfl))
    obtain ⟨p11, ob11, hp11, -, -, x11, y11, hv11, hrow11⟩ := hbox
    have e11 : v57 = p11 := fv57.symm.trans (eval_slot hp11)
    subst e11
    clear hp11 ob11
    have hbx := hG.below
    have hnx := hG.new
    rw [hG.frame]
    simp only [List.foldl_cons, List.foldl_nil, List.setIfInBounds_toArray, List.set_cons_zero, List.set_cons_succ]
    generalize a.tmps.getD 43 undef = u43
    generalize a.tmps.getD 44 undef = u44
    generalize a.tmps.getD 45 undef = u45
    generalize a.tmps.getD 46 undef = u46
    generalize a.tmps.getD 47 undef = u47
    generalize a.tmps.getD 48 undef = u48
    generalize a.tmps.getD 49 undef = u49
    generalize a.tmps.getD 50 undef = u50
    generalize a.tmps.getD 51 undef = u51
    generalize a.tmps.getD 52 undef = u52
    generalize a.tmps.getD 53 undef = u53
    generalize a.tmps.getD 54 undef = u54
    generalize a.tmps.getD 55 undef = u55
    generalize a.tmps.getD 56 undef = u56
    rw [fv57]
    rw [fv7]
    clear hF hG fv57 fv7
    have hso := fp57.own
    obtain ⟨a1, c1, b1, d1, hv1, -, -⟩ := hso.forms
    rw [hv11] at hv1
    injection hv1 with hv1
    injection hv1 with hv1
    injection hv1 with hv1 hv2
    injection hv2 with hv2
    subst hv1 hv2 hv11
    have HSO := Lib.hid (hso.base BB.out.size)
    have HROW := Lib.hid hrow11
    clear fp57 fo57 hso hrow11
    go_wp2
    try simp only [Exit.inBlock, Exit.then]
    refine bodyPost_ret (v := .tuple #[.agg #[.slice a1 XK.length c1, .slice b1 XT.length d1], .int .i64 0]) (results_ct (fn := Try.f11) (q := 6) (r := 7) (ty := 25) rfl _ _ gr 25 #[.slice a1 XK.length c1, .slice b1 XT.length d1] (0, 0) _ rfl HROW.out Try.underlying25 rfl Try.size_sto) rfl ?_
    exact ⟨_, rfl, HSO.out, hbx⟩
theorem sput_any (A B : Option Addr) (n c m d : Nat) (K : List Nd) (T : List (List UInt8)) (p v t : List UInt8) (w : World) (hk : Nds w (.slice A n c) K) (ht : Strs w (.slice B m d) T) (hs : ∀ n ∈ K, smallN n) (hn : smallN (p, v)) (hl : n ≤ 600000) (hm : m ≤ 600000) :
    Calls Try.prog 11 #[.agg #[.slice A n c, .slice B m d], .agg #[.string (mkB p), .string (mkB v)], .string (mkB t)] w fun e w' => ∃ u, e = .returned (.tuple #[u, .int .i64 (putE K T (p, v) t).2.2]) ∧ StoO w' w.heap.size u (putE K T (p, v) t).1 (putE K T (p, v) t).2.1 ∧ Below w.heap.size w w' := by
  cases hx : (okS K T && okN (p, v))
  · exact sput_no A B n c m d K T p v t w hk ht hs hn hl hm hx
  · rw [Bool.and_eq_true] at hx
    cases hf : hasN K (p, v)
    · exact sput_out A B n c m d K T p v t w hk ht hs hn hl hm hx.1 hx.2 hf
    · exact sput_in A B n c m d K T p v t w hk ht hs hn hl hm hx.1 hx.2 hf
end Go.Proofs.Ytceefoiffkgliaa

namespace Go.Proofs.Ytceefoiffkgliaa
open Go.RowKit
set_option linter.unusedVariables false
set_option maxRecDepth 100000

set_option maxHeartbeats 3200000 in
theorem sdrop_no (A B : Option Addr) (n c m d : Nat) (K : List Nd) (T : List (List UInt8)) (p v : List UInt8) (w : World) (hk : Nds w (.slice A n c) K) (ht : Strs w (.slice B m d) T) (hs : ∀ n ∈ K, smallN n) (hn : smallN (p, v)) (hl : n ≤ 600000) (hm : m ≤ 600000) (hx : (okS K T && okN (p, v)) = false) :
    Calls Try.prog 12 #[.agg #[.slice A n c, .slice B m d], .agg #[.string (mkB p), .string (mkB v)]] w fun e w' => ∃ u, e = .returned (.tuple #[u, .int .i64 (dropE K T (p, v)).2.2]) ∧ StoO w' w.heap.size u (dropE K T (p, v)).1 (dropE K T (p, v)).2.1 ∧ Below w.heap.size w w' := by
  obtain ⟨W, gs, gn, gr, hW, hg, hg', hg'', r0, r1, r2, hb⟩ := boxS3 w (.slice A n c) (.slice B m d) (.string (mkB p)) (.string (mkB v)) (.slice none 0 0) (.slice none 0 0) 25 27 25
  obtain ⟨d0, d1, -, -⟩ := row2 r0
  obtain ⟨d2, d3, -, -⟩ := row2 r1
  obtain ⟨hK, -, -⟩ := hk.lenE
  obtain ⟨hT, -, -⟩ := ht.lenE
  have hgrW := (Array.getElem?_eq_some_iff.1 r2).1
  have SK0 := Lib.hid hk; have ST0 := Lib.hid ht
  have SK := Lib.hid (hk.below hb); have ST := Lib.hid (ht.belowB hb); have HS := Lib.hid hs; have HN := Lib.hid hn; have HW := Lib.hid hW; have HG := Lib.hid hg; have HG' := Lib.hid hg'; have HG'' := Lib.hid hg''; have BB := Lib.hid hb; have HK := Lib.hid hK; have HT := Lib.hid hT; have RS := Lib.hid r0; have RN := Lib.hid r1; have RR := Lib.hid r2; have HGL := Lib.hid (show w.heap.size ≤ gr by omega); have HNE := Lib.hid (show ¬ gs = gr by omega); have HNE2 := Lib.hid (show ¬ gn = gr by omega); have HGRW := Lib.hid hgrW; have HNB := Lib.hid hl; have HMB := Lib.hid hm
  clear hk ht hs hn hW hg hg' hg'' hb r0 r1 r2 hK hT hgrW
  rw [dropE_no hx]
  have HX := Lib.hid hx; clear hx
  go_enter Try.func12, Try.ntmps12
  go_upto_region 1 with fail
  rw [HW.out, HG''.out, HG'.out, HG.out]
  go_wp2_with (first
    | (go_at_call 25; refine (seek_no _ _ _ _ _ _ K T p v _ SK.out ST.out HS.out HN.out HX.out).mono ?_; rintro e w1 ⟨rfl, hb1⟩; replace BB := Lib.hid (below_step BB.out hb1); replace SK := Lib.hid (SK.out.below hb1); replace ST := Lib.hid (ST.out.belowB hb1); replace d0 := cell_keep d0 hb1; replace d1 := cell_keep d1 hb1; replace d2 := cell_keep d2 hb1; replace d3 := cell_keep d3 hb1; replace RS := Lib.hid (row_keepB RS.out hb1); replace RN := Lib.hid (row_keepB RN.out hb1); replace RR := Lib.hid (row_keepB RR.out hb1); replace HGRW := Lib.hid (Nat.lt_of_lt_of_le HGRW.out hb1.size); clear hb1)
    | (go_at_call 26; refine (sown_any _ _ _ _ _ _ K T _ SK.out ST.out HNB.out HMB.out).mono ?_; rintro e w2 ⟨u2, rfl, hso, hb2⟩; obtain ⟨a1, c1, b1, e1, rfl, -, -⟩ := hso.forms; have HSO := Lib.hid (StoO.base hso (Nat.le_succ _)); have HR2 := Lib.hid (row_keepB RR.out hb2); obtain ⟨q0, q1, qf0, qf1⟩ := row2 HR2.out; have HWS := Lib.hid BB.out.size; replace BB := Lib.hid (below_step BB.out hb2); clear hb2 hso))
  try simp only [Exit.inBlock, Exit.then]
  refine bodyPost_ret (v := .tuple #[.agg #[.slice a1 K.length c1, .slice b1 T.length e1], .int .i64 1]) (results_ct (fn := Try.f12) (q := 4) (r := 5) (ty := 25) rfl _ _ gr 25 #[.slice a1 K.length c1, .slice b1 T.length e1] (0, 0) _ rfl (row2_set HR2.out _ _) Try.underlying25 rfl Try.size_sto) rfl ?_
  exact ⟨_, rfl, ((HSO.out.far HGRW.out _).far HGRW.out _).base HWS.out, (BB.out.setCell HGL.out _).setCell HGL.out _⟩
set_option maxHeartbeats 3200000 in
theorem sdrop_out (A B : Option Addr) (n c m d : Nat) (K : List Nd) (T : List (List UInt8)) (p v : List UInt8) (w : World) (hk : Nds w (.slice A n c) K) (ht : Strs w (.slice B m d) T) (hs : ∀ n ∈ K, smallN n) (hn : smallN (p, v)) (hl : n ≤ 600000) (hm : m ≤ 600000) (hx : okS K T = true) (hy : okN (p, v) = true) (hf : hasN K (p, v) = false) :
    Calls Try.prog 12 #[.agg #[.slice A n c, .slice B m d], .agg #[.string (mkB p), .string (mkB v)]] w fun e w' => ∃ u, e = .returned (.tuple #[u, .int .i64 (dropE K T (p, v)).2.2]) ∧ StoO w' w.heap.size u (dropE K T (p, v)).1 (dropE K T (p, v)).2.1 ∧ Below w.heap.size w w' := by
  obtain ⟨W, gs, gn, gr, hW, hg, hg', hg'', r0, r1, r2, hb⟩ := boxS3 w (.slice A n c) (.slice B m d) (.string (mkB p)) (.string (mkB v)) (.slice none 0 0) (.slice none 0 0) 25 27 25
  obtain ⟨d0, d1, -, -⟩ := row2 r0
  obtain ⟨d2, d3, -, -⟩ := row2 r1
  obtain ⟨hK, -, -⟩ := hk.lenE
  obtain ⟨hT, -, -⟩ := ht.lenE
  have hgrW := (Array.getElem?_eq_some_iff.1 r2).1
  have SK0 := Lib.hid hk; have ST0 := Lib.hid ht
  have SK := Lib.hid (hk.below hb); have ST := Lib.hid (ht.belowB hb); have HS := Lib.hid hs; have HN := Lib.hid hn; have HW := Lib.hid hW; have HG := Lib.hid hg; have HG' := Lib.hid hg'; have HG'' := Lib.hid hg''; have BB := Lib.hid hb; have HK := Lib.hid hK; have HT := Lib.hid hT; have RS := Lib.hid r0; have RN := Lib.hid r1; have RR := Lib.hid r2; have HGL := Lib.hid (show w.heap.size ≤ gr by omega); have HNE := Lib.hid (show ¬ gs = gr by omega); have HNE2 := Lib.hid (show ¬ gn = gr by omega); have HGRW := Lib.hid hgrW; have HNB := Lib.hid hl; have HMB := Lib.hid hm
  rw [dropE_out hx hy hf]
  have hsk := fun w h1 h2 => seek_yes A B n c m d K T p v w h1 h2 hs hn hl hx hy
  rw [hf] at hsk
  have HSK := Lib.hid hsk; have HX := Lib.hid hx; have HY := Lib.hid hy; have HF := Lib.hid hf
  clear hx hsk hf hy
  clear hk ht hs hn hW hg hg' hg'' hb r0 r1 r2 hK hT hgrW
  go_enter Try.func12, Try.ntmps12
  go_upto_region 1 with fail
  rw [HW.out, HG''.out, HG'.out, HG.out]
  go_wp2_with (first
    | (go_at_call 25; refine (HSK.out _ SK.out ST.out).mono ?_; rintro e w1 ⟨⟨i, rfl, -, -⟩, hb1⟩; replace BB := Lib.hid (below_step BB.out hb1); replace SK := Lib.hid (SK.out.below hb1); replace ST := Lib.hid (ST.out.belowB hb1); replace d0 := cell_keep d0 hb1; replace d1 := cell_keep d1 hb1; replace d2 := cell_keep d2 hb1; replace d3 := cell_keep d3 hb1; replace RS := Lib.hid (row_keepB RS.out hb1); replace RN := Lib.hid (row_keepB RN.out hb1); replace RR := Lib.hid (row_keepB RR.out hb1); replace HGRW := Lib.hid (Nat.lt_of_lt_of_le HGRW.out hb1.size); clear hb1)
    | (go_at_call 26; refine (sown_any _ _ _ _ _ _ K T _ SK.out ST.out HNB.out HMB.out).mono ?_; rintro e w2 ⟨u2, rfl, hso, hb2⟩; obtain ⟨a1, c1, b1, e1, rfl, -, -⟩ := hso.forms; have HSO := Lib.hid (StoO.base hso (Nat.le_succ _)); have HR2 := Lib.hid (row_keepB RR.out hb2); obtain ⟨q0, q1, qf0, qf1⟩ := row2 HR2.out; have HWS := Lib.hid BB.out.size; replace BB := Lib.hid (below_step BB.out hb2); clear hb2 hso))
  try simp only [Exit.inBlock, Exit.then]
  refine bodyPost_ret (v := .tuple #[.agg #[.slice a1 K.length c1, .slice b1 T.length e1], .int .i64 2]) (results_ct (fn := Try.f12) (q := 4) (r := 5) (ty := 25) rfl _ _ gr 25 #[.slice a1 K.length c1, .slice b1 T.length e1] (0, 0) _ rfl (row2_set HR2.out _ _) Try.underlying25 rfl Try.size_sto) rfl ?_
  exact ⟨_, rfl, ((HSO.out.far HGRW.out _).far HGRW.out _).base HWS.out, (BB.out.setCell HGL.out _).setCell HGL.out _⟩
set_option maxHeartbeats 3200000 in
theorem sdrop_in (A B : Option Addr) (n c m d : Nat) (K : List Nd) (T : List (List UInt8)) (p v : List UInt8) (w : World) (hk : Nds w (.slice A n c) K) (ht : Strs w (.slice B m d) T) (hs : ∀ n ∈ K, smallN n) (hn : smallN (p, v)) (hl : n ≤ 600000) (hm : m ≤ 600000) (hx : okS K T = true) (hy : okN (p, v) = true) (hf : hasN K (p, v) = true) :
    Calls Try.prog 12 #[.agg #[.slice A n c, .slice B m d], .agg #[.string (mkB p), .string (mkB v)]] w fun e w' => ∃ u, e = .returned (.tuple #[u, .int .i64 (dropE K T (p, v)).2.2]) ∧ StoO w' w.heap.size u (dropE K T (p, v)).1 (dropE K T (p, v)).2.1 ∧ Below w.heap.size w w' := by
  obtain ⟨W, gs, gn, gr, hW, hg, hg', hg'', r0, r1, r2, hb⟩ := boxS3 w (.slice A n c) (.slice B m d) (.string (mkB p)) (.string (mkB v)) (.slice none 0 0) (.slice none 0 0) 25 27 25
  obtain ⟨d0, d1, -, -⟩ := row2 r0
  obtain ⟨d2, d3, -, -⟩ := row2 r1
  obtain ⟨hK, -, -⟩ := hk.lenE
  obtain ⟨hT, -, -⟩ := ht.lenE
  have hgrW := (Array.getElem?_eq_some_iff.1 r2).1
  have SK0 := Lib.hid hk; have ST0 := Lib.hid ht
  have SK := Lib.hid (hk.below hb); have ST := Lib.hid (ht.belowB hb); have HS := Lib.hid hs; have HN := Lib.hid hn; have HW := Lib.hid hW; have HG := Lib.hid hg; have HG' := Lib.hid hg'; have HG'' := Lib.hid hg''; have BB := Lib.hid hb; have HK := Lib.hid hK; have HT := Lib.hid hT; have RS := Lib.hid r0; have RN := Lib.hid r1; have RR := Lib.hid r2; have HGL := Lib.hid (show w.heap.size ≤ gr by omega); have HNE := Lib.hid (show ¬ gs = gr by omega); have HNE2 := Lib.hid (show ¬ gn = gr by omega); have HGRW := Lib.hid hgrW; have HNB := Lib.hid hl; have HMB := Lib.hid hm
  have hsk := fun w h1 h2 => seek_yes A B n c m d K T p v w h1 h2 hs hn hl hx hy
  rw [hf] at hsk
  have HSK := Lib.hid hsk; have HX := Lib.hid hx; have HY := Lib.hid hy; have HF := Lib.hid hf
  clear hx hsk hf hy
  clear hk ht hs hn hW hg hg' hg'' hb r0 r1 r2 hK hT hgrW
  obtain ⟨Z, hZ⟩ : ∃ Z, dropE K T (p, v) = Z := ⟨_, rfl⟩
  rw [hZ]
  obtain ⟨XK, XT, ze⟩ := Z
  simp only
  have HZ := Lib.hid hZ; clear hZ
  have e1 : ∀ args w, (callFunc 27 args).run Try.prog w = .ok (.enter 27 args) w := enters_of Try.func27 (by kernel_rfl) rfl
  have e2 : ∀ args w, (callFunc 28 args).run Try.prog w = .ok (.enter 28 args) w := enters_of Try.func28 (by kernel_rfl) rfl
  go_enter Try.func12, Try.ntmps12
  go_upto_region 1 with fail
  rw [HW.out, HG''.out, HG'.out, HG.out]
  go_upto_region 6 with (go_at_call 25; refine (HSK.out _ SK.out ST.out).mono ?_; rintro e wz ⟨⟨i, rfl, hi, hI⟩, hb1⟩; have HFI := Lib.hid hI; clear hI; replace BB := Lib.hid (below_step BB.out hb1); replace SK := Lib.hid (SK.out.below hb1); replace ST := Lib.hid (ST.out.belowB hb1); replace d0 := cell_keep d0 hb1; replace d1 := cell_keep d1 hb1; replace d2 := cell_keep d2 hb1; replace d3 := cell_keep d3 hb1; replace RS := Lib.hid (row_keepB RS.out hb1); replace RN := Lib.hid (row_keepB RN.out hb1); replace RR := Lib.hid (row_keepB RR.out hb1); replace HGRW := Lib.hid (Nat.lt_of_lt_of_le HGRW.out hb1.size); clear hb1)
  have hil : i ≤ K.length := by rw [HK.out]; exact hi
  have hze := dropE_in HX.out HY.out hil HFI.out HF.out
  rw [HZ.out] at hze
  obtain ⟨hz1, hz2, hz3⟩ : XK = K.take i ++ [] ++ K.drop (i + 1) ∧ XT = T.take i ++ [] ++ T.drop (i + 1) ∧ ze = 0 := by
    injection hze with h1 h2
    injection h2 with h2 h3
    exact ⟨h1, h2, h3⟩
  subst hz3
  have hnm : n = m := by
    have := HX.out
    unfold okS at this
    rw [Bool.and_eq_true, decide_eq_true_iff] at this
    rw [← HK.out, ← HT.out]; exact this.2
  have hi1 : i + 1 ≤ m := by
    have := (getE_in HX.out HY.out hil HFI.out HF.out).2
    rw [HT.out] at this; exact this
  have HI1 := Lib.hid (show i + 1 ≤ n by omega); have HI1M := Lib.hid hi1
  have HI := Lib.hid hi; have HIM := Lib.hid (show i ≤ m by omega); have HXK := Lib.hid hz1.symm; have HXT := Lib.hid hz2.symm; have HIB := Lib.hid (show i ≤ 1000000 by have := HNB.out; omega)
  replace SK := Lib.hid SK0.out; replace ST := Lib.hid ST0.out
  clear hz1 hz2 hze hil hnm d0 d1 d2 d3
  refine rol_run (by kernel_rfl) [[], [0], [], [], [3], [0, 1, 2, 3, 4], [], [6], [], [], [9], [0, 1, 2, 3, 4, 5, 6, 7, 8, 9, 10], [0, 1, 2, 3, 4, 5, 6, 7, 8, 9, 10, 11], [0, 1, 2, 3, 4, 5, 6, 7, 8, 9, 10, 11, 12], [0, 1, 2, 3, 4, 5, 6, 7, 8, 9, 10, 11, 12, 13]] (by kernel_rfl) [27, 28, 29, 30, 31, 32, 33, 34, 35, 36, 37, 38, 39, 5] [[], [0, 15], [], [], [3], [1, 2, 4], [], [6, 15], [], [], [9], [7, 8, 10], [5, 11], [12, 16], []] [0, 0, 0, 0, 0, 1, 0, 0, 0, 0, 0, 1, 1, 2, 0, 3, 2] [0, 0, 0, 0, 0, 0, 0, 0, 0, 0, 0, 0, 0, 2, 0] [1000, 1000, 1000, 1000, 1000, 1000, 1000, 1000, 1000, 1000, 1000, 1000, 1000, 1000, 1000, 1000, 13] [.val 27 (.pointer (some ⟨gs, 0, none⟩)), .val 28 (.slice A n c), .val 29 (.int .i64 (i : Int)), .val 30 (.int .i64 (i : Int)), .val 31 (.int .i64 ((i + 1 : Nat) : Int)), .mem 32 (rowG wz.heap.size 27 2 XK.length (ndsC XK)), .val 33 (.pointer (some ⟨gs, 1, none⟩)), .val 34 (.slice B m d), .val 35 (.int .i64 (i : Int)), .val 36 (.int .i64 (i : Int)), .val 37 (.int .i64 ((i + 1 : Nat) : Int)), .mem 38 (rowG wz.heap.size 9 1 XT.length (strC XT)), .mems 39 (stoG wz.heap.size XK XT), .mem 39 (boxG gr 25), .val 5 (.int .i64 0), .box (gs) (.cells #[.slice A n c, .slice B m d] 25), .box (gr) (.cells #[.slice none 0 0, .slice none 0 0] 25)] (by kernel_rfl) ?_ (w.heap.size) (wz.heap.size) rfl BB.out rfl (fun k => if k = gr then 2 else 3) ?_ ?_ ?_
  · intro j hj
    have hj3 : j < 17 := hj
    have hj2 : j = 0 ∨ j = 1 ∨ j = 2 ∨ j = 3 ∨ j = 4 ∨ j = 5 ∨ j = 6 ∨ j = 7 ∨ j = 8 ∨ j = 9 ∨ j = 10 ∨ j = 11 ∨ j = 12 ∨ j = 13 ∨ j = 14 ∨ j = 15 ∨ j = 16 := by omega
    clear hj hj3
    rcases hj2 with rfl | rfl | rfl | rfl | rfl | rfl | rfl | rfl | rfl | rfl | rfl | rfl | rfl | rfl | rfl | rfl | rfl
    · exact trivial
    · exact trivial
    · exact trivial
    · exact trivial
    · exact trivial
    · exact rowG_near
    · exact trivial
    · exact trivial
    · exact trivial
    · exact trivial
    · exact trivial
    · exact rowG_near
    · exact stoG_near
    · exact boxG_near
    · exact trivial
    · exact trivial
    · exact trivial
  · intro j hj0 hj
    have hj1 : 15 ≤ j := hj0
    have hj3 : j < 17 := hj
    have hj2 : j = 15 ∨ j = 16 := by omega
    clear hj0 hj hj1 hj3
    rcases hj2 with rfl | rfl
    · exact ⟨RS.out, if_neg HNE.out⟩
    · exact ⟨RR.out, if_pos rfl⟩
  · intro i hi a wx who hG hF
    have hz : a.tmps.size = 40 := hG.size
    have hi3 : i < 15 := hi
    have hi2 : i = 0 ∨ i = 1 ∨ i = 2 ∨ i = 3 ∨ i = 4 ∨ i = 5 ∨ i = 6 ∨ i = 7 ∨ i = 8 ∨ i = 9 ∨ i = 10 ∨ i = 11 ∨ i = 12 ∨ i = 13 ∨ i = 14 := by omega
    clear hi hi3
    rcases hi2 with rfl | rfl | rfl | rfl | rfl | rfl | rfl | rfl | rfl | rfl | rfl | rfl | rfl | rfl | rfl
    · exact rol_val rfl rfl rfl (by rw [hz]; decide) (ex_field rfl (eval_slot ((hG.slots 2 (by decide)).trans rfl)) (by go_simp)) hG.below
    · exact rol_val rfl rfl rfl (by rw [hz]; decide) (ex_load rfl (eval_slot (hF 0 (by decide))) (ld_nds (row2 (hF 15 (by decide)).1).1)) hG.below
    · exact rol_val rfl rfl rfl (by rw [hz]; decide) (ex_move (Or.inl rfl) (eval_slot ((hG.slots 6 (by decide)).trans rfl))) hG.below
    · exact rol_val rfl rfl rfl (by rw [hz]; decide) (ex_move (Or.inl rfl) (eval_slot ((hG.slots 6 (by decide)).trans rfl))) hG.below
    · exact rol_val rfl rfl rfl (by rw [hz]; decide) (ex_bin rfl (eval_slot (hF 3 (by decide))) rfl (by go_simp) (bin_add1 HIB.out)) hG.below
    · refine rol_calls rfl rfl rfl (by rw [hz]; decide) (ex_call rfl (by simp [eval_slot (hF 1 (by decide)), eval_slot (hF 2 (by decide)), eval_slot (hF 4 (by decide)), show a.eval (.const (.slice none 0 0)) = .slice none 0 0 from rfl]) e1) (nd_with A n c K i (i + 1) none 0 0 [] wx ((Nds.below SK.out hG.below)) (nds_none _) HI.out HI1.out HNB.out (by omega)) ?_ hG.below (Nat.le_trans BB.out.size hG.new)
      rintro e w1 ⟨u, rfl, hown, hb1⟩
      rw [HXK.out] at hown
      exact ⟨u, rfl, hb1, .inr (.inl ⟨_, u.ownBlock, rfl, fun b e => hown.lt b e, row_base hown hG.new, rfl⟩)⟩
    · exact rol_val rfl rfl rfl (by rw [hz]; decide) (ex_field rfl (eval_slot ((hG.slots 2 (by decide)).trans rfl)) (by go_simp)) hG.below
    · exact rol_val rfl rfl rfl (by rw [hz]; decide) (ex_load rfl (eval_slot (hF 6 (by decide))) (ld_sts (row2 (hF 15 (by decide)).1).2.1)) hG.below
    · exact rol_val rfl rfl rfl (by rw [hz]; decide) (ex_move (Or.inl rfl) (eval_slot ((hG.slots 6 (by decide)).trans rfl))) hG.below
    · exact rol_val rfl rfl rfl (by rw [hz]; decide) (ex_move (Or.inl rfl) (eval_slot ((hG.slots 6 (by decide)).trans rfl))) hG.below
    · exact rol_val rfl rfl rfl (by rw [hz]; decide) (ex_bin rfl (eval_slot (hF 9 (by decide))) rfl (by go_simp) (bin_add1 HIB.out)) hG.below
    · refine rol_calls rfl rfl rfl (by rw [hz]; decide) (ex_call rfl (by simp [eval_slot (hF 7 (by decide)), eval_slot (hF 8 (by decide)), eval_slot (hF 10 (by decide)), show a.eval (.const (.slice none 0 0)) = .slice none 0 0 from rfl]) e2) (st_with B m d T i (i + 1) none 0 0 [] wx ((Strs.belowB ST.out hG.below)) (strs_none _) HIM.out HI1M.out HMB.out (by omega)) ?_ hG.below (Nat.le_trans BB.out.size hG.new)
      rintro e w1 ⟨u, rfl, hown, hb1⟩
      rw [HXT.out] at hown
      exact ⟨u, rfl, hb1, .inr (.inl ⟨_, u.ownBlock, rfl, fun b e => hown.lt b e, row_base hown hG.new, rfl⟩)⟩
    · exact rol_agg rfl rfl rfl (by rw [hz]; decide) rfl rfl rfl (hF 5 (by decide)) (hF 11 (by decide)) hG.below
    · exact rol_box rfl rfl rfl rfl (eval_slot ((hG.slots 4 (by decide)).trans rfl)) (hF 12 (by decide)) (hF 16 (by decide)) hG.below HGL.out
    · exact rol_val rfl rfl rfl (by rw [hz]; decide) (ex_move (Or.inr rfl) rfl) hG.below
  · intro a wx who hG hF
    obtain ⟨v39, bs39, fv39, fo39, fp39⟩ := hF 12 (of_decide_eq_true (by kernel_rfl)) (of_decide_eq_true (by kernel_rfl))
    replace fv39 : a.tmps.getD 39 undef = v39 := eval_slot (s := 39) fv39
    have fv5 : a.tmps.getD 5 undef = .int .i64 0 := eval_slot (s := 5) (hF 14 (of_decide_eq_true (by kernel_rfl)) (of_decide_eq_true (by kernel_rfl)))
    have hbox := hF 13 (of_decide_eq_true (by kernel_rfl)) (of_decide_eq_true (by kernel_rfl))
    obtain ⟨p11, ob11, hp11, -, -, x11, y11, hv11, hrow11⟩ := hbox
    have e11 : v39 = p11 := fv39.symm.trans (eval_slot hp11)
    subst e11
    clear hp11 ob11
    have hbx := hG.below
    have hnx := hG.new
    rw [hG.frame]
    simp only [List.foldl_cons, List.foldl_nil, List.setIfInBounds_toArray, List.set_cons_zero, List.set_cons_succ]
    generalize a.tmps.getD 27 undef = u27
    generalize a.tmps.getD 28 undef = u28
    generalize a.tmps.getD 29 undef = u29
    generalize a.tmps.getD 30 undef = u30
    generalize a.tmps.getD 31 undef = u31
    generalize a.tmps.getD 32 undef = u32
    generalize a.tmps.getD 33 undef = u33
    generalize a.tmps.getD 34 undef = u34
    generalize a.tmps.getD 35 undef = u35
    generalize a.tmps.getD 36 undef = u36
    generalize a.tmps.getD 37 undef = u37
    generalize a.tmps.getD 38 undef = u38
    rw [fv39]
    rw [fv5]
    clear hF hG fv39 fv5
    have hso := fp39.own
    obtain ⟨a1, c1, b1, d1, hv1, -, -⟩ := hso.forms
    rw [hv11] at hv1
    injection hv1 with hv1
    injection hv1 with hv1
    injection hv1 with hv1 hv2
    injection hv2 with hv2
    subst hv1 hv2 hv11
    have HSO := Lib.hid (hso.base BB.out.size)
    have HROW := Lib.hid hrow11
    clear fp39 fo39 hso hrow11
    go_wp2
    try simp only [Exit.inBlock, Exit.then]
    refine bodyPost_ret (v := .tuple #[.agg #[.slice a1 XK.length c1, .slice b1 XT.length d1], .int .i64 0]) (results_ct (fn := Try.f12) (q := 4) (r := 5) (ty := 25) rfl _ _ gr 25 #[.slice a1 XK.length c1, .slice b1 XT.length d1] (0, 0) _ rfl HROW.out Try.underlying25 rfl Try.size_sto) rfl ?_
    exact ⟨_, rfl, HSO.out, hbx⟩
theorem sdrop_any (A B : Option Addr) (n c m d : Nat) (K : List Nd) (T : List (List UInt8)) (p v : List UInt8) (w : World) (hk : Nds w (.slice A n c) K) (ht : Strs w (.slice B m d) T) (hs : ∀ n ∈ K, smallN n) (hn : smallN (p, v)) (hl : n ≤ 600000) (hm : m ≤ 600000) :
    Calls Try.prog 12 #[.agg #[.slice A n c, .slice B m d], .agg #[.string (mkB p), .string (mkB v)]] w fun e w' => ∃ u, e = .returned (.tuple #[u, .int .i64 (dropE K T (p, v)).2.2]) ∧ StoO w' w.heap.size u (dropE K T (p, v)).1 (dropE K T (p, v)).2.1 ∧ Below w.heap.size w w' := by
  cases hx : (okS K T && okN (p, v))
  · exact sdrop_no A B n c m d K T p v w hk ht hs hn hl hm hx
  · rw [Bool.and_eq_true] at hx
    cases hf : hasN K (p, v)
    · exact sdrop_out A B n c m d K T p v w hk ht hs hn hl hm hx.1 hx.2 hf
    · exact sdrop_in A B n c m d K T p v w hk ht hs hn hl hm hx.1 hx.2 hf
end Go.Proofs.Ytceefoiffkgliaa

namespace Go.Proofs.Ytceefoiffkgliaa
open Go.RowKit Go.ChangeShapes Go.WideShapes
set_option linter.unusedVariables false
set_option maxRecDepth 100000

section
variable {H : Type} {enc : TypeId × Value → H} {w : World} {base : Nat} {spare : Nat → Bool} {held : Bool}
/-- A store, as it comes in. -/
structure StoIn (w : World) (v : Value) (K : List Nd) (T : List (List UInt8)) : Prop where
  ex : ∃ a n c b m d, v = .agg #[.slice a n c, .slice b m d] ∧ Nds w (.slice a n c) K ∧ Strs w (.slice b m d) T
  fk : ∀ n ∈ K, fitsN n
  ft : ∀ l ∈ T, l.length ≤ maxLen
theorem sto_cells {fuel : Nat} {v0 v1 : Value} {x : DataW H × List MemPlace} (h : DataW.trod enc Try.prog w base spare held fuel 25 [v0, v1] = some x) : ∃ K T, StoIn w (.agg #[v0, v1]) K T := by
  obtain ⟨y0, y1, n, -, -, t0, t1⟩ := trod_struct2 Try.underlying25 h
  have hc0 : Try.prog.cellsOf 22 = 1 := by kernel_rfl
  have hc1 : Try.prog.cellsOf 23 = 1 := by kernel_rfl
  have u0 : DataW.trod enc Try.prog w base spare held n 22 [v0] = some y0 := by simpa [hc0] using t0
  have u1 : DataW.trod enc Try.prog w base spare held n 23 [v1] = some y1 := by simpa [hc1] using t1
  have f0 : ∃ a len cap, v0 = .slice a len cap := by
    rcases Go.Deep.open_slice_pairs Try.underlying22 Try.underlying27 (by kernel_rfl) rfl rfl (by kernel_rfl) (by kernel_rfl) u0 with ⟨hcs, _⟩ | ⟨ad, l, c, m, n, V0, V1, D0, D1, P0, P1, hcs, _⟩
    · simp only [List.cons.injEq, and_true] at hcs; exact ⟨_, _, _, hcs⟩
    · simp only [List.cons.injEq, and_true] at hcs; exact ⟨_, _, _, hcs⟩
  have f1 : ∃ a len cap, v1 = .slice a len cap := by
    rcases Go.Deep.open_strs Try.underlying23 Try.underlying9 (by kernel_rfl) u1 with ⟨hcs, _⟩ | ⟨ad, l, c, m, Sx, hcs, _⟩
    · simp only [List.cons.injEq, and_true] at hcs; exact ⟨_, _, _, hcs⟩
    · simp only [List.cons.injEq, and_true] at hcs; exact ⟨_, _, _, hcs⟩
  obtain ⟨a, len, cap, rfl⟩ := f0
  obtain ⟨b, len', cap', rfl⟩ := f1
  obtain ⟨K, hK, fK⟩ := nds_open u0
  obtain ⟨T, hT, fT⟩ := strs_open u1
  exact ⟨K, T, ⟨a, len, cap, b, len', cap', rfl, hK, hT⟩, fK, fT⟩
theorem node_cells {fuel : Nat} {v0 v1 : Value} {x : DataW H × List MemPlace} (h : DataW.trod enc Try.prog w base spare held fuel 27 [v0, v1] = some x) : ∃ n : Nd, v0 = .string (mkB n.1) ∧ v1 = .string (mkB n.2) ∧ fitsN n := by
  obtain ⟨y0, y1, n, -, -, t0, t1⟩ := trod_struct2 Try.underlying27 h
  have hc : Try.prog.cellsOf 9 = 1 := by kernel_rfl
  have u0 : DataW.trod enc Try.prog w base spare held n 9 [v0] = some y0 := by simpa [hc] using t0
  have u1 : DataW.trod enc Try.prog w base spare held n 9 [v1] = some y1 := by simpa [hc] using t1
  obtain ⟨s0, e0, _, z0⟩ := DataW.trod_string Try.underlying9 u0
  obtain ⟨s1, e1, _, z1⟩ := DataW.trod_string Try.underlying9 u1
  simp only [List.cons.injEq, and_true] at e0 e1
  subst e0 e1
  rw [Lib.size_eq] at z0 z1
  exact ⟨(s0.data.toList, s1.data.toList), by simp only [mkB, Lib.mk_data], by simp only [mkB, Lib.mk_data], z0, z1⟩
theorem sto_open {r : Reach} {b0 : Nat} {v : Value} {d : DataW H} {p : List MemPlace} (hv : Value.okWide Try.prog w r b0 25 v) (h : DataW.Trod enc Try.prog w base spare held 25 v d p) :
    ∃ x : List Nd × List (List UInt8), StoIn w v x.1 x.2 := by
  obtain ⟨cs, rfl, hsz⟩ := okWide_struct Try.underlying25 hv
  have hC : Try.prog.cellsOf 25 = 2 := by kernel_rfl
  obtain ⟨c0, c1, rfl⟩ := Go.Joins.array2 (hsz.trans hC)
  obtain ⟨fuel, hf⟩ := h
  obtain ⟨K, T, h1⟩ := sto_cells hf
  exact ⟨(K, T), h1⟩
/-- What is asked of a store: the store, two nodes, a text. -/
theorem ask_open {r : Reach} {b0 : Nat} {v : Value} {d : DataW H} {p : List MemPlace} (hv : Value.okWide Try.prog w r b0 46 v) (h : DataW.Trod enc Try.prog w base spare held 46 v d p) :
    ∃ x : (List Nd × List (List UInt8)) × Nd × Nd × List UInt8, ∃ s t, v = .agg #[s, t, .string (mkB x.2.1.1), .string (mkB x.2.1.2), .string (mkB x.2.2.1.1), .string (mkB x.2.2.1.2), .string (mkB x.2.2.2)] ∧ StoIn w (.agg #[s, t]) x.1.1 x.1.2 ∧ fitsN x.2.1 ∧ fitsN x.2.2.1 ∧ x.2.2.2.length ≤ maxLen := by
  obtain ⟨cs, rfl, hsz⟩ := okWide_struct Try.underlying46 hv
  have hC : Try.prog.cellsOf 46 = 7 := by kernel_rfl
  obtain ⟨c0, c1, c2, c3, c4, c5, c6, rfl⟩ : ∃ c0 c1 c2 c3 c4 c5 c6, cs = #[c0, c1, c2, c3, c4, c5, c6] := by
    obtain ⟨l⟩ := cs
    match l, hsz.trans hC with
    | [c0, c1, c2, c3, c4, c5, c6], _ => exact ⟨c0, c1, c2, c3, c4, c5, c6, rfl⟩
  obtain ⟨fuel, hf⟩ := h
  obtain ⟨y0, y1, y2, y3, n, -, -, t0, t1, t2, t3⟩ := Go.Joins.trod_struct4 Try.underlying46 hf
  have hc0 : Try.prog.cellsOf 25 = 2 := by kernel_rfl
  have hc1 : Try.prog.cellsOf 27 = 2 := by kernel_rfl
  have hc2 : Try.prog.cellsOf 9 = 1 := by kernel_rfl
  have u0 : DataW.trod enc Try.prog w base spare held n 25 [c0, c1] = some y0 := by simpa [Value.cells, hc0] using t0
  have u1 : DataW.trod enc Try.prog w base spare held n 27 [c2, c3] = some y1 := by simpa [Value.cells, hc1] using t1
  have u2 : DataW.trod enc Try.prog w base spare held n 27 [c4, c5] = some y2 := by simpa [Value.cells, hc1] using t2
  have u3 : DataW.trod enc Try.prog w base spare held n 9 [c6] = some y3 := by simpa [Value.cells, hc2] using t3
  obtain ⟨K, T, h0⟩ := sto_cells u0
  obtain ⟨n1, rfl, rfl, f1⟩ := node_cells u1
  obtain ⟨n2, rfl, rfl, f2⟩ := node_cells u2
  obtain ⟨s3, e3, _, z3⟩ := DataW.trod_string Try.underlying9 u3
  simp only [List.cons.injEq, and_true] at e3
  subst e3
  rw [Lib.size_eq] at z3
  exact ⟨((K, T), n1, n2, s3.data.toList), c0, c1, by simp only [mkB, Lib.mk_data], h0, f1, f2, z3⟩
end

theorem StoO.parts {w : World} {N : Nat} {x y : Value} {K : List Nd} {T : List (List UInt8)} (h : StoO w N (.agg #[x, y]) K T) : Nds w x K ∧ Strs w y T := by
  obtain ⟨x', y', hv, h1, h2⟩ := h
  injection hv with hv
  injection hv with hv
  injection hv with e1 hv
  injection hv with e2 _
  subst e1 e2
  exact ⟨Nds.owned h1, Strs.owned h2⟩

theorem cell_off {w : World} {g i b j : Nat} (y : Value) (h : b ≠ g) : (w.setCell ⟨g, i, none⟩ y).cell? ⟨b, j, none⟩ = w.cell? ⟨b, j, none⟩ := by
  have := Below.heap_setCell w ⟨g, i, none⟩ y b h
  unfold World.cell?
  rw [this]
/-! ### The chapter's examples -/
abbrev exN : Nd := ([97], [118, 49, 46, 48, 46, 48])
theorem exN_small : smallN ([97], [118, 49, 46, 48, 46, 48]) := ⟨by simp, by simp⟩
theorem one_smallS : ∀ n ∈ [(([97], [118, 49, 46, 48, 46, 48]) : Nd)], smallN n := fun n h => by
  rw [List.mem_singleton] at h; rw [h]; exact exN_small
theorem exS1 : putE [] [] ([97], [118, 49, 46, 48, 46, 48]) [120] = ([([97], [118, 49, 46, 48, 46, 48])], [[120]], 0) := by decide +kernel
theorem exS2 : putE [([97], [118, 49, 46, 48, 46, 48])] [[120]] ([97], [118, 49, 46, 48, 46, 48]) [121] = ([([97], [118, 49, 46, 48, 46, 48])], [[121]], 0) := by decide +kernel
theorem exS3 : getE [([97], [118, 49, 46, 48, 46, 48])] [[121]] ([97], [118, 49, 46, 48, 46, 48]) = ([121], 0) := by decide +kernel
theorem exS4 : dropE [([97], [118, 49, 46, 48, 46, 48])] [[121]] ([97], [118, 49, 46, 48, 46, 48]) = ([], [], 0) := by decide +kernel
theorem exS5 : dropE [] [] ([97], [118, 49, 46, 48, 46, 48]) = ([], [], 2) := by decide +kernel

set_option maxHeartbeats 3200000 in
theorem sawake_any (w : World) : Calls Try.prog 18 #[] w fun e w' => e = .returned (.bool true) ∧ Below w.heap.size w w' := by
  have BB := Lib.hid (Below.refl w.heap.size w)
  have h1 := fun w => sput_any none none 0 0 0 0 [] [] [97] [118, 49, 46, 48, 46, 48] [120] w (nds_none w) (strs_none w) (fun n hn => by cases hn) exN_small (by decide) (by decide)
  have h2 := fun A B c d w hk ht => sput_any A B 1 c 1 d [([97], [118, 49, 46, 48, 46, 48])] [[120]] [97] [118, 49, 46, 48, 46, 48] [121] w hk ht one_smallS exN_small (by decide) (by decide)
  have h3 := fun A B c d w hk ht => sget_any A B 1 c 1 d [([97], [118, 49, 46, 48, 46, 48])] [[121]] [97] [118, 49, 46, 48, 46, 48] w hk ht one_smallS exN_small (by decide)
  have h4 := fun A B c d w hk ht => sdrop_any A B 1 c 1 d [([97], [118, 49, 46, 48, 46, 48])] [[121]] [97] [118, 49, 46, 48, 46, 48] w hk ht one_smallS exN_small (by decide) (by decide)
  have h5 := fun A B c d w hk ht => sdrop_any A B 0 c 0 d [] [] [97] [118, 49, 46, 48, 46, 48] w hk ht (fun n hn => by cases hn) exN_small (by decide) (by decide)
  rw [exS1] at h1
  rw [exS2] at h2
  rw [exS3] at h3
  rw [exS4] at h4
  rw [exS5] at h5
  simp only at h1 h2 h3 h4 h5
  go_enter Try.func18, Try.ntmps18
  go_upto_region 2 with fail
  obtain ⟨W1, g1, hW1, hg1, -, c0, c1, hb1⟩ := boxS w (.string (mkB [97])) (.string (mkB [118, 49, 46, 48, 46, 48])) 27
  change Code.wp _ _ _ _ (w.alloc (.cells #[.string (mkB [97]), .string (mkB [118, 49, 46, 48, 46, 48])] 27))
  rw [hW1, hg1]
  replace BB := Lib.hid hb1
  have HGW1 := Lib.hid (World.block_lt_of_cell? W1 _ c0)
  clear hW1 hg1 hb1
  go_upto_region 3 with (go_at_call 11; refine (h1 _).mono ?_; rintro e w2 ⟨u2, rfl, hso, hb2⟩; obtain ⟨a1, e1, b1, d1', rfl, hn1, ht1⟩ := hso.forms; simp only [List.length_singleton] at hn1 ht1 ⊢; have HG1 := Lib.hid (Nat.lt_of_lt_of_le HGW1.out hb2.size); have HLE2 := Lib.hid ((below_step BB.out hb2).size); replace c0 := cell_keep c0 hb2; replace c1 := cell_keep c1 hb2; replace BB := Lib.hid (below_step BB.out hb2); have SK := Lib.hid hn1; have ST := Lib.hid ht1; clear hb2 h1 hso hn1 ht1)
  obtain ⟨W3, g3, hW3, hg3, hr3, d0, d1, hb3⟩ := boxS w2 (.slice a1 1 e1) (.slice b1 1 d1') 25
  rw [hW3, hg3]
  rw [hg3] at HG1
  have HR3 := Lib.hid hr3; have HG3 := Lib.hid (show g3 < W3.heap.size from (Array.getElem?_eq_some_iff.1 hr3).1)
  replace c0 := cell_keep c0 hb3; replace c1 := cell_keep c1 hb3; replace BB := Lib.hid (below_step BB.out hb3); replace SK := Lib.hid (SK.out.below hb3); replace ST := Lib.hid (ST.out.belowB hb3)
  have HW2 := Lib.hid (show w.heap.size ≤ g3 by rw [← hg3]; exact HLE2.out)
  clear hW3 hg3 hr3 hb3
  go_upto_region 4 with (go_at_call 11; refine (h2 _ _ _ _ _ SK.out ST.out).mono ?_; rintro e w4 ⟨u4, rfl, hso, hb4⟩; obtain ⟨a2, e2, b2, d2, rfl, -, -⟩ := hso.forms; simp only [List.length_singleton] at hso ⊢; replace c0 := cell_keep c0 hb4; replace c1 := cell_keep c1 hb4; have HSO := Lib.hid hso; have HR4 := Lib.hid (row_keepB HR3.out hb4); obtain ⟨q0, q1, qf0, qf1⟩ := row2 HR4.out; replace BB := Lib.hid (below_step BB.out hb4); clear hb4 h2 hso d0 d1)
  obtain ⟨w5, hw5⟩ : ∃ w5, (w4.setCell ⟨g3, 0, none⟩ (.slice a2 1 e2)).setCell ⟨g3, 1, none⟩ (.slice b2 1 d2) = w5 := ⟨_, rfl⟩
  have hr5 := row2_set HR4.out (.slice a2 1 e2) (.slice b2 1 d2)
  have hs5 := ((HSO.out.far (g := g3) (i := 0) HG3.out (.slice a2 1 e2)).far (g := g3) (i := 1) HG3.out (.slice b2 1 d2)).parts
  have hb5 : Below w.heap.size w ((w4.setCell ⟨g3, 0, none⟩ (.slice a2 1 e2)).setCell ⟨g3, 1, none⟩ (.slice b2 1 d2)) := (BB.out.setCell HW2.out _).setCell HW2.out _
  have hc0 : ((w4.setCell ⟨g3, 0, none⟩ (.slice a2 1 e2)).setCell ⟨g3, 1, none⟩ (.slice b2 1 d2)).cell? ⟨g1, 0, none⟩ = some (.string (mkB [97])) := by rw [cell_off _ (Nat.ne_of_lt HG1.out), cell_off _ (Nat.ne_of_lt HG1.out)]; exact c0
  have hc1 : ((w4.setCell ⟨g3, 0, none⟩ (.slice a2 1 e2)).setCell ⟨g3, 1, none⟩ (.slice b2 1 d2)).cell? ⟨g1, 1, none⟩ = some (.string (mkB [118, 49, 46, 48, 46, 48])) := by rw [cell_off _ (Nat.ne_of_lt HG1.out), cell_off _ (Nat.ne_of_lt HG1.out)]; exact c1
  rw [hw5] at hr5 hs5 hb5 hc0 hc1 ⊢
  obtain ⟨d0, d1, -, -⟩ := row2 hr5
  replace SK := Lib.hid hs5.1; replace ST := Lib.hid hs5.2; replace BB := Lib.hid hb5
  clear hw5 hr5 hs5 hb5 q0 q1 qf0 qf1 HSO HR3 HR4 c0 c1
  go_upto_region 6 with (first
    | (go_at_call 10; refine (h3 _ _ _ _ _ SK.out ST.out).mono ?_; rintro e w6 ⟨rfl, hb6⟩; replace hc0 := cell_keep hc0 hb6; replace hc1 := cell_keep hc1 hb6; replace d0 := cell_keep d0 hb6; replace d1 := cell_keep d1 hb6; replace SK := Lib.hid (SK.out.below hb6); replace ST := Lib.hid (ST.out.belowB hb6); replace BB := Lib.hid (below_step BB.out hb6); clear hb6 h3)
    | (go_at_call 12; refine (h4 _ _ _ _ _ SK.out ST.out).mono ?_; rintro e w7 ⟨u7, rfl, hso, hb6⟩; obtain ⟨a3, e3, b3, d3, rfl, hn3, ht3⟩ := hso.forms; simp only [List.length_nil] at hn3 ht3 ⊢; replace hc0 := cell_keep hc0 hb6; replace hc1 := cell_keep hc1 hb6; replace BB := Lib.hid (below_step BB.out hb6); have SK7 := Lib.hid hn3; have ST7 := Lib.hid ht3; clear hb6 h4 hso hn3 ht3 d0 d1))
  obtain ⟨W8, g8, hW8, hg8, -, d0, d1, hb8⟩ := boxS w7 (.slice a3 0 e3) (.slice b3 0 d3) 25
  rw [hW8, hg8]
  replace hc0 := cell_keep hc0 hb8; replace hc1 := cell_keep hc1 hb8; replace BB := Lib.hid (below_step BB.out hb8); replace SK7 := Lib.hid (SK7.out.below hb8); replace ST7 := Lib.hid (ST7.out.belowB hb8)
  clear hW8 hg8 hb8
  go_upto_region 7 with (go_at_call 12; refine (h5 _ _ _ _ _ SK7.out ST7.out).mono ?_; rintro e w9 ⟨u9, rfl, hso, hb6⟩; obtain ⟨a4, e4, b4, d4, rfl, -, -⟩ := hso.forms; simp only [List.length_nil] at ⊢; replace d0 := cell_keep d0 hb6; replace d1 := cell_keep d1 hb6; replace BB := Lib.hid (below_step BB.out hb6); clear hb6 h5 hso)
  obtain ⟨W10, g10, hW10, hg10, -, -, -, hb10⟩ := boxS w9 (.slice a4 0 e4) (.slice b4 0 d4) 25
  rw [hW10, hg10]
  replace d0 := cell_keep d0 hb10; replace d1 := cell_keep d1 hb10; replace BB := Lib.hid (below_step BB.out hb10)
  clear hW10 hg10 hb10
  have hq : ((mkB [121]).toList == [121]) = true := by decide +kernel
  go_wp2
  go_ret
  exact ⟨rfl, BB.out⟩
end Go.Proofs.Ytceefoiffkgliaa

namespace Go.Proofs.Ytceefoiffkgliaa
open Go.RowKit
set_option linter.unusedVariables false
set_option maxRecDepth 100000

theorem mkB_all (a : ByteArray) : ∃ l, a = mkB l ∧ l.length = a.size := ⟨a.data.toList, by simp only [mkB, Lib.mk_data], by rw [Lib.size_eq]⟩
theorem st_node {w : World} {g : Nat} {q1 q2 : List UInt8} {x0 y0 : Value} {t : TypeId} (h : w.heap[g]? = some (.cells #[x0, y0] t (0, 0))) : Sem.run Try.prog (Instr.storeAt 27 (.pointer (some ⟨g, 0, none⟩)) (.agg #[.string (mkB q1), .string (mkB q2)])) w = .ok () ((w.setCell ⟨g, 0, none⟩ (.string (mkB q1))).setCell ⟨g, 1, none⟩ (.string (mkB q2))) := by
  obtain ⟨d0, d1, f0, f1⟩ := row2 h
  go_simp
section
variable {ops : Array Oper} {Q : Exit → Act → World → Prop} {a : Act} {w w0 : World} {who : Nat → Nat} {i B r ro : Nat} {o : Oper}
/-- A node is put into a box. -/
theorem rol_box_node (ho : ops[i]? = some o) (hw : Region.wanted o (yielded ops a.tmps) = true) (hd : o.dst = none) {x y : Operand} {g : Nat} (hop : o.op = .store 27 x y) (hx : a.eval x = .pointer (some ⟨g, 0, none⟩)) {q1 q2 : List UInt8} (hy : a.eval y = .agg #[.string (mkB q1), .string (mkB q2)])
    {x0 y0 : Value} {ty : TypeId} (hg : (RLeaf.box g (.cells #[x0, y0] ty)).holds r a w who) (hb : Below B w0 w) (hB : B ≤ g) : wpOp Try.prog ops Q i (RPost ops i r r (.box g (.cells #[.string (mkB q1), .string (mkB q2)] ty)) B w0 a w who) a w := by
  refine rol_store ho hw hd (ex_store hop hx hy (st_node hg.1)) hg (row2_set hg.1 _ _) (fun k hk => ?_) (by simp [World.setCell]) ((hb.setCell hB _).setCell hB _)
  rw [Below.heap_setCell _ ⟨g, 1, none⟩ _ k hk, Below.heap_setCell _ ⟨g, 0, none⟩ _ k hk]
end

theorem neq_self {w : World} (b : Bool) : Sem.run Try.prog (binOp .neq 4 (.bool b) (.bool b)) w = .ok (.bool false) w := by cases b <;> go_simp
theorem eql_str_self {w : World} (l : List UInt8) : Sem.run Try.prog (binOp .eql 9 (.string (mkB l)) (.string (mkB l))) w = .ok (.bool true) w := by
  have hq : ((mkB l).toList == (mkB l).toList) = true := by simp
  go_simp
theorem eql_chk {w : World} (K : List Nd) (T : List (List UInt8)) : Sem.run Try.prog (binOp .eql 30 (.int .i64 (chkS K T)) (.int .i64 0)) w = .ok (.bool (okS K T)) w := by
  unfold chkS
  cases okS K T
  · simp only [Bool.false_eq_true, if_false]; go_simp
  · simp only [if_true]; go_simp
theorem sameS_self (K : List Nd) (T : List (List UInt8)) : sameS K K T T = true := by unfold sameS; simp
theorem sameS_of {K K' : List Nd} {T T' : List (List UInt8)} (h : K = K') (h' : T = T') : sameS K K' T T' = true := by subst h h'; exact sameS_self _ _
/-! ### Boxes of two cells that the region makes, and fills -/
def cell2P (N : Nat) (t : TypeId) (x y : Value) : World → Value → Option Nat → Prop := fun w v ob => ∃ b, v = .pointer (some ⟨b, 0, none⟩) ∧ ob = some b ∧ N ≤ b ∧ w.heap[b]? = some (.cells #[x, y] t (0, 0))
theorem cell2P_near {N : Nat} {t : TypeId} {x y : Value} : ∀ (w w' : World) (v : Value) (ob : Option Nat), (∀ b, ob = some b → w'.heap[b]? = w.heap[b]?) → cell2P N t x y w v ob → cell2P N t x y w' v ob := by
  rintro w w' v ob hb ⟨b, rfl, rfl, hN, h⟩
  exact ⟨b, rfl, rfl, hN, (hb b rfl).trans h⟩
def tie2P (N : Nat) (t : TypeId) : World → Value → Value → Option Nat → Prop := fun w v u ob => ∃ b x y, v = .pointer (some ⟨b, 0, none⟩) ∧ ob = some b ∧ u = .agg #[x, y] ∧ N ≤ b ∧ w.heap[b]? = some (.cells #[x, y] t (0, 0))
theorem tie2P_near {N : Nat} {t : TypeId} : ∀ (w w' : World) (v u : Value) (ob : Option Nat), (∀ b, ob = some b → w'.heap[b]? = w.heap[b]?) → tie2P N t w v u ob → tie2P N t w' v u ob := by
  rintro w w' v u ob hb ⟨b, x, y, rfl, rfl, rfl, hN, h⟩
  exact ⟨b, x, y, rfl, rfl, rfl, hN, (hb b rfl).trans h⟩
theorem ex_alloc2 {P : Program} {a : Act} {w : World} {o : Oper} {t : TypeId} (hop : o.op = .alloc t) {v : Value} {w' : World} (hr : Sem.run P (Instr.alloc t true (.tuple #[])) w = .ok v w') : Sem.run P (execOp a.eval o) w = .ok (.value v) w' := by
  simp only [execOp, hop]
  simp [hr]
section
variable {ops : Array Oper} {Q : Exit → Act → World → Prop} {a : Act} {w w0 : World} {who : Nat → Nat} {i B r ro : Nat} {o : Oper}
theorem rol_alloc_sto (ho : ops[i]? = some o) (hw : Region.wanted o (yielded ops a.tmps) = true) {s : Nat} (hd : o.dst = some s) (hs : s < a.tmps.size) (hop : o.op = .alloc 25) {N : Nat} (hb : Below B w0 w) (hB : B ≤ N) (hN : N ≤ w.heap.size) :
    wpOp Try.prog ops Q i (RPost ops i r ro (.mem s (cell2P N 25 (.slice none 0 0) (.slice none 0 0))) B w0 a w who) a w :=
  rol_newO ho hw hd hs (x := .cells #[.slice none 0 0, .slice none 0 0] 25) (v := .pointer (some ⟨w.heap.size, 0, none⟩)) (ex_alloc2 hop (by go_simp)) ⟨w.heap.size, rfl, rfl, hN, heap_alloc_new _ _⟩ hb (Nat.le_trans hB hN)
theorem rol_alloc_node (ho : ops[i]? = some o) (hw : Region.wanted o (yielded ops a.tmps) = true) {s : Nat} (hd : o.dst = some s) (hs : s < a.tmps.size) (hop : o.op = .alloc 27) {N : Nat} (hb : Below B w0 w) (hB : B ≤ N) (hN : N ≤ w.heap.size) :
    wpOp Try.prog ops Q i (RPost ops i r ro (.mem s (cell2P N 27 (.string ⟨#[]⟩) (.string ⟨#[]⟩))) B w0 a w who) a w :=
  rol_newO ho hw hd hs (x := .cells #[.string ⟨#[]⟩, .string ⟨#[]⟩] 27) (v := .pointer (some ⟨w.heap.size, 0, none⟩)) (ex_alloc2 hop (by go_simp)) ⟨w.heap.size, rfl, rfl, hN, heap_alloc_new _ _⟩ hb (Nat.le_trans hB hN)
theorem rol_fill_node (ho : ops[i]? = some o) (hw : Region.wanted o (yielded ops a.tmps) = true) (hd : o.dst = none) {s : Nat} {y : Operand} (hop : o.op = .store 27 (.tmp s) y) {N : Nat} {x0 y0 : Value} {t : TypeId} (h : (RLeaf.mem s (cell2P N t x0 y0)).holds r a w who) {q1 q2 : List UInt8} (hy : a.eval y = .agg #[.string (mkB q1), .string (mkB q2)])
    (hb : Below B w0 w) (hB : B ≤ N) : wpOp Try.prog ops Q i (RPost ops i r r (.mem s (cell2P N t (.string (mkB q1)) (.string (mkB q2)))) B w0 a w who) a w := by
  obtain ⟨v, ob, hv, hob, b, rfl, rfl, hN, hh⟩ := h
  obtain ⟨hlt, hwho⟩ := hob b rfl
  refine rol_wp ho hw ?_
  have hr := ex_store (a := a) hop (eval_slot hv) hy (st_node (q1 := q1) (q2 := q2) hh)
  unfold Oper.wp
  rw [hr, Oper.upon_skip, hd]
  refine ⟨⟨undef, by rw [dst_of ho, hd]⟩, (hb.setCell (Nat.le_trans hB hN) _).setCell (Nat.le_trans hB hN) _, who, ⟨fun k _ hk2 => ?_, fun _ _ => rfl, by simp [World.setCell]⟩, _, some b, hv, fun k e => ?_, b, rfl, rfl, hN, row2_set hh _ _⟩
  · have hne : k ≠ b := fun e => hk2 (by rw [e]; exact hwho)
    rw [Below.heap_setCell _ ⟨b, 1, none⟩ _ k hne, Below.heap_setCell _ ⟨b, 0, none⟩ _ k hne]
  · cases e
    exact ⟨by simp [World.setCell]; exact hlt, hwho⟩
theorem rol_fill_sto (ho : ops[i]? = some o) (hw : Region.wanted o (yielded ops a.tmps) = true) (hd : o.dst = none) {s t : Nat} (hop : o.op = .store 25 (.tmp s) (.tmp t)) {N : Nat} {x0 y0 : Value} {ty : TypeId} (h : (RLeaf.mem s (cell2P N ty x0 y0)).holds r a w who) {N2 : Nat} {K : List Nd} {T : List (List UInt8)} {r2 : Nat} (h2 : (RLeaf.mems t (stoG N2 K T)).holds r2 a w who)
    (hb : Below B w0 w) (hB : B ≤ N) : wpOp Try.prog ops Q i (RPost ops i r r (.mem2 s t (tie2P N ty)) B w0 a w who) a w := by
  obtain ⟨v, ob, hv, hob, b, rfl, rfl, hN, hh⟩ := h
  obtain ⟨u, bs, hu, -, hp⟩ := h2
  obtain ⟨A, c, A', d, rfl, -, -⟩ := hp.own.forms
  obtain ⟨hlt, hwho⟩ := hob b rfl
  refine rol_wp ho hw ?_
  have hr := ex_store (a := a) hop (eval_slot hv) (eval_slot hu) (store_sto hh)
  unfold Oper.wp
  rw [hr, Oper.upon_skip, hd]
  refine ⟨⟨undef, by rw [dst_of ho, hd]⟩, (hb.setCell (Nat.le_trans hB hN) _).setCell (Nat.le_trans hB hN) _, who, ⟨fun k _ hk2 => ?_, fun _ _ => rfl, by simp [World.setCell]⟩, _, _, some b, hv, hu, fun k e => ?_, b, _, _, rfl, rfl, rfl, hN, row2_set hh _ _⟩
  · have hne : k ≠ b := fun e => hk2 (by rw [e]; exact hwho)
    rw [Below.heap_setCell _ ⟨b, 1, none⟩ _ k hne, Below.heap_setCell _ ⟨b, 0, none⟩ _ k hne]
  · cases e
    exact ⟨by simp [World.setCell]; exact hlt, hwho⟩
end
/-! ### Plain facts -/
theorem gets_other {S : Sto} {q o : Nd} {t : Txt} (h : okP S = true) (hq : okN q = true) (hne : o ≠ q) : getE ((putP S q t).map Prod.fst) ((putP S q t).map Prod.snd) o = getE (S.map Prod.fst) (S.map Prod.snd) o ∧ getE ((dropP (putP S q t) q).map Prod.fst) ((dropP (putP S q t) q).map Prod.snd) o = getE (S.map Prod.fst) (S.map Prod.snd) o := by
  cases ho : okN o
  · rw [getE_no (by rw [ho, Bool.and_false]), getE_no (by rw [ho, Bool.and_false]), getE_no (by rw [ho, Bool.and_false])]; exact ⟨rfl, rfl⟩
  · have h1 := put_ok (t := t) h hq
    have h2 := drop_ok (n := q) h1
    have e1 := put_other' (t := t) h hq hne
    have e2 := drop_other (n := q) h1 hne
    rw [getE_yes h1 ho, getE_yes h2 ho, getE_yes h ho, e2.1, e2.2, e1.1, e1.2]; exact ⟨rfl, rfl⟩

theorem get_at {S : Sto} (h : okP S = true) {i : Nat} (hi : i < S.length) : getE (S.map Prod.fst) (S.map Prod.snd) ((S.map Prod.fst).getD i ([], [])) = ((S.map Prod.snd).getD i [], 0) := by
  have e1 : (S.map Prod.fst).getD i ([], []) = (S[i]).1 := by simp [List.getD_eq_getElem?_getD, hi]
  have e2 : (S.map Prod.snd).getD i [] = (S[i]).2 := by simp [List.getD_eq_getElem?_getD, hi]
  have hm : ((S[i]).1, (S[i]).2) ∈ S := List.getElem_mem hi
  rw [e1, e2, getE_yes h (okP_ok h _ (List.getElem_mem hi)), if_pos (hasP_iff.2 ⟨_, hm⟩), getP_mem (okP_rise h) hm]
theorem get_place {K : List Nd} {T : List (List UInt8)} {x : Nd} {k : Nat} (h : okS K T = true) (hk : k < K.length) (e : K.getD k ([], []) = x) : getE K T x = (T.getD k [], 0) ∧ hasN K x = true ∧ k < T.length := by
  obtain ⟨z1, z2, z3⟩ := okS_zip h
  have hl : (K.zip T).length = K.length := by
    have := congrArg List.length z1
    rwa [List.length_map] at this
  have hl2 : (K.zip T).length = T.length := by
    have := congrArg List.length z2
    rwa [List.length_map] at this
  have := get_at z3 (i := k) (by omega)
  rw [z1, z2, e] at this
  exact ⟨this, hasN_iff.2 (by rw [← e]; exact nd_mem hk), by omega⟩

theorem put_smallN {S : Sto} {n : Nd} {t : Txt} (hs : ∀ x ∈ S.map Prod.fst, smallN x) (hn : smallN n) : ∀ x ∈ (putP S n t).map Prod.fst, smallN x := fun x hx => by
  obtain ⟨y, hy, rfl⟩ := List.mem_map.1 hx
  unfold putP at hy
  simp only [List.mem_append, List.mem_filter, List.mem_cons] at hy
  rcases hy with ⟨h, _⟩ | rfl | ⟨h, _⟩
  · exact hs _ (List.mem_map_of_mem h)
  · exact hn
  · exact hs _ (List.mem_map_of_mem h)
theorem drop_smallN {S : Sto} {n : Nd} (hs : ∀ x ∈ S.map Prod.fst, smallN x) : ∀ x ∈ (dropP S n).map Prod.fst, smallN x := fun x hx => by
  obtain ⟨y, hy, rfl⟩ := List.mem_map.1 hx
  exact hs _ (List.mem_map_of_mem ((drop_mem y).1 hy).1)
theorem putE_small {K : List Nd} {T : List (List UInt8)} {n : Nd} {t : List UInt8} (hs : ∀ x ∈ K, smallN x) (hn : smallN n) : ∀ x ∈ (putE K T n t).1, smallN x := by
  unfold putE
  split
  · rename_i h
    rw [Bool.and_eq_true] at h
    exact put_smallN (by rw [(okS_zip h.1).1]; exact hs) hn
  · exact hs
theorem dropE_small {K : List Nd} {T : List (List UInt8)} {n : Nd} (hs : ∀ x ∈ K, smallN x) : ∀ x ∈ (dropE K T n).1, smallN x := by
  unfold dropE
  split
  · rename_i h
    rw [Bool.and_eq_true] at h
    split
    · exact drop_smallN (by rw [(okS_zip h.1).1]; exact hs)
    · exact hs
  · exact hs
theorem zip_len {K : List Nd} {T : List (List UInt8)} : (K.zip T).length ≤ K.length := by rw [List.length_zip]; omega
theorem putE_len {K : List Nd} {T : List (List UInt8)} {n : Nd} {t : List UInt8} {m : Nat} (hk : K.length ≤ m) (ht : T.length ≤ m) : (putE K T n t).1.length ≤ m + 1 ∧ (putE K T n t).2.1.length ≤ m + 1 := by
  unfold putE
  split
  · rename_i h
    rw [Bool.and_eq_true] at h
    have h1 := put_len_le (K.zip T) n t (okS_zip h.1).2.2 h.2
    have h2 := zip_len (K := K) (T := T)
    simp only [List.length_map]
    omega
  · exact ⟨Nat.le_succ_of_le hk, Nat.le_succ_of_le ht⟩
theorem dropE_len {K : List Nd} {T : List (List UInt8)} {n : Nd} {m : Nat} (hk : K.length ≤ m) (ht : T.length ≤ m) : (dropE K T n).1.length ≤ m ∧ (dropE K T n).2.1.length ≤ m := by
  unfold dropE
  split
  · split
    · have h1 := drop_len_le (K.zip T) n
      have h2 := zip_len (K := K) (T := T)
      simp only [List.length_map]
      omega
    · exact ⟨hk, ht⟩
  · exact ⟨hk, ht⟩
theorem oneN_smallQ (n : Nd) : smallN (fewL n.1, fewL n.2) := oneN_small n
end Go.Proofs.Ytceefoiffkgliaa
