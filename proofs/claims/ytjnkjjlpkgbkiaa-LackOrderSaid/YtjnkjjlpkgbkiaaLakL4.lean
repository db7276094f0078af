/- Of every two lists of nodes and every needs (no more, and no longer, than are looked at): in whatever order needs are told, and however often, what is told is the same; a need more adds just the one who needs; no condition. -/
import Derived.Test.YtjnkjjlpkgbkiaaRows
import Derived.Test.YtjnkjjlpkgbkiaaLakI
import Derived.Test.YtjnkjjlpkgbkiaaLakT
import Derived.ProofKit
import Derived.OpenShut
import Derived.ShutString
import Derived.ChangeOld
namespace Go.Proofs.Ytjnkjjlpkgbkiaa.lackOrder
open Go.ChangeShapes Go.WideShapes Go.ChangeAt Go.RowKit
open Go.ChangeMaps (open_string shut_string)
set_option maxRecDepth 100000
set_option linter.unusedVariables false

theorem decNds (l : List Nd) : decide (l = l) = true := decide_eq_true rfl
theorem decLks (l : List Lk) : decide (l = l) = true := decide_eq_true rfl
theorem fewNs_text (l : List Nd) : ∀ n ∈ fewNs l, n.1.length ≤ 400 ∧ n.2.length ≤ 400 := fun n h => by
  obtain ⟨m, _, rfl⟩ := List.mem_map.1 h; exact ⟨fewL_len _, fewL_len _⟩
set_option maxRecDepth 100000 in
set_option maxHeartbeats 3200000 in
theorem walk (Ua : Value) (ka : List Nd) (Ub : Value) (kb : List Nd) (D : Value) (d0 : List Ne) (w : World) (hUa : Nds w Ua ka ∧ ∀ n ∈ ka, fitsN n) (hUb : Nds w Ub kb ∧ ∀ n ∈ kb, fitsN n) (hD : Nes w D d0 ∧ ∀ e ∈ d0, fitNe e) :
    Calls Try.prog 3 #[Ua, Ub, D] w fun e w' => e = .returned (.bool true) ∧ Below w.heap.size w w' := by
  obtain ⟨hUa, fUa⟩ := hUa
  obtain ⟨Aa, ca, rfl, -⟩ := hUa.ex
  have kfa := fun V w h => nfewo_any V ka w h fUa
  have hmla := fewNs_len ka; have hmza := fewNs_small ka; have hmta := fewNs_text ka
  obtain ⟨ma, hma⟩ : ∃ r, ka.length = r := ⟨_, rfl⟩
  rw [hma] at hUa ⊢
  obtain ⟨sa, hsa⟩ : ∃ r, fewNs ka = r := ⟨_, rfl⟩
  rw [hsa] at kfa hmla hmza hmta
  obtain ⟨na, hna⟩ : ∃ r, sa.length = r := ⟨_, rfl⟩
  rw [hna] at hmla
  have SUa := Lib.hid hUa; have KFa := Lib.hid kfa; have HZA := Lib.hid hmza; have HNA := Lib.hid hna; have HTA := Lib.hid hmta
  clear hUa fUa kfa hmza hmta hma hsa hna
  obtain ⟨hUb, fUb⟩ := hUb
  obtain ⟨Ab, cb, rfl, -⟩ := hUb.ex
  have kfb := fun V w h => nfewo_any V kb w h fUb
  have hmlb := fewNs_len kb; have hmzb := fewNs_small kb; have hmtb := fewNs_text kb
  obtain ⟨mb, hmb⟩ : ∃ r, kb.length = r := ⟨_, rfl⟩
  rw [hmb] at hUb ⊢
  obtain ⟨sb, hsb⟩ : ∃ r, fewNs kb = r := ⟨_, rfl⟩
  rw [hsb] at kfb hmlb hmzb hmtb
  obtain ⟨nb, hnb⟩ : ∃ r, sb.length = r := ⟨_, rfl⟩
  rw [hnb] at hmlb
  have SUb := Lib.hid hUb; have KFb := Lib.hid kfb; have HZB := Lib.hid hmzb; have HNB := Lib.hid hnb; have HTB := Lib.hid hmtb
  clear hUb fUb kfb hmzb hmtb hmb hsb hnb
  obtain ⟨hD, fD⟩ := hD
  obtain ⟨AD, cD, rfl, -⟩ := hD.ex
  have kfD := fun V w h => lfew_any V d0 w h fD
  have hid := fewK_idem d0
  have hml := fewK_len d0; have hmz := fewK_small d0
  obtain ⟨mD, hmD⟩ : ∃ r, d0.length = r := ⟨_, rfl⟩
  rw [hmD] at hD ⊢
  obtain ⟨d, hd⟩ : ∃ r, fewK d0 = r := ⟨_, rfl⟩
  rw [hd] at kfD hml hmz hid
  obtain ⟨nd, hnd⟩ : ∃ r, d.length = r := ⟨_, rfl⟩
  rw [hnd] at hml kfD
  have hsz : ∀ x ∈ d, smallNe x := hmz
  have HID := Lib.hid hid; have SUD := Lib.hid hD; have KFD := Lib.hid kfD; have HZD := Lib.hid hsz; have HND := Lib.hid hnd
  clear hid hD fD kfD hmz hsz hmD hd hnd
  have BB := Lib.hid (Below.refl w.heap.size w)
  have hd2l : (dupK d).length = nd * 2 := by rw [dupK_len, HND.out]
  have hd2s : ∀ x ∈ dupK d, smallNe x := fun x hx => HZD.out x ((dupK_mem d x).1 hx)
  have kof := fun U V D w hU hV hD => lOf_any U V D sa sb d w hU hV hD HZA.out HZB.out HZD.out (by rw [HNA.out]; omega) (by rw [HNB.out]; omega) (by rw [HND.out]; omega)
  have kof2 := fun U V D w hU hV hD => lOf_any U V D sa sb (dupK d) w hU hV hD HZA.out HZB.out hd2s (by rw [HNA.out]; omega) (by rw [HNB.out]; omega) (by rw [hd2l]; omega)
  obtain ⟨PO, hPO⟩ : ∃ E, lackKE sa sb d = E := ⟨_, rfl⟩
  rw [hPO] at kof
  rw [dupK_lack, hPO] at kof2
  obtain ⟨oo, ok⟩ := PO
  simp only at kof kof2
  obtain ⟨no, hno⟩ : ∃ r, oo.length = r := ⟨_, rfl⟩
  have KOF := Lib.hid kof; have KOF2 := Lib.hid kof2; have HPO := Lib.hid hPO; have HNO := Lib.hid hno; have HD2 := Lib.hid hd2l
  clear kof kof2 hPO hno hd2l hd2s
  have e1 : ∀ args w, (callFunc 6 args).run Try.prog w = .ok (.enter 6 args) w := enters_of Try.func6 (by kernel_rfl) rfl
  have e2 : ∀ args w, (callFunc 7 args).run Try.prog w = .ok (.enter 7 args) w := enters_of Try.func7 (by kernel_rfl) rfl
  have e3 : ∀ args w, (callFunc 10 args).run Try.prog w = .ok (.enter 10 args) w := enters_of Try.func10 (by kernel_rfl) rfl
  have e4 : ∀ args w, (callFunc 9 args).run Try.prog w = .ok (.enter 9 args) w := enters_of Try.func9 (by kernel_rfl) rfl
  have e5 : ∀ args w, (callFunc 8 args).run Try.prog w = .ok (.enter 8 args) w := enters_of Try.func8 (by kernel_rfl) rfl
  go_enter Try.func3, Try.ntmps3
  go_upto_region 2 with (first
      | (go_at_call 5; refine (KFa.out _ _ SUa.out).mono ?_; rintro e w9 ⟨v1, rfl, hr1, hb1⟩; replace SUb := Lib.hid (SUb.out.below hb1); replace SUD := Lib.hid (SUD.out.below hb1); replace BB := Lib.hid (below_step BB.out hb1); obtain ⟨aa, ca, rfl, hd⟩ := ndsO hr1; rw [HNA.out] at hd ⊢; have Sa := Lib.hid hd; clear hr1 hd hb1 KFa SUa)
      | (go_at_call 5; refine (KFb.out _ _ SUb.out).mono ?_; rintro e w9 ⟨v1, rfl, hr1, hb1⟩; replace SUD := Lib.hid (SUD.out.below hb1); replace Sa := Lib.hid (Sa.out.below hb1); replace BB := Lib.hid (below_step BB.out hb1); obtain ⟨ab, cb, rfl, hd⟩ := ndsO hr1; rw [HNB.out] at hd ⊢; have Sb := Lib.hid hd; clear hr1 hd hb1 KFb SUb)
      | (go_at_call 6; refine (KFD.out _ _ SUD.out).mono ?_; rintro e w9 ⟨aD, cD, rfl, hr1, hb1⟩; replace Sa := Lib.hid (Sa.out.below hb1); replace Sb := Lib.hid (Sb.out.below hb1); replace BB := Lib.hid (below_step BB.out hb1); have SD := Lib.hid hr1; clear hr1 hb1 KFD SUD))
  go_upto_region 3 with (go_at_call 7; refine (KOF.out _ _ _ _ Sa.out Sb.out SD.out).mono ?_; rintro e w9 ⟨v1, rfl, ho1, hb1⟩; replace Sa := Lib.hid (Sa.out.below hb1); replace Sb := Lib.hid (Sb.out.below hb1); replace SD := Lib.hid (SD.out.below hb1); replace BB := Lib.hid (below_step BB.out hb1); obtain ⟨ao, co, hv1, hd1⟩ := ho1.form; rw [HNO.out] at hv1 hd1; subst hv1; have So := Lib.hid hd1; clear ho1 hd1 hb1 KOF)
  have hs0 : IntKind.i64.wrap ((nd : Int) - 1) = (nd : Int) - 1 := IntWalk.i64_in _ (by omega)
  obtain ⟨W8, hW8⟩ : ∃ v, v = w9 := ⟨_, rfl⟩
  subst hW8
  go_wp2
  go_loopw [9, 10] (fun bk i wr => ∃ (u : Value) (t : Nat) (acc : List Ne), u = bk ∧ t ≤ nd ∧ i = .int .i64 ((t : Int) - 1) ∧ acc.length = (nd - t) * 2 ∧ Hid (acc = dupK (d.drop t)) ∧ wr.ownsRow W8.heap.size 33 4 u acc.length (neC acc) ∧ Hid (Below W8.heap.size W8 wr)) (fun _ i _ => (intOf i + 1).toNat)
  case atStart => exact ⟨_, nd, [], rfl, Nat.le_refl _, rfl, by simp, Lib.hid (by rw [← HND.out, dupK_end]), World.ownsRow_nil _ _ _ _, Lib.hid (Below.refl _ _)⟩
  case round =>
    obtain ⟨u9, t, acc, rfl, htk, rfl, hal, HA, hown, HB⟩ := hrel
    clear hs0
    cases t with
    | succ j =>
      have e0 : ((j + 1 : Nat) : Int) - 1 = (j : Int) := by omega
      rw [e0]
      have hjl : j < d.length := by rw [HND.out]; omega
      obtain ⟨bd, od, rfl, -, cd0, cd1, cd2, cd3⟩ := SD.out.at j hjl
      have hst := dupK_step hjl
      obtain ⟨z, hz⟩ : ∃ z, z = d.getD j zNe := ⟨_, rfl⟩
      rw [← hz] at cd0 cd1 cd2 cd3 hst
      obtain ⟨⟨z1, z2⟩, z3, z4⟩ := z
      simp only at cd0 cd1 cd2 cd3
      obtain ⟨L2, hl2⟩ : ∃ L, L = acc ++ [((z1, z2), (z3, z4)), ((z1, z2), (z3, z4))] := ⟨_, rfl⟩
      have HL2E := Lib.hid hl2; have HOWN := Lib.hid hown; have HJ := Lib.hid (show j < nd by omega); have HBS := Lib.hid HB.out.size; have HAL := Lib.hid (show acc.length ≤ 1000 by omega)
      have HLN := Lib.hid (show L2.length = (nd - j) * 2 by rw [hl2, List.length_append, hal]; simp; omega)
      have HST := Lib.hid (show L2 = dupK (d.drop j) by rw [hst, hl2, HA.out])
      have CD0 := Lib.hid cd0; have CD1 := Lib.hid cd1; have CD2 := Lib.hid cd2; have CD3 := Lib.hid cd3; have HE0 := Lib.hid e0
      have hge : (0 : Int) ≤ (j : Int) := by omega
      have hwj : IntKind.i64.wrap ((j : Int) - 1) = (j : Int) - 1 := IntWalk.i64_in _ (by omega)
      clear hst hz hown hjl e0 hl2 hal cd0 cd1 cd2 cd3
      go_upto_region 7 with fail
      refine rol_run (by kernel_rfl) [[], [], [], [1, 2], [1, 2, 3], [], [], [5, 6], [5, 6, 7], [1, 2, 3, 4, 5, 6, 7, 8], [0, 1, 2, 3, 4, 5, 6, 7, 8, 9], [0, 1, 2, 3, 4, 5, 6, 7, 8, 9, 10]] (by kernel_rfl) [35, 36, 37, 38, 39, 40, 41, 42, 43, 44, 45, 9] [[13], [], [], [1, 2], [3], [], [], [5, 6], [7], [4, 8], [0, 9, 12], [10]] [0, 0, 0, 0, 0, 0, 0, 0, 0, 5, 1, 1, 1, 0] [0, 0, 0, 0, 0, 0, 0, 0, 0, 0, 1, 0] [1000, 1000, 1000, 1000, 1000, 1000, 1000, 1000, 1000, 1000, 1000, 1000, 10, 11] [.val 35 (u9), .val 36 (.slice (some ⟨bd, od, none⟩) nd cD), .val 37 (.int .i64 (j : Int)), .val 38 (.pointer (some ⟨bd, od + j * 4, none⟩)), .val 39 (.agg #[.string (mkB z1), .string (mkB z2), .string (mkB z3), .string (mkB z4)]), .val 40 (.slice (some ⟨bd, od, none⟩) nd cD), .val 41 (.int .i64 (j : Int)), .val 42 (.pointer (some ⟨bd, od + j * 4, none⟩)), .val 43 (.agg #[.string (mkB z1), .string (mkB z2), .string (mkB z3), .string (mkB z4)]), .mem 44 (blkG 33 #[.string (mkB z1), .string (mkB z2), .string (mkB z3), .string (mkB z4), .string (mkB z1), .string (mkB z2), .string (mkB z3), .string (mkB z4)] 2), .mem 45 (rowG W8.heap.size 33 4 L2.length (neC L2)), .mem 9 (rowG W8.heap.size 33 4 L2.length (neC L2)), .mem 9 (rowX u9 (W8.heap.size) 33 4 acc.length (neC acc)), .val 9 (u9)] (by kernel_rfl) ?_ (W8.heap.size) (wr.heap.size) rfl HB.out rfl (fun k => if Value.ownBlock u9 = some k then 1 else 0) ?_ ?_ ?_
      · intro j hj
        have hj3 : j < 14 := hj
        have hj2 : j = 0 ∨ j = 1 ∨ j = 2 ∨ j = 3 ∨ j = 4 ∨ j = 5 ∨ j = 6 ∨ j = 7 ∨ j = 8 ∨ j = 9 ∨ j = 10 ∨ j = 11 ∨ j = 12 ∨ j = 13 := by omega
        clear hj hj3
        rcases hj2 with rfl | rfl | rfl | rfl | rfl | rfl | rfl | rfl | rfl | rfl | rfl | rfl | rfl | rfl
        · exact trivial
        · exact trivial
        · exact trivial
        · exact trivial
        · exact trivial
        · exact trivial
        · exact trivial
        · exact trivial
        · exact trivial
        · exact blkG_near
        · exact rowG_near
        · exact rowG_near
        · exact rowX_near
        · exact trivial
      · intro j hj0 hj
        have hj1 : 12 ≤ j := hj0
        have hj3 : j < 14 := hj
        have hj2 : j = 12 ∨ j = 13 := by omega
        clear hj0 hj hj1 hj3
        rcases hj2 with rfl | rfl
        · exact ⟨_, _, rfl, fun b e => ⟨(own_lt HOWN.out e).2, if_pos e⟩, HOWN.out, rfl⟩
        · exact rfl
      · intro i hi a wx who hG hF
        have hz : a.tmps.size = 135 := hG.size
        have hi3 : i < 12 := hi
        have hi2 : i = 0 ∨ i = 1 ∨ i = 2 ∨ i = 3 ∨ i = 4 ∨ i = 5 ∨ i = 6 ∨ i = 7 ∨ i = 8 ∨ i = 9 ∨ i = 10 ∨ i = 11 := by omega
        clear hi hi3
        rcases hi2 with rfl | rfl | rfl | rfl | rfl | rfl | rfl | rfl | rfl | rfl | rfl | rfl
        · exact rol_val rfl rfl rfl (by rw [hz]; decide) (ex_move (Or.inl rfl) (eval_slot (hF 13 (by decide)))) hG.below
        · exact rol_val rfl rfl rfl (by rw [hz]; decide) (ex_move (Or.inl rfl) (eval_slot ((hG.slots 2 (by decide)).trans rfl))) hG.below
        · exact rol_val rfl rfl rfl (by rw [hz]; decide) (ex_move (Or.inl rfl) (eval_slot ((hG.slots 10 (by decide)).trans rfl))) hG.below
        · exact rol_val rfl rfl rfl (by rw [hz]; decide) (ex_index rfl (eval_slot (hF 1 (by decide))) (eval_slot (hF 2 (by decide))) (idx_ne HJ.out)) hG.below
        · exact rol_val rfl rfl rfl (by rw [hz]; decide) (ex_load rfl (eval_slot (hF 3 (by decide))) (ld_ne (cell_keep CD0.out hG.below) (cell_keep CD1.out hG.below) (cell_keep CD2.out hG.below) (cell_keep CD3.out hG.below))) hG.below
        · exact rol_val rfl rfl rfl (by rw [hz]; decide) (ex_move (Or.inl rfl) (eval_slot ((hG.slots 2 (by decide)).trans rfl))) hG.below
        · exact rol_val rfl rfl rfl (by rw [hz]; decide) (ex_move (Or.inl rfl) (eval_slot ((hG.slots 10 (by decide)).trans rfl))) hG.below
        · exact rol_val rfl rfl rfl (by rw [hz]; decide) (ex_index rfl (eval_slot (hF 5 (by decide))) (eval_slot (hF 6 (by decide))) (idx_ne HJ.out)) hG.below
        · exact rol_val rfl rfl rfl (by rw [hz]; decide) (ex_load rfl (eval_slot (hF 7 (by decide))) (ld_ne (cell_keep CD0.out hG.below) (cell_keep CD1.out hG.below) (cell_keep CD2.out hG.below) (cell_keep CD3.out hG.below))) hG.below
        · exact rol_newO rfl rfl rfl (by rw [hz]; decide) (x := .cells #[.string (mkB z1), .string (mkB z2), .string (mkB z3), .string (mkB z4), .string (mkB z1), .string (mkB z2), .string (mkB z3), .string (mkB z4)] 33) (v := .slice (some ⟨wx.heap.size, 0, none⟩) 2 2) (ex_slice rfl (vs := #[(0, .agg #[.string (mkB z1), .string (mkB z2), .string (mkB z3), .string (mkB z4)]), (1, .agg #[.string (mkB z1), .string (mkB z2), .string (mkB z3), .string (mkB z4)])]) (by simp only [List.map_toArray, List.map_cons, List.map_nil, eval_slot (hF 4 (by decide)), eval_slot (hF 8 (by decide))]) (by go_simp)) ⟨_, rfl, rfl, heap_alloc_new _ _⟩ hG.below (Nat.le_trans HBS.out hG.new)
        · obtain ⟨v, ob, hv, hob, b, rfl, rfl, hh⟩ := hF 9 (by decide)
          exact rol_app_ne rfl rfl rfl (by rw [hz]; decide) rfl (hF 12 (by decide)) (eval_slot (hF 0 (by decide))) (eval_slot hv) (nes_blkK (l := [((z1, z2), (z3, z4)), ((z1, z2), (z3, z4))]) hh rfl (by decide)) (by have := HAL.out; omega) hG.below (Nat.le_refl _) (Nat.le_trans HBS.out hG.new) (by rw [HL2E.out, List.length_append]; rfl) HL2E.out
        · exact rol_move rfl rfl rfl (by rw [hz]; decide) (Or.inr rfl) (hF 10 (by decide)) hG.below
      · intro a wx who hG hF
        obtain ⟨v9, ob9, fv9, fo9, fp9⟩ := hF 11 (of_decide_eq_true (by kernel_rfl)) (of_decide_eq_true (by kernel_rfl))
        replace fv9 : a.tmps.getD 9 undef = v9 := eval_slot (s := 9) fv9
        have hbx := hG.below
        have hnx := hG.new
        rw [hG.frame]
        simp only [List.foldl_cons, List.foldl_nil, List.setIfInBounds_toArray, List.set_cons_zero, List.set_cons_succ]
        generalize a.tmps.getD 35 undef = u35
        generalize a.tmps.getD 36 undef = u36
        generalize a.tmps.getD 37 undef = u37
        generalize a.tmps.getD 38 undef = u38
        generalize a.tmps.getD 39 undef = u39
        generalize a.tmps.getD 40 undef = u40
        generalize a.tmps.getD 41 undef = u41
        generalize a.tmps.getD 42 undef = u42
        generalize a.tmps.getD 43 undef = u43
        generalize a.tmps.getD 44 undef = u44
        generalize a.tmps.getD 45 undef = u45
        rw [fv9]
        clear hF hG fv9
        obtain ⟨hrow, -⟩ := fp9
        have HRW := Lib.hid hrow; have HBN := Lib.hid hbx
        clear fo9 hrow hbx hnx
        go_wp2
        go_roundw
        case rel => exact ⟨_, j, L2, rfl, by omega, rfl, HLN.out, HST, HRW.out, HBN⟩
        case measure => simp [intOf]
    | zero =>
      have e0 : ((0 : Nat) : Int) - 1 = -1 := rfl
      rw [e0]
      have hac := HA.out
      rw [List.drop_zero] at hac
      subst hac
      obtain ⟨aK, cK, rfl, hK⟩ := nesO hown
      rw [HD2.out] at hK ⊢
      replace Sa := Lib.hid (Sa.out.below HB.out)
      replace Sb := Lib.hid (Sb.out.below HB.out)
      replace SD := Lib.hid (SD.out.below HB.out)
      replace So := Lib.hid (So.out.below HB.out)
      replace BB := Lib.hid (below_step BB.out HB.out)
      have SK := Lib.hid hK
      clear e0 hK hown hal HA HB
      go_upto_region 9 with (go_at_call 7; refine (KOF2.out _ _ _ _ Sa.out Sb.out SK.out).mono ?_; rintro e w9 ⟨v1, rfl, ho1, hb1⟩; replace Sa := Lib.hid (Sa.out.below hb1); replace Sb := Lib.hid (Sb.out.below hb1); replace SD := Lib.hid (SD.out.below hb1); replace So := Lib.hid (So.out.below hb1); replace SK := Lib.hid (SK.out.below hb1); replace BB := Lib.hid (below_step BB.out hb1); obtain ⟨ap, cp, hv1, hd1⟩ := ho1.form; rw [HNO.out] at hv1 hd1; subst hv1; have Sp := Lib.hid hd1; clear ho1 hd1 hb1 KOF2)
      cases ho : ((checkN sa && checkN sb) && mayK d)
      · have h2 := HPO.out
        rw [lackKE_no ho] at h2
        obtain ⟨h4, rfl⟩ := Prod.mk.inj h2
        obtain rfl : no = 0 := by rw [← HNO.out, ← h4]; rfl
        clear h2 h4 ho
        go_wp2_with (go_at_call 8; refine (kawake_any _).mono ?_; rintro e w9 ⟨rfl, hb1⟩; replace Sa := Lib.hid (Sa.out.below hb1); replace Sb := Lib.hid (Sb.out.below hb1); replace SD := Lib.hid (SD.out.below hb1); replace So := Lib.hid (So.out.below hb1); replace SK := Lib.hid (SK.out.below hb1); replace Sp := Lib.hid (Sp.out.below hb1); replace BB := Lib.hid (below_step BB.out hb1); clear hb1)
        go_ret
        exact ⟨rfl, BB.out⟩
      · have ho3 := ho
        rw [Bool.and_eq_true, Bool.and_eq_true] at ho3
        obtain ⟨⟨hoa, hob⟩, hod⟩ := ho3
        have h2 := HPO.out
        rw [lackKE_yes hoa hob hod] at h2
        obtain ⟨hM, rfl⟩ := Prod.mk.inj h2
        obtain ⟨M, hMM⟩ : ∃ M, minusN sa sb = M := ⟨_, rfl⟩
        rw [hMM] at hM
        have hnd : M.Nodup := by rw [← hMM]; exact rises_nodup (checkN_rises (minusN_check hoa))
        have hMs : ∀ n ∈ M, smallN n := fun n hn => by rw [← hMM, minusN_mem] at hn; exact HZA.out n hn.1
        have hMo : ∀ n ∈ M, okN n = true := fun n hn => by rw [← hMM, minusN_mem] at hn; exact checkN_ok hoa n hn.1
        have hlen := HNO.out
        clear h2 ho
        by_cases hn0 : no = 0
        · subst hn0
          clear hMM hnd hMs hMo hlen hoa hob hod
          obtain rfl : oo = [] := List.eq_nil_of_length_eq_zero HNO.out
          clear hM
          go_wp2_with (first
              | (go_at_call 9; refine (refsameK_any _ _ _ _ _ So.out Sp.out).mono ?_; rintro e w9 ⟨rfl, hb1⟩; rw [decLks]; replace Sa := Lib.hid (Sa.out.below hb1); replace Sb := Lib.hid (Sb.out.below hb1); replace SD := Lib.hid (SD.out.below hb1); replace So := Lib.hid (So.out.below hb1); replace SK := Lib.hid (SK.out.below hb1); replace Sp := Lib.hid (Sp.out.below hb1); replace BB := Lib.hid (below_step BB.out hb1); clear hb1)
              | (go_at_call 8; refine (kawake_any _).mono ?_; rintro e w9 ⟨rfl, hb1⟩; replace Sa := Lib.hid (Sa.out.below hb1); replace Sb := Lib.hid (Sb.out.below hb1); replace SD := Lib.hid (SD.out.below hb1); replace So := Lib.hid (So.out.below hb1); replace SK := Lib.hid (SK.out.below hb1); replace Sp := Lib.hid (Sp.out.below hb1); replace BB := Lib.hid (below_step BB.out hb1); clear hb1))
          go_ret
          exact ⟨rfl, BB.out⟩
        · rw [← hM] at hlen
          obtain ⟨n1, M1, hMc⟩ : ∃ n1 M1, M = n1 :: M1 := by
            cases hMe : M with
            | nil => rw [hMe] at hM; rw [hMe] at hlen; exact absurd hlen.symm hn0
            | cons n1 M1 => exact ⟨n1, M1, rfl⟩
          rw [hMc, lackK_cons] at hM
          rw [hMc] at hnd hMs hMo
          obtain ⟨y1, y2⟩ := n1
          have hsy := hMs (y1, y2) (by simp)
          have hoy := hMo (y1, y2) (by simp)
          have hmay : mayK (d ++ [((([], []), (y1, y2)) : Ne)]) = true := mayK_app hod (by simp [mayK, mayK1, rootK, hoy])
          have hsm : ∀ x ∈ d ++ [((([], []), (y1, y2)) : Ne)], smallNe x := fun x hx => by
            rcases List.mem_append.1 hx with h | h
            · exact HZD.out x h
            · rw [List.mem_singleton.1 h]; exact ⟨⟨Nat.zero_le _, Nat.zero_le _⟩, hsy⟩
          have hl2 : (d ++ [((([], []), (y1, y2)) : Ne)]).length = nd + 1 := by rw [List.length_append, HND.out]; rfl
          have ko3 := fun U V D w hU hV hD => lOf_any U V D sa sb (d ++ [((([], []), (y1, y2)) : Ne)]) w hU hV hD HZA.out HZB.out hsm (by rw [HNA.out]; omega) (by rw [HNB.out]; omega) (by rw [hl2]; omega)
          rw [lackKE_yes hoa hob hmay, hMM, hMc, lackK_root hnd] at ko3
          have kf2 := fun V w h => lfewo_any V d w h (fun x hx => small_fitNe (HZD.out x hx))
          rw [HID.out, HND.out] at kf2
          obtain ⟨Y, hY⟩ : ∃ Y, byK (liveK sa d) (y1, y2) = Y := ⟨_, rfl⟩
          rw [hY] at ko3 hM
          obtain ⟨BY, R⟩ := Y
          obtain ⟨TL, hTL⟩ : ∃ r, lackK sa M1 d = r := ⟨_, rfl⟩
          rw [hTL] at ko3 hM
          subst hM
          obtain ⟨CC, hCC⟩ : ∃ r, (((y1, y2), (BY, true)) : Lk) :: TL = r := ⟨_, rfl⟩
          simp only at ko3
          rw [hCC] at ko3
          have hcl : CC.length = no := by rw [← hCC, List.length_cons, ← HNO.out, List.length_cons]
          have hn1 : 0 < no := by rw [← HNO.out, List.length_cons]; omega
          have h0 : decide (no = 0) = false := decide_eq_false (by omega)
          have KO3 := Lib.hid ko3; have KF2 := Lib.hid kf2; have HCC := Lib.hid hCC; have HCL := Lib.hid hcl; have HN1 := Lib.hid hn1; have HN2 := Lib.hid hl2; have HNL := Lib.hid (show nd ≤ 1000 by omega)
          clear hMc hnd hMs hMo hsy hoy hmay hsm ko3 kf2 hY hTL hCC hcl hMM hoa hob hod hlen hl2
          go_upto_region 15 with (go_at_call 9; refine (refsameK_any _ _ _ _ _ So.out Sp.out).mono ?_; rintro e w9 ⟨rfl, hb1⟩; rw [decLks]; replace Sa := Lib.hid (Sa.out.below hb1); replace Sb := Lib.hid (Sb.out.below hb1); replace SD := Lib.hid (SD.out.below hb1); replace So := Lib.hid (So.out.below hb1); replace SK := Lib.hid (SK.out.below hb1); replace Sp := Lib.hid (Sp.out.below hb1); replace BB := Lib.hid (below_step BB.out hb1); clear hb1)
          clear Sp SK HPO
          obtain ⟨ba, oa9, aa5, na5, ca5, rfl, ca0, ca1, ca2, -, hba⟩ := So.out.at 0 (by simp)
          rw [Nat.zero_mul, Nat.add_zero] at ca0 ca1 ca2
          obtain ⟨W8, hW8⟩ : ∃ v, v = w9 := ⟨_, rfl⟩
          subst hW8
          have CA0 := Lib.hid (show W8.cell? ⟨ba, oa9, none⟩ = some (.string (mkB y1)) from ca0)
          have CA1 := Lib.hid (show W8.cell? ⟨ba, oa9 + 1, none⟩ = some (.string (mkB y2)) from ca1)
          have CA2 := Lib.hid ca2; have SBA := Lib.hid (show Nds W8 (.slice aa5 na5 ca5) BY from hba)
          clear ca0 ca1 ca2 hba
          refine rol_run (by kernel_rfl) [[], [], [], [2], [], [4], [4, 5], [4, 5, 6], [4, 5, 6, 7], [4, 5, 6, 7, 8], [2, 3, 4, 5, 6, 7, 8, 9], [0, 1, 2, 3, 4, 5, 6, 7, 8, 9, 10], [0, 1, 2, 3, 4, 5, 6, 7, 8, 9, 10, 11], [0, 1, 2, 3, 4, 5, 6, 7, 8, 9, 10, 11, 12], [0, 1, 2, 3, 4, 5, 6, 7, 8, 9, 10, 11, 12], [0, 1, 2, 3, 4, 5, 6, 7, 8, 9, 10, 11, 12, 13], [0, 1, 2, 3, 4, 5, 6, 7, 8, 9, 10, 11, 12, 13, 14, 15]] (by kernel_rfl) [85, 86, 87, 88, 89, 90, 91, 92, 93, 94, 95, 96, 84, 97, 98, 13, 14] [[], [], [], [2], [], [4], [5], [6], [7], [8], [3, 9], [0, 1, 10], [11], [12], [12], [13], [14]] [0, 0, 0, 1, 0, 0, 0, 0, 0, 4, 1, 3, 3, 3, 0, 3, 0] [0, 0, 0, 0, 0, 0, 0, 0, 0, 0, 1, 0, 0, 0, 0, 0, 0] [1000, 1000, 1000, 10, 1000, 1000, 1000, 1000, 1000, 1000, 1000, 1000, 1000, 1000, 1000, 1000, 1000] [.val 85 (.slice aa na ca), .val 86 (.slice ab nb cb), .val 87 (.slice aD nd cD), .mem 88 (rowG W8.heap.size 33 4 nd (neC d)), .val 89 (.slice (some ⟨ba, oa9, none⟩) no co), .val 90 (.pointer (some ⟨ba, oa9, none⟩)), .val 91 (.pointer (some ⟨ba, oa9, none⟩)), .val 92 (.agg #[.string (mkB y1), .string (mkB y2)]), .val 93 (.agg #[.string (mkB []), .string (mkB []), .string (mkB y1), .string (mkB y2)]), .mem 94 (blkG 33 #[.string (mkB []), .string (mkB []), .string (mkB y1), .string (mkB y2)] 1), .mem 95 (rowG W8.heap.size 33 4 (nd + 1) (neC (d ++ [((([], []), (y1, y2)) : Ne)]))), .mems 96 (tupLk W8.heap.size CC 0), .mems 84 (tupLk W8.heap.size CC 0), .mems 97 (lkG W8.heap.size CC), .val 98 (.int .i64 0), .mems 13 (lkG W8.heap.size CC), .val 14 (.int .i64 0)] (by kernel_rfl) ?_ (W8.heap.size) (W8.heap.size) rfl (Below.refl _ _) rfl (fun _ => 0) ?_ ?_ ?_
          · intro j hj
            have hj3 : j < 17 := hj
            have hj2 : j = 0 ∨ j = 1 ∨ j = 2 ∨ j = 3 ∨ j = 4 ∨ j = 5 ∨ j = 6 ∨ j = 7 ∨ j = 8 ∨ j = 9 ∨ j = 10 ∨ j = 11 ∨ j = 12 ∨ j = 13 ∨ j = 14 ∨ j = 15 ∨ j = 16 := by omega
            clear hj hj3
            rcases hj2 with rfl | rfl | rfl | rfl | rfl | rfl | rfl | rfl | rfl | rfl | rfl | rfl | rfl | rfl | rfl | rfl | rfl
            · exact trivial
            · exact trivial
            · exact trivial
            · exact rowG_near
            · exact trivial
            · exact trivial
            · exact trivial
            · exact trivial
            · exact trivial
            · exact blkG_near
            · exact rowG_near
            · exact tupLk_near
            · exact tupLk_near
            · exact lkG_near
            · exact trivial
            · exact lkG_near
            · exact trivial
          · intro j hj0 hj
            exact absurd hj (Nat.not_lt.2 hj0)
          · intro i hi a wx who hG hF
            have hz : a.tmps.size = 135 := hG.size
            have hi3 : i < 17 := hi
            have hi2 : i = 0 ∨ i = 1 ∨ i = 2 ∨ i = 3 ∨ i = 4 ∨ i = 5 ∨ i = 6 ∨ i = 7 ∨ i = 8 ∨ i = 9 ∨ i = 10 ∨ i = 11 ∨ i = 12 ∨ i = 13 ∨ i = 14 ∨ i = 15 ∨ i = 16 := by omega
            clear hi hi3
            rcases hi2 with rfl | rfl | rfl | rfl | rfl | rfl | rfl | rfl | rfl | rfl | rfl | rfl | rfl | rfl | rfl | rfl | rfl
            · exact rol_val rfl rfl rfl (by rw [hz]; decide) (ex_move (Or.inl rfl) (eval_slot ((hG.slots 0 (by decide)).trans rfl))) hG.below
            · exact rol_val rfl rfl rfl (by rw [hz]; decide) (ex_move (Or.inl rfl) (eval_slot ((hG.slots 1 (by decide)).trans rfl))) hG.below
            · exact rol_val rfl rfl rfl (by rw [hz]; decide) (ex_move (Or.inl rfl) (eval_slot ((hG.slots 2 (by decide)).trans rfl))) hG.below
            · refine rol_calls rfl rfl rfl (by rw [hz]; decide) (ex_call rfl (by simp [eval_slot (hF 2 (by decide))]) e1) (KF2.out _ wx (SD.out.below hG.below)) ?_ hG.below hG.new
              rintro e w1 ⟨u, rfl, hso, hb1⟩
              exact ⟨u, rfl, hb1, .inr (.inl ⟨_, u.ownBlock, rfl, fun b e => own_lt hso e, row_base hso hG.new, rfl⟩)⟩
            · exact rol_val rfl rfl rfl (by rw [hz]; decide) (ex_move (Or.inl rfl) (eval_slot ((hG.slots 7 (by decide)).trans rfl))) hG.below
            · exact rol_val rfl rfl rfl (by rw [hz]; decide) (ex_index rfl (eval_slot (hF 4 (by decide))) rfl (idx0_lk HN1.out)) hG.below
            · exact rol_val rfl rfl rfl (by rw [hz]; decide) (ex_field rfl (eval_slot (hF 5 (by decide))) fld0_lk) hG.below
            · exact rol_val rfl rfl rfl (by rw [hz]; decide) (ex_load rfl (eval_slot (hF 6 (by decide))) (ld_node (cell_keep CA0.out hG.below) (cell_keep CA1.out hG.below))) hG.below
            · exact rol_val rfl rfl rfl (by rw [hz]; decide) (ex_build rfl (vs := #[(1, .agg #[.string (mkB y1), .string (mkB y2)])]) (by simp only [List.map_toArray, List.map_cons, List.map_nil, eval_slot (hF 7 (by decide))]) build_nero) hG.below
            · exact rol_newO rfl rfl rfl (by rw [hz]; decide) (x := .cells #[.string (mkB []), .string (mkB []), .string (mkB y1), .string (mkB y2)] 33) (v := .slice (some ⟨wx.heap.size, 0, none⟩) 1 1) (ex_slice rfl (vs := #[(0, .agg #[.string (mkB []), .string (mkB []), .string (mkB y1), .string (mkB y2)])]) (by simp only [List.map_toArray, List.map_cons, List.map_nil, eval_slot (hF 8 (by decide))]) (by go_simp)) ⟨_, rfl, rfl, heap_alloc_new _ _⟩ hG.below hG.new
            · obtain ⟨v, ob, hv, hob, b, rfl, rfl, hh⟩ := hF 9 (by decide)
              obtain ⟨v3, ob3, hv3, hob3, hr3, rfl⟩ := hF 3 (by decide)
              exact rol_app_ne rfl rfl rfl (by rw [hz]; decide) rfl ⟨v3, _, hv3, hob3, hr3, rfl⟩ (eval_slot hv3) (eval_slot hv) (blkG.nes hh) (by have := HNL.out; omega) hG.below (Nat.le_refl _) hG.new rfl rfl
            · obtain ⟨v, ob, hv, hob, hr, rfl⟩ := hF 10 (by decide)
              obtain ⟨aX, cX, hvX, hnX⟩ := nesO (by rw [HN2.out]; exact hr)
              rw [hvX] at hv
              rw [HN2.out] at hv hnX
              refine rol_calls rfl rfl rfl (by rw [hz]; decide) (ex_call rfl (by simp [eval_slot (hF 0 (by decide)), eval_slot (hF 1 (by decide)), eval_slot hv]) e2) (KO3.out _ _ _ wx (Sa.out.below hG.below) (Sb.out.below hG.below) hnX) ?_ hG.below hG.new
              rintro e w1 ⟨v1, rfl, ho, hb1⟩
              obtain ⟨bs, hbs, hg⟩ := ho.toT (k := 0) hG.new
              exact ⟨_, rfl, hb1, .inr (.inr ⟨_, bs, rfl, hbs, hg⟩)⟩
            · obtain ⟨v, bs, hv, hbs, hp⟩ := hF 11 (by decide)
              exact rol_vals rfl rfl rfl (by rw [hz]; decide) (ex_move (Or.inl rfl) (eval_slot hv)) hbs hp hG.below
            · obtain ⟨v, bs, hv, hbs, u, rfl, hp⟩ := hF 12 (by decide)
              exact rol_vals rfl rfl rfl (by rw [hz]; decide) (ex_extract rfl (eval_slot hv) rfl) hbs hp hG.below
            · obtain ⟨v, bs, hv, hbs, u, rfl, hp⟩ := hF 12 (by decide)
              exact rol_val rfl rfl rfl (by rw [hz]; decide) (ex_extract rfl (eval_slot hv) rfl) hG.below
            · obtain ⟨v, bs, hv, hbs, hp⟩ := hF 13 (by decide)
              exact rol_vals rfl rfl rfl (by rw [hz]; decide) (ex_move (Or.inr rfl) (eval_slot hv)) hbs hp hG.below
            · exact rol_val rfl rfl rfl (by rw [hz]; decide) (ex_move (Or.inr rfl) (eval_slot (hF 14 (by decide)))) hG.below
          · intro a wx who hG hF
            obtain ⟨v13, bs13, fv13, fo13, fp13⟩ := hF 15 (of_decide_eq_true (by kernel_rfl)) (of_decide_eq_true (by kernel_rfl))
            replace fv13 : a.tmps.getD 13 undef = v13 := eval_slot (s := 13) fv13
            have fv14 : a.tmps.getD 14 undef = .int .i64 0 := eval_slot (s := 14) (hF 16 (of_decide_eq_true (by kernel_rfl)) (of_decide_eq_true (by kernel_rfl)))
            have hbx := hG.below
            have hnx := hG.new
            rw [hG.frame]
            simp only [List.foldl_cons, List.foldl_nil, List.setIfInBounds_toArray, List.set_cons_zero, List.set_cons_succ]
            generalize a.tmps.getD 85 undef = u85
            generalize a.tmps.getD 86 undef = u86
            generalize a.tmps.getD 87 undef = u87
            generalize a.tmps.getD 88 undef = u88
            generalize a.tmps.getD 89 undef = u89
            generalize a.tmps.getD 90 undef = u90
            generalize a.tmps.getD 91 undef = u91
            generalize a.tmps.getD 92 undef = u92
            generalize a.tmps.getD 93 undef = u93
            generalize a.tmps.getD 94 undef = u94
            generalize a.tmps.getD 95 undef = u95
            generalize a.tmps.getD 96 undef = u96
            generalize a.tmps.getD 84 undef = u84
            generalize a.tmps.getD 97 undef = u97
            generalize a.tmps.getD 98 undef = u98
            rw [fv13]
            rw [fv14]
            clear hF hG fv13 fv14
            have hd := fp13.own
            obtain ⟨c13, cc, hv13, hdc⟩ := hd.form
            rw [HCL.out] at hv13 hdc
            subst hv13
            obtain ⟨W7, hW7⟩ : ∃ v, v = wx := ⟨_, rfl⟩
            subst hW7
            have SC := Lib.hid hdc
            replace So := Lib.hid (So.out.below hbx)
            replace SBA := Lib.hid (SBA.out.below hbx)
            replace BB := Lib.hid (below_step BB.out hbx)
            replace CA2 := Lib.hid (cell_keep CA2.out hbx)
            rw [← HCC.out] at SC
            obtain ⟨bc, oc, ac5, nc5, cc5, rfl, -, -, cc2, cc3, hbc⟩ := SC.out.at 0 (by simp)
            rw [Nat.zero_mul, Nat.add_zero] at cc2 cc3
            have CC2 := Lib.hid cc2; have CC3 := Lib.hid (show W7.cell? ⟨bc, oc + 3, none⟩ = some (.bool true) from cc3); have SBC := Lib.hid (show Nds W7 (.slice ac5 nc5 cc5) BY from hbc)
            obtain ⟨tc, mc, dc, htc, htc2⟩ := SC.out.tail
            obtain ⟨ta, ma9, da, hta, hta2⟩ := So.out.tail
            have HTC := Lib.hid htc; have HTA9 := Lib.hid hta; have STC := Lib.hid (htc2 _ SC.out); have STA := Lib.hid (hta2 _ So.out)
            have ks1 := fun w h h' => nsame_any (.slice ac5 nc5 cc5) (.slice aa5 na5 ca5) BY BY w h h'
            have ks2 := fun w h h' => refsameK_any (.slice tc mc dc) (.slice ta ma9 da) TL TL w h h'
            have KS1 := Lib.hid ks1; have KS2 := Lib.hid ks2
            clear fo13 fp13 hd hdc hbx hnx cc2 cc3 hbc htc htc2 hta hta2 ks1 ks2 KO3 KF2
            go_upto_region 16 with fail
            refine rol_run (by kernel_rfl) [[], [0], [1], [2], [2, 3], [2], [2, 5], [2, 4, 6], [2, 7], [8], [9], [9, 10], [9, 11], [9, 12], [9, 13], [14], [15], [15, 16], [15, 17], [15, 18], [15], [15, 20], [15, 21], [15, 22], [15, 19, 23], [15, 24], [25], [26], [26, 27], [26], [26, 29], [26, 28, 30], [26, 31], [32], [33], [33, 34], [35]] (by kernel_rfl) [99, 100, 101, 102, 103, 104, 105, 106, 107, 108, 109, 110, 111, 112, 113, 114, 115, 116, 117, 118, 119, 120, 121, 122, 123, 124, 125, 126, 127, 128, 129, 130, 131, 132, 133, 134, 6] [[], [0], [1], [2], [2, 3], [2], [2, 5], [2, 4, 6], [2, 7], [8], [9], [9, 10], [9, 11], [9, 12], [9, 13], [14], [15], [15, 16], [15, 17], [15, 18], [15], [15, 20], [15, 21], [15, 22], [15, 19, 23], [15, 24], [25], [26], [26, 27], [26], [26, 29], [26, 28, 30], [26, 31], [32], [33], [33, 34], [35]] (List.replicate 37 0) (List.replicate 37 0) (List.replicate 37 1000) [.val 99 (.int .i64 0), .val 100 (.bool true), .val 101 (.bool true), .val 102 (.slice (some ⟨bc, oc, none⟩) no cc), .val 103 (.int .i64 (no : Int)), .val 104 (.slice (some ⟨ba, oa9, none⟩) no co), .val 105 (.int .i64 (no : Int)), .val 106 (.bool true), .val 107 (.bool true), .val 108 (.bool true), .val 109 (.slice (some ⟨bc, oc, none⟩) no cc), .val 110 (.pointer (some ⟨bc, oc, none⟩)), .val 111 (.pointer (some ⟨bc, oc + 3, none⟩)), .val 112 (.bool true), .val 113 (.bool true), .val 114 (.bool true), .val 115 (.slice (some ⟨bc, oc, none⟩) no cc), .val 116 (.pointer (some ⟨bc, oc, none⟩)), .val 117 (.pointer (some ⟨bc, oc + 2, none⟩)), .val 118 (.slice ac5 nc5 cc5), .val 119 (.slice (some ⟨ba, oa9, none⟩) no co), .val 120 (.pointer (some ⟨ba, oa9, none⟩)), .val 121 (.pointer (some ⟨ba, oa9 + 2, none⟩)), .val 122 (.slice aa5 na5 ca5), .val 123 (.bool true), .val 124 (.bool true), .val 125 (.bool true), .val 126 (.slice (some ⟨bc, oc, none⟩) no cc), .val 127 (.slice tc mc dc), .val 128 (.slice (some ⟨ba, oa9, none⟩) no co), .val 129 (.slice ta ma9 da), .val 130 (.bool true), .val 131 (.bool true), .val 132 (.bool true), .val 133 (.bool true), .val 134 (.bool true), .val 6 (.bool true)] (by kernel_rfl) ?_ (W7.heap.size) (W7.heap.size) rfl (Below.refl _ _) rfl (fun _ => 0) ?_ ?_ ?_
            · intro j hj
              have hj3 : j < 37 := hj
              clear hj
              revert j
              iterate 37 refine lt_step ?_ ?_
              · exact lt_none
              all_goals exact trivial
            · intro j hj0 hj
              exact absurd hj (Nat.not_lt.2 hj0)
            · intro i hi
              have hi3 : i < 37 := hi
              clear hi
              revert i
              iterate 37 refine lt_step ?_ ?_
              · exact lt_none
              all_goals intro a wx who hG hF
              all_goals have hz : a.tmps.size = 135 := hG.size
              · exact rv rfl rfl rfl hz rfl (ex_move (Or.inl rfl) (eval_slot ((hG.slots 14 (by decide)).trans rfl))) hG
              · exact rv rfl rfl rfl hz rfl (ex_bin rfl (ev hF 0 rfl rfl) rfl (by go_simp) (by go_simp)) hG
              · exact rv rfl rfl rfl hz rfl (ex_move (Or.inl rfl) (ev hF 1 rfl rfl)) hG
              · exact ry rfl hF 2 rfl rfl rfl rfl rfl hz rfl (ex_move (Or.inl rfl) (eval_slot ((hG.slots 13 (by decide)).trans rfl))) hG
              · exact ry rfl hF 2 rfl rfl rfl rfl rfl hz rfl (ex_len rfl (ev hF 3 rfl rfl) (by go_simp)) hG
              · exact ry rfl hF 2 rfl rfl rfl rfl rfl hz rfl (ex_move (Or.inl rfl) (eval_slot ((hG.slots 7 (by decide)).trans rfl))) hG
              · exact ry rfl hF 2 rfl rfl rfl rfl rfl hz rfl (ex_len rfl (ev hF 5 rfl rfl) (by go_simp)) hG
              · exact ry rfl hF 2 rfl rfl rfl rfl rfl hz rfl (ex_bin rfl (ev hF 4 rfl rfl) (ev hF 6 rfl rfl) (by go_simp) (by go_simp)) hG
              · exact rv rfl rfl rfl hz rfl (ex_pick_yes rfl (ev hF 2 rfl rfl) (ev hF 7 rfl rfl)) hG
              · exact rv rfl rfl rfl hz rfl (ex_move (Or.inl rfl) (ev hF 8 rfl rfl)) hG
              · exact ry rfl hF 9 rfl rfl rfl rfl rfl hz rfl (ex_move (Or.inl rfl) (eval_slot ((hG.slots 13 (by decide)).trans rfl))) hG
              · exact ry rfl hF 9 rfl rfl rfl rfl rfl hz rfl (ex_index rfl (ev hF 10 rfl rfl) rfl (idx0_lk HN1.out)) hG
              · exact ry rfl hF 9 rfl rfl rfl rfl rfl hz rfl (ex_field rfl (ev hF 11 rfl rfl) fld2_lk) hG
              · exact ry rfl hF 9 rfl rfl rfl rfl rfl hz rfl (ex_load rfl (ev hF 12 rfl rfl) (ld_bool (cell_keep CC3.out hG.below))) hG
              · exact rv rfl rfl rfl hz rfl (ex_pick_yes rfl (ev hF 9 rfl rfl) (ev hF 13 rfl rfl)) hG
              · exact rv rfl rfl rfl hz rfl (ex_move (Or.inl rfl) (ev hF 14 rfl rfl)) hG
              · exact ry rfl hF 15 rfl rfl rfl rfl rfl hz rfl (ex_move (Or.inl rfl) (eval_slot ((hG.slots 13 (by decide)).trans rfl))) hG
              · exact ry rfl hF 15 rfl rfl rfl rfl rfl hz rfl (ex_index rfl (ev hF 16 rfl rfl) rfl (idx0_lk HN1.out)) hG
              · exact ry rfl hF 15 rfl rfl rfl rfl rfl hz rfl (ex_field rfl (ev hF 17 rfl rfl) fld1_lk) hG
              · exact ry rfl hF 15 rfl rfl rfl rfl rfl hz rfl (ex_load rfl (ev hF 18 rfl rfl) (ld_nds (cell_keep CC2.out hG.below))) hG
              · exact ry rfl hF 15 rfl rfl rfl rfl rfl hz rfl (ex_move (Or.inl rfl) (eval_slot ((hG.slots 7 (by decide)).trans rfl))) hG
              · exact ry rfl hF 15 rfl rfl rfl rfl rfl hz rfl (ex_index rfl (ev hF 20 rfl rfl) rfl (idx0_lk HN1.out)) hG
              · exact ry rfl hF 15 rfl rfl rfl rfl rfl hz rfl (ex_field rfl (ev hF 21 rfl rfl) fld1_lk) hG
              · exact ry rfl hF 15 rfl rfl rfl rfl rfl hz rfl (ex_load rfl (ev hF 22 rfl rfl) (ld_nds (cell_keep CA2.out hG.below))) hG
              · refine rol_call rfl (want_yes rfl rfl (hF 15 (by decide))) rfl (by rw [hz]; decide) (ex_call rfl (by simp [eval_slot (hF 19 (by decide)), eval_slot (hF 23 (by decide))]) e3) (KS1.out wx (SBC.out.below hG.below) (SBA.out.below hG.below)) ?_ hG.below hG.new
                rintro e w1 ⟨rfl, hd1⟩
                rw [decNds]
                exact ⟨_, rfl, hd1, .inl rfl⟩
              · exact rv rfl rfl rfl hz rfl (ex_pick_yes rfl (ev hF 15 rfl rfl) (ev hF 24 rfl rfl)) hG
              · exact rv rfl rfl rfl hz rfl (ex_move (Or.inl rfl) (ev hF 25 rfl rfl)) hG
              · exact ry rfl hF 26 rfl rfl rfl rfl rfl hz rfl (ex_move (Or.inl rfl) (eval_slot ((hG.slots 13 (by decide)).trans rfl))) hG
              · exact ry rfl hF 26 rfl rfl rfl rfl rfl hz rfl (ex_back (t := 26) (x := .tmp 126) (y := .const (.int .i64 1)) (vx := .slice (some ⟨bc, oc, none⟩) no cc) (vy := .int .i64 1) rfl (ev hF 27 rfl rfl) rfl (HTC.out wx)) hG
              · exact ry rfl hF 26 rfl rfl rfl rfl rfl hz rfl (ex_move (Or.inl rfl) (eval_slot ((hG.slots 7 (by decide)).trans rfl))) hG
              · exact ry rfl hF 26 rfl rfl rfl rfl rfl hz rfl (ex_back (t := 26) (x := .tmp 128) (y := .const (.int .i64 1)) (vx := .slice (some ⟨ba, oa9, none⟩) no co) (vy := .int .i64 1) rfl (ev hF 29 rfl rfl) rfl (HTA9.out wx)) hG
              · refine rol_call rfl (want_yes rfl rfl (hF 26 (by decide))) rfl (by rw [hz]; decide) (ex_call rfl (by simp [eval_slot (hF 28 (by decide)), eval_slot (hF 30 (by decide))]) e4) (KS2.out wx (STC.out.below hG.below) (STA.out.below hG.below)) ?_ hG.below hG.new
                rintro e w1 ⟨rfl, hd1⟩
                rw [decLks]
                exact ⟨_, rfl, hd1, .inl rfl⟩
              · exact rv rfl rfl rfl hz rfl (ex_pick_yes rfl (ev hF 26 rfl rfl) (ev hF 31 rfl rfl)) hG
              · exact rv rfl rfl rfl hz rfl (ex_move (Or.inl rfl) (ev hF 32 rfl rfl)) hG
              · refine rol_call rfl (want_yes rfl rfl (hF 33 (by decide))) rfl (by rw [hz]; decide) (ex_call rfl (by simp) e5) (kawake_any wx) ?_ hG.below hG.new
                rintro e w1 ⟨rfl, hd1⟩
                exact ⟨_, rfl, hd1, .inl rfl⟩
              · exact rv rfl rfl rfl hz rfl (ex_pick_yes rfl (ev hF 33 rfl rfl) (ev hF 34 rfl rfl)) hG
              · exact rv rfl rfl rfl hz rfl (ex_move (Or.inr rfl) (ev hF 35 rfl rfl)) hG
            · intro a wx who hG hF
              have fv6 : a.tmps.getD 6 undef = .bool true := eval_slot (s := 6) (hF 36 (of_decide_eq_true (by kernel_rfl)) (of_decide_eq_true (by kernel_rfl)))
              have hbx := hG.below
              have hnx := hG.new
              rw [hG.frame]
              simp only [List.foldl_cons, List.foldl_nil, List.setIfInBounds_toArray, List.set_cons_zero, List.set_cons_succ]
              rw [fv6]
              generalize Array.getD a.tmps = uu
              clear hF hG fv6
              replace BB := Lib.hid (below_step BB.out hbx)
              clear hbx hnx
              go_wp2
              go_ret
              exact ⟨rfl, BB.out⟩

theorem own : ownKnob Try.prog.godebug = none := by kernel_rfl
theorem laidOut : laidOutB Try.prog = true := by kernel_rfl

set_option maxRecDepth 100000 in
theorem lifted (os : Os) (started : os.Started) (H : Type) (enc : TypeId × Value → H) :
    ReturnsInHanded {} Try.checked os 3 .any (Rows.lackOrderSpec.pre6 enc Try.prog Try.f3 Rows.lackOrderRow.domain false) (Rows.lackOrderSpec.post enc Try.prog Try.f3 false true false false) := by
  refine returnsInHanded_of_change (C := Try.checked) own started (by kernel_rfl) Try.func3
    (ChangeSpec.witness6 (enc := enc) (C := Try.checked) false ⟨#[], #[.slice none 0 0, .slice none 0 0, .slice none 0 0], []⟩ 8 (by kernel_rfl) (by kernel_rfl) (by kernel_rfl) (by kernel_rfl)) ?_
  intro W base args ds gs before hval0 hW hcnd _
  have hval : ∀ (j : Nat) t v, Try.f3.params[j]? = some t → args[j]? = some v → Value.okWide Try.prog W .any base t v := hval0
  have hW' := hW
  obtain ⟨p, q, hA0, hV, rfl, hfz, hnd⟩ := hW
  have hA : DataW.TrodAll enc Try.prog W 0 (fun _ => true) true Try.f3.params.toList args.toList ds p := hA0
  rw [Try.params3] at hA hval
  obtain ⟨v0, vs0, d0, ds0, p0, q0, hargs, rfl, rfl, h0, r0⟩ := trodAll_cons hA
  obtain ⟨v1, vs1, d1, ds1, p1, q1, rfl, rfl, rfl, h1, r1⟩ := trodAll_cons r0
  obtain ⟨v2, vs2, d2, ds2, p2, q2, rfl, rfl, rfl, h2, r2⟩ := trodAll_cons r1
  obtain ⟨rfl, rfl, rfl⟩ := trodAll_nil r2
  obtain rfl : args = #[v0, v1, v2] := by cases args; simp_all
  obtain ⟨rfl, rfl⟩ := trodVars_none hV
  obtain ⟨a0, len0, cap0, rfl⟩ := okWide_slice Try.underlying22 (hval 0 22 v0 rfl rfl)
  have k0 := h0
  have lt0 : ∀ x ∈ p0, x.block < W.heap.size := by obtain ⟨m, hm⟩ := k0; exact DataW.trod_lt m _ _ _ hm
  obtain ⟨z0, w0⟩ : ∃ zs, Nds W (.slice a0 len0 cap0) zs ∧ ∀ n ∈ zs, fitsN n := by
    obtain ⟨fuel, hf⟩ := h0
    exact nds_open (by simpa [Value.cells] using hf)
  obtain ⟨a1, len1, cap1, rfl⟩ := okWide_slice Try.underlying22 (hval 1 22 v1 rfl rfl)
  have k1 := h1
  have lt1 : ∀ x ∈ p1, x.block < W.heap.size := by obtain ⟨m, hm⟩ := k1; exact DataW.trod_lt m _ _ _ hm
  obtain ⟨z1, w1⟩ : ∃ zs, Nds W (.slice a1 len1 cap1) zs ∧ ∀ n ∈ zs, fitsN n := by
    obtain ⟨fuel, hf⟩ := h1
    exact nds_open (by simpa [Value.cells] using hf)
  obtain ⟨a2, len2, cap2, rfl⟩ := okWide_slice Try.underlying23 (hval 2 23 v2 rfl rfl)
  have k2 := h2
  have lt2 : ∀ x ∈ p2, x.block < W.heap.size := by obtain ⟨m, hm⟩ := k2; exact DataW.trod_lt m _ _ _ hm
  obtain ⟨z2, w2⟩ : ∃ zs, Nes W (.slice a2 len2 cap2) zs ∧ ∀ e ∈ zs, fitNe e := by
    obtain ⟨fuel, hf⟩ := h2
    exact nes_open (by simpa [Value.cells] using hf)
  clear hA0 hval0
  refine (walk _ z0 _ z1 _ z2 W w0 w1 w2).mono fun e W' ⟨he, bel⟩ => ?_
  subst he
  exact ⟨_, rfl, _, _, _, [], _, [], hW', trodAll_mk1 (shut_bool Try.underlying4 _), (trodAll_cons_mk (Below.trod laidOut (by kernel_rfl) (of_decide_eq_true (by kernel_rfl)) k0 bel lt0) (trodAll_cons_mk (Below.trod laidOut (by kernel_rfl) (of_decide_eq_true (by kernel_rfl)) k1 bel lt1) (trodAll_cons_mk (Below.trod laidOut (by kernel_rfl) (of_decide_eq_true (by kernel_rfl)) k2 bel lt2) trodAll_mk0))), rfl, bel.frame _, fun h => by cases h⟩

-- the given statement
theorem proved : Rows.LackOrderSaid :=
  OpenClaim.holds_of_wide 3 Try.f3 rfl rfl rfl rfl rfl rfl rfl ⟨rfl, rfl, rfl, rfl, rfl⟩ rfl rfl rfl rfl rfl (by kernel_rfl) Try.func3 (by kernel_rfl)
    (of_decide_eq_true (by kernel_rfl)) (by unfold Func.isWrapper; first | (rw [if_pos (by decide +kernel)]; kernel_rfl) | (rw [if_neg (by decide +kernel)]; exact ⟨rfl, rfl⟩))
    (fun os started H enc _ => lifted os started H enc)
end Go.Proofs.Ytjnkjjlpkgbkiaa.lackOrder
