/- Of every two needs and every node (no more, and no longer, than are looked at): needs more make no chain longer; in whatever order they are told, and however often, the chain is the same; no condition. -/
import Derived.Test.YtdefphacdcbljaaRows
import Derived.Test.YtdefphacdcbljaaWhyZ
import Derived.ProofKit
import Derived.OpenShut
import Derived.ShutString
import Derived.ChangeOld
namespace Go.Proofs.Ytdefphacdcbljaa.whyMore
open Go.ChangeShapes Go.WideShapes Go.ChangeAt Go.RowKit
open Go.ChangeMaps (open_string shut_string)
set_option maxRecDepth 100000
set_option linter.unusedVariables false

theorem decNds (l : List Nd) : decide (l = l) = true := decide_eq_true rfl
theorem decDps (l : List Dp) : decide (l = l) = true := decide_eq_true rfl
set_option maxRecDepth 100000 in
set_option maxHeartbeats 3200000 in
theorem walk (D : Value) (d0 : List Ne) (M : Value) (m0 : List Ne) (Q : Value) (q : Nd) (w : World) (hD : Nes w D d0 ∧ ∀ e ∈ d0, fitNe e) (hM : Nes w M m0 ∧ ∀ e ∈ m0, fitNe e) (hQ : Q = .agg #[.string (mkB q.1), .string (mkB q.2)] ∧ fitsN q) :
    Calls Try.prog 5 #[D, M, Q] w fun e w' => e = .returned (.bool true) ∧ Below w.heap.size w w' := by
  obtain ⟨hD, fD⟩ := hD
  obtain ⟨AD, cD, rfl, -⟩ := hD.ex
  have kfD := fun V w h => lfewo_any V d0 w h fD
  have hml := fewK_len d0; have hmz := fewK_small d0
  obtain ⟨mD, hmD⟩ : ∃ r, d0.length = r := ⟨_, rfl⟩
  rw [hmD] at hD ⊢
  obtain ⟨d, hd⟩ : ∃ r, fewK d0 = r := ⟨_, rfl⟩
  rw [hd] at kfD hml hmz
  obtain ⟨nd, hnd⟩ : ∃ r, d.length = r := ⟨_, rfl⟩
  rw [hnd] at hml kfD
  have hsz : ∀ x ∈ d, smallNe x := hmz
  have SUD := Lib.hid hD; have KFD := Lib.hid kfD; have HZD := Lib.hid hsz; have HND := Lib.hid hnd
  clear hD fD kfD hmz hsz hmD hd hnd
  obtain ⟨hM, fM⟩ := hM
  obtain ⟨AM, cM, rfl, -⟩ := hM.ex
  have kfM := fun V w h => lfewo_any V m0 w h fM
  have hmlM := fewK_len m0; have hmzM := fewK_small m0
  obtain ⟨mM, hmM⟩ : ∃ r, m0.length = r := ⟨_, rfl⟩
  rw [hmM] at hM ⊢
  obtain ⟨m, hm⟩ : ∃ r, fewK m0 = r := ⟨_, rfl⟩
  rw [hm] at kfM hmlM hmzM
  obtain ⟨nm, hnm⟩ : ∃ r, m.length = r := ⟨_, rfl⟩
  rw [hnm] at hmlM kfM
  have hszM : ∀ x ∈ m, smallNe x := hmzM
  have SUM := Lib.hid hM; have KFM := Lib.hid kfM; have HZM := Lib.hid hszM; have HNM := Lib.hid hnm
  clear hM fM kfM hmzM hszM hmM hm hnm
  obtain ⟨rfl, fq⟩ := hQ
  obtain ⟨pq, vq⟩ := q
  simp only at fq ⊢
  have hsq := oneN_small (pq, vq)
  have hoq := fun w => one_any pq vq w fq.1 fq.2
  obtain ⟨q1, hq1⟩ : ∃ r, fewL pq = r := ⟨_, rfl⟩
  obtain ⟨q2, hq2⟩ : ∃ r, fewL vq = r := ⟨_, rfl⟩
  have hsq2 : smallN (q1, q2) := by rw [← hq1, ← hq2]; exact hsq
  rw [hq1, hq2] at hoq
  obtain ⟨W, gq, hW, hg, r1, hb⟩ := boxHK w (.string (mkB pq)) (.string (mkB vq)) 24
  have HSQ := Lib.hid hsq2; have HOQ := Lib.hid hoq; have HLQ := Lib.hid (show w.heap.size ≤ gq by omega); have HW := Lib.hid hW; have HG := Lib.hid hg; have RQ := Lib.hid r1; have BB := Lib.hid hb
  clear hsq hsq2 hoq hq1 hq2 hW hg r1 hb fq
  have hd2l : (dupK d).length = nd * 2 := by rw [dupK_len, HND.out]
  have hd2s : ∀ x ∈ dupK d, smallNe x := fun x hx => HZD.out x ((dupK_mem d x).1 hx)
  have hxs : ∀ x ∈ dupK d ++ m, smallNe x := fun x hx => (List.mem_append.1 hx).elim (hd2s x) (HZM.out x)
  obtain ⟨nk, hnk⟩ : ∃ r, nd * 2 = r := ⟨_, rfl⟩
  rw [hnk] at hd2l
  have hxl : (dupK d ++ m).length = nk + nm := by rw [List.length_append, hd2l, HNM.out]
  have kch := fun V w h => wchain_any V d q1 q2 w h HZD.out (by rw [HND.out]; omega) HSQ.out
  have kc2 := fun V w h => wchain_any V (dupK d) q1 q2 w h hd2s (by rw [hd2l]; omega) HSQ.out
  have kcx := fun V w h => wchain_any V (dupK d ++ m) q1 q2 w h hxs (by rw [hxl]; omega) HSQ.out
  have kma := fun V w h => refmayK_any V (dupK d ++ m) w h hxs
  have kmn := fun w => refnmay_any q1 q2 w HSQ.out.1 HSQ.out.2
  obtain ⟨PC, hPC⟩ : ∃ E, chainE d (q1, q2) = E := ⟨_, rfl⟩
  obtain ⟨PX, hPX⟩ : ∃ E, chainE (dupK d ++ m) (q1, q2) = E := ⟨_, rfl⟩
  rw [dupK_chain, hPC] at kc2
  rw [hPC] at kch
  rw [hPX] at kcx
  obtain ⟨C, ck⟩ := PC
  obtain ⟨Cx, xk⟩ := PX
  simp only at kch kc2 kcx
  have hck := chain_errs hPC
  have hxk := chain_errs hPX
  have hmo : ck = 0 → xk = 1 ∨ (xk = 0 ∧ Cx.length ≤ C.length) := fun e => by subst e; exact chain_more hPC hPX
  have her : xk = 1 → mayK (dupK d ++ m) = true → okN (q1, q2) = false := fun e => by subst e; exact chain_err1 hPX
  obtain ⟨nc, hnc⟩ : ∃ r, C.length = r := ⟨_, rfl⟩
  obtain ⟨nx, hnx⟩ : ∃ r, Cx.length = r := ⟨_, rfl⟩
  rw [hnc] at kch kc2 hmo
  rw [hnx] at kcx hmo
  have hnk6 : nk ≤ 60 := by omega
  have KCH := Lib.hid kch; have KC2 := Lib.hid kc2; have KCX := Lib.hid kcx; have KMA := Lib.hid kma; have KMN := Lib.hid kmn; have HCK := Lib.hid hck; have HXK := Lib.hid hxk; have HMO := Lib.hid hmo; have HER := Lib.hid her; have HNC := Lib.hid hnc; have HD2 := Lib.hid hd2l; have HNX := Lib.hid hxl; have HNKE := Lib.hid hnk
  clear kch kc2 kcx kma kmn hck hxk hmo her hnc hnx hd2l hd2s hxs hxl hPC hPX hnk
  have ed : ∀ args w, (callFunc 6 args).run Try.prog w = .ok (.enter 6 args) w := enters_of Try.func6 (by kernel_rfl) rfl
  have e2 : ∀ args w, (callFunc 7 args).run Try.prog w = .ok (.enter 7 args) w := enters_of Try.func7 (by kernel_rfl) rfl
  have e8 : ∀ args w, (callFunc 8 args).run Try.prog w = .ok (.enter 8 args) w := enters_of Try.func8 (by kernel_rfl) rfl
  go_enter Try.func5, Try.ntmps5
  go_upto_region 1 with fail
  rw [HW.out, HG.out]
  refine rol_run (by kernel_rfl) [[], [0], [], [0, 1, 2], [], [0, 1, 2, 3, 4], [0, 1, 2, 3, 4, 5], [0, 1, 2, 3, 4, 5, 6], [0, 1, 2, 3, 4, 5, 6, 7]] (by kernel_rfl) [15, 16, 17, 18, 19, 20, 0, 1] [[10], [0], [11], [2], [9], [4], [1], [3], [5, 9]] [0, 1, 0, 2, 0, 0, 1, 2, 5, 5, 0, 0] [0, 0, 0, 0, 0, 0, 0, 0, 5] [1000, 1000, 1000, 1000, 1000, 1000, 1000, 1000, 1000, 8, 6, 7] [.val 15 (.slice AD mD cD), .mem 16 (rowG W.heap.size 39 4 nd (neC d)), .val 17 (.slice AM mM cM), .mem 18 (rowG W.heap.size 39 4 nm (neC m)), .val 19 (.agg #[.string (mkB pq), .string (mkB vq)]), .val 20 (.agg #[.string (mkB q1), .string (mkB q2)]), .mem 0 (rowG W.heap.size 39 4 nd (neC d)), .mem 1 (rowG W.heap.size 39 4 nm (neC m)), .box (gq) (.cells #[.string (mkB q1), .string (mkB q2)] 24), .box (gq) (.cells #[.string (mkB pq), .string (mkB vq)] 24), .val 0 (.slice AD mD cD), .val 1 (.slice AM mM cM)] (by kernel_rfl) ?_ (w.heap.size) (W.heap.size) rfl BB.out rfl (fun k => if k = gq then 5 else 7) ?_ ?_ ?_
  · intro j hj
    have hj3 : j < 12 := hj
    have hj2 : j = 0 ∨ j = 1 ∨ j = 2 ∨ j = 3 ∨ j = 4 ∨ j = 5 ∨ j = 6 ∨ j = 7 ∨ j = 8 ∨ j = 9 ∨ j = 10 ∨ j = 11 := by omega
    clear hj hj3
    rcases hj2 with rfl | rfl | rfl | rfl | rfl | rfl | rfl | rfl | rfl | rfl | rfl | rfl
    · exact trivial
    · exact rowG_near
    · exact trivial
    · exact rowG_near
    · exact trivial
    · exact trivial
    · exact rowG_near
    · exact rowG_near
    · exact trivial
    · exact trivial
    · exact trivial
    · exact trivial
  · intro j hj0 hj
    have hj1 : 9 ≤ j := hj0
    have hj3 : j < 12 := hj
    have hj2 : j = 9 ∨ j = 10 ∨ j = 11 := by omega
    clear hj0 hj hj1 hj3
    rcases hj2 with rfl | rfl | rfl
    · exact ⟨RQ.out, if_pos rfl⟩
    · exact rfl
    · exact rfl
  · intro i hi a wx who hG hF
    have hz : a.tmps.size = 103 := hG.size
    have hi3 : i < 9 := hi
    have hi2 : i = 0 ∨ i = 1 ∨ i = 2 ∨ i = 3 ∨ i = 4 ∨ i = 5 ∨ i = 6 ∨ i = 7 ∨ i = 8 := by omega
    clear hi hi3
    rcases hi2 with rfl | rfl | rfl | rfl | rfl | rfl | rfl | rfl | rfl
    · exact rol_val rfl rfl rfl (by rw [hz]; decide) (ex_move (Or.inl rfl) (eval_slot (hF 10 (by decide)))) hG.below
    · refine rol_calls rfl rfl rfl (by rw [hz]; decide) (ex_call rfl (by simp [eval_slot (hF 0 (by decide))]) ed) (KFD.out _ wx (SUD.out.below hG.below)) ?_ hG.below (Nat.le_trans BB.out.size hG.new)
      rintro e w1 ⟨u, rfl, hso, hb1⟩
      exact ⟨u, rfl, hb1, .inr (.inl ⟨_, u.ownBlock, rfl, fun b e => own_lt hso e, row_base hso hG.new, rfl⟩)⟩
    · exact rol_val rfl rfl rfl (by rw [hz]; decide) (ex_move (Or.inl rfl) (eval_slot (hF 11 (by decide)))) hG.below
    · refine rol_calls rfl rfl rfl (by rw [hz]; decide) (ex_call rfl (by simp [eval_slot (hF 2 (by decide))]) ed) (KFM.out _ wx (SUM.out.below hG.below)) ?_ hG.below (Nat.le_trans BB.out.size hG.new)
      rintro e w1 ⟨u, rfl, hso, hb1⟩
      exact ⟨u, rfl, hb1, .inr (.inl ⟨_, u.ownBlock, rfl, fun b e => own_lt hso e, row_base hso hG.new, rfl⟩)⟩
    · exact rol_val rfl rfl rfl (by rw [hz]; decide) (ex_load rfl (eval_slot ((hG.slots 5 (by decide)).trans rfl)) (ld_node (row2 (hF 9 (by decide)).1).1 (row2 (hF 9 (by decide)).1).2.1)) hG.below
    · refine rol_calls rfl rfl rfl (by rw [hz]; decide) (ex_call rfl (by simp [eval_slot (hF 4 (by decide))]) e2) (HOQ.out wx) ?_ hG.below (Nat.le_trans BB.out.size hG.new)
      rintro e w1 ⟨rfl, hb1⟩
      exact ⟨_, rfl, hb1, .inl rfl⟩
    · exact rol_move rfl rfl rfl (by rw [hz]; decide) (Or.inr rfl) (hF 1 (by decide)) hG.below
    · exact rol_move rfl rfl rfl (by rw [hz]; decide) (Or.inr rfl) (hF 3 (by decide)) hG.below
    · exact rol_box_ndK rfl rfl rfl rfl (eval_slot ((hG.slots 5 (by decide)).trans rfl)) (eval_slot (hF 5 (by decide))) (hF 9 (by decide)) hG.below HLQ.out
  · intro a wx who hG hF
    obtain ⟨v0, ob0, fv0, fo0, fp0⟩ := hF 6 (of_decide_eq_true (by kernel_rfl)) (of_decide_eq_true (by kernel_rfl))
    replace fv0 : a.tmps.getD 0 undef = v0 := eval_slot (s := 0) fv0
    obtain ⟨v1, ob1, fv1, fo1, fp1⟩ := hF 7 (of_decide_eq_true (by kernel_rfl)) (of_decide_eq_true (by kernel_rfl))
    replace fv1 : a.tmps.getD 1 undef = v1 := eval_slot (s := 1) fv1
    have hbq := hF 8 (of_decide_eq_true (by kernel_rfl)) (of_decide_eq_true (by kernel_rfl))
    have hbx := hG.below
    have hnx := hG.new
    rw [hG.frame]
    simp only [List.foldl_cons, List.foldl_nil, List.setIfInBounds_toArray, List.set_cons_zero, List.set_cons_succ]
    generalize a.tmps.getD 15 undef = u15
    generalize a.tmps.getD 16 undef = u16
    generalize a.tmps.getD 17 undef = u17
    generalize a.tmps.getD 18 undef = u18
    generalize a.tmps.getD 19 undef = u19
    generalize a.tmps.getD 20 undef = u20
    rw [fv0]
    rw [fv1]
    clear hF hG fv0 fv1
    obtain ⟨aD, eD, rfl, hd⟩ := nesO (by rw [HND.out]; exact fp0.1)
    rw [HND.out] at hd ⊢
    have SD := Lib.hid hd
    clear hd
    obtain ⟨aM, eM, rfl, hd⟩ := nesO (by rw [HNM.out]; exact fp1.1)
    rw [HNM.out] at hd ⊢
    have SM := Lib.hid hd
    clear hd
    obtain ⟨qx0, qx1, -, -⟩ := row2 hbq.1
    replace BB := Lib.hid hbx
    clear fo0 fp0 fo1 fp1 hbq hbx hnx RQ HOQ HW HG HLQ e2 ed SUD KFD SUM KFM
    go_upto_region 3 with (go_at_call 8; refine (KCH.out _ _ SD.out).mono ?_; rintro e w9 ⟨ac, cc, rfl, hd, hb1⟩; replace qx0 := cell_keep qx0 hb1; replace qx1 := cell_keep qx1 hb1; replace SD := Lib.hid (SD.out.below hb1); replace SM := Lib.hid (SM.out.below hb1); replace BB := Lib.hid (below_step BB.out hb1); have Sc := Lib.hid hd; clear hd hb1 KCH)
    have hs0 : IntKind.i64.wrap ((nd : Int) - 1) = (nd : Int) - 1 := IntWalk.i64_in _ (by omega)
    obtain ⟨W8, hW8⟩ : ∃ v, v = w9 := ⟨_, rfl⟩
    subst hW8
    go_wp2
    go_loopw [9, 10] (fun bk i wr => ∃ (u : Value) (t : Nat) (acc : List Ne), u = bk ∧ t ≤ nd ∧ i = .int .i64 ((t : Int) - 1) ∧ acc.length = (nd - t) * 2 ∧ Hid (acc = dupK (d.drop t)) ∧ wr.ownsRow W8.heap.size 39 4 u acc.length (neC acc) ∧ Hid (Below W8.heap.size W8 wr)) (fun _ i _ => (intOf i + 1).toNat)
    case atStart => exact ⟨_, nd, [], rfl, Nat.le_refl _, rfl, by simp, Lib.hid (by rw [← HND.out, dupK_end]), World.ownsRow_nil _ _ _ _, Lib.hid (Below.refl _ _)⟩
    case round =>
      obtain ⟨u9, t, acc, rfl, htk, rfl, hal, HA, hown, HB⟩ := hrel
      clear hs0
      cases t with
      | succ j =>
        have e0 : ((j + 1 : Nat) : Int) - 1 = (j : Int) := by omega
        rw [e0]
        have hjl : j < d.length := by rw [HND.out]; omega
        obtain ⟨bd, od, rfl, -, cd0, cd1, cd2, cd3⟩ := SD.out.at j hjl
        have hst := dupK_step hjl
        obtain ⟨z, hz⟩ : ∃ z, z = d.getD j zNe := ⟨_, rfl⟩
        rw [← hz] at cd0 cd1 cd2 cd3 hst
        obtain ⟨⟨z1, z2⟩, z3, z4⟩ := z
        simp only at cd0 cd1 cd2 cd3
        obtain ⟨L2, hl2⟩ : ∃ L, L = acc ++ [((z1, z2), (z3, z4)), ((z1, z2), (z3, z4))] := ⟨_, rfl⟩
        have HL2E := Lib.hid hl2; have HOWN := Lib.hid hown; have HJ := Lib.hid (show j < nd by omega); have HBS := Lib.hid HB.out.size; have HAL := Lib.hid (show acc.length ≤ 1000 by omega)
        have HLN := Lib.hid (show L2.length = (nd - j) * 2 by rw [hl2, List.length_append, hal]; simp; omega)
        have HST := Lib.hid (show L2 = dupK (d.drop j) by rw [hst, hl2, HA.out])
        have CD0 := Lib.hid cd0; have CD1 := Lib.hid cd1; have CD2 := Lib.hid cd2; have CD3 := Lib.hid cd3; have HE0 := Lib.hid e0
        have hge : (0 : Int) ≤ (j : Int) := by omega
        have hwj : IntKind.i64.wrap ((j : Int) - 1) = (j : Int) - 1 := IntWalk.i64_in _ (by omega)
        clear hst hz hown hjl e0 hl2 hal cd0 cd1 cd2 cd3
        go_upto_region 7 with fail
        refine rol_run (by kernel_rfl) [[], [], [], [1, 2], [1, 2, 3], [], [], [5, 6], [5, 6, 7], [1, 2, 3, 4, 5, 6, 7, 8], [0, 1, 2, 3, 4, 5, 6, 7, 8, 9], [0, 1, 2, 3, 4, 5, 6, 7, 8, 9, 10]] (by kernel_rfl) [34, 35, 36, 37, 38, 39, 40, 41, 42, 43, 44, 9] [[13], [], [], [1, 2], [3], [], [], [5, 6], [7], [4, 8], [0, 9, 12], [10]] [0, 0, 0, 0, 0, 0, 0, 0, 0, 5, 1, 1, 1, 0] [0, 0, 0, 0, 0, 0, 0, 0, 0, 0, 1, 0] [1000, 1000, 1000, 1000, 1000, 1000, 1000, 1000, 1000, 1000, 1000, 1000, 10, 11] [.val 34 (u9), .val 35 (.slice (some ⟨bd, od, none⟩) nd eD), .val 36 (.int .i64 (j : Int)), .val 37 (.pointer (some ⟨bd, od + j * 4, none⟩)), .val 38 (.agg #[.string (mkB z1), .string (mkB z2), .string (mkB z3), .string (mkB z4)]), .val 39 (.slice (some ⟨bd, od, none⟩) nd eD), .val 40 (.int .i64 (j : Int)), .val 41 (.pointer (some ⟨bd, od + j * 4, none⟩)), .val 42 (.agg #[.string (mkB z1), .string (mkB z2), .string (mkB z3), .string (mkB z4)]), .mem 43 (blkG 39 #[.string (mkB z1), .string (mkB z2), .string (mkB z3), .string (mkB z4), .string (mkB z1), .string (mkB z2), .string (mkB z3), .string (mkB z4)] 2), .mem 44 (rowG W8.heap.size 39 4 L2.length (neC L2)), .mem 9 (rowG W8.heap.size 39 4 L2.length (neC L2)), .mem 9 (rowX u9 (W8.heap.size) 39 4 acc.length (neC acc)), .val 9 (u9)] (by kernel_rfl) ?_ (W8.heap.size) (wr.heap.size) rfl HB.out rfl (fun k => if Value.ownBlock u9 = some k then 1 else 0) ?_ ?_ ?_
        · intro j hj
          have hj3 : j < 14 := hj
          have hj2 : j = 0 ∨ j = 1 ∨ j = 2 ∨ j = 3 ∨ j = 4 ∨ j = 5 ∨ j = 6 ∨ j = 7 ∨ j = 8 ∨ j = 9 ∨ j = 10 ∨ j = 11 ∨ j = 12 ∨ j = 13 := by omega
          clear hj hj3
          rcases hj2 with rfl | rfl | rfl | rfl | rfl | rfl | rfl | rfl | rfl | rfl | rfl | rfl | rfl | rfl
          · exact trivial
          · exact trivial
          · exact trivial
          · exact trivial
          · exact trivial
          · exact trivial
          · exact trivial
          · exact trivial
          · exact trivial
          · exact blkG_near
          · exact rowG_near
          · exact rowG_near
          · exact rowX_near
          · exact trivial
        · intro j hj0 hj
          have hj1 : 12 ≤ j := hj0
          have hj3 : j < 14 := hj
          have hj2 : j = 12 ∨ j = 13 := by omega
          clear hj0 hj hj1 hj3
          rcases hj2 with rfl | rfl
          · exact ⟨_, _, rfl, fun b e => ⟨(own_lt HOWN.out e).2, if_pos e⟩, HOWN.out, rfl⟩
          · exact rfl
        · intro i hi a wx who hG hF
          have hz : a.tmps.size = 103 := hG.size
          have hi3 : i < 12 := hi
          have hi2 : i = 0 ∨ i = 1 ∨ i = 2 ∨ i = 3 ∨ i = 4 ∨ i = 5 ∨ i = 6 ∨ i = 7 ∨ i = 8 ∨ i = 9 ∨ i = 10 ∨ i = 11 := by omega
          clear hi hi3
          rcases hi2 with rfl | rfl | rfl | rfl | rfl | rfl | rfl | rfl | rfl | rfl | rfl | rfl
          · exact rol_val rfl rfl rfl (by rw [hz]; decide) (ex_move (Or.inl rfl) (eval_slot (hF 13 (by decide)))) hG.below
          · exact rol_val rfl rfl rfl (by rw [hz]; decide) (ex_move (Or.inl rfl) (eval_slot ((hG.slots 0 (by decide)).trans rfl))) hG.below
          · exact rol_val rfl rfl rfl (by rw [hz]; decide) (ex_move (Or.inl rfl) (eval_slot ((hG.slots 10 (by decide)).trans rfl))) hG.below
          · exact rol_val rfl rfl rfl (by rw [hz]; decide) (ex_index rfl (eval_slot (hF 1 (by decide))) (eval_slot (hF 2 (by decide))) (idx_ne HJ.out)) hG.below
          · exact rol_val rfl rfl rfl (by rw [hz]; decide) (ex_load rfl (eval_slot (hF 3 (by decide))) (ld_ne (cell_keep CD0.out hG.below) (cell_keep CD1.out hG.below) (cell_keep CD2.out hG.below) (cell_keep CD3.out hG.below))) hG.below
          · exact rol_val rfl rfl rfl (by rw [hz]; decide) (ex_move (Or.inl rfl) (eval_slot ((hG.slots 0 (by decide)).trans rfl))) hG.below
          · exact rol_val rfl rfl rfl (by rw [hz]; decide) (ex_move (Or.inl rfl) (eval_slot ((hG.slots 10 (by decide)).trans rfl))) hG.below
          · exact rol_val rfl rfl rfl (by rw [hz]; decide) (ex_index rfl (eval_slot (hF 5 (by decide))) (eval_slot (hF 6 (by decide))) (idx_ne HJ.out)) hG.below
          · exact rol_val rfl rfl rfl (by rw [hz]; decide) (ex_load rfl (eval_slot (hF 7 (by decide))) (ld_ne (cell_keep CD0.out hG.below) (cell_keep CD1.out hG.below) (cell_keep CD2.out hG.below) (cell_keep CD3.out hG.below))) hG.below
          · exact rol_newO rfl rfl rfl (by rw [hz]; decide) (x := .cells #[.string (mkB z1), .string (mkB z2), .string (mkB z3), .string (mkB z4), .string (mkB z1), .string (mkB z2), .string (mkB z3), .string (mkB z4)] 39) (v := .slice (some ⟨wx.heap.size, 0, none⟩) 2 2) (ex_slice rfl (vs := #[(0, .agg #[.string (mkB z1), .string (mkB z2), .string (mkB z3), .string (mkB z4)]), (1, .agg #[.string (mkB z1), .string (mkB z2), .string (mkB z3), .string (mkB z4)])]) (by simp only [List.map_toArray, List.map_cons, List.map_nil, eval_slot (hF 4 (by decide)), eval_slot (hF 8 (by decide))]) (by go_simp)) ⟨_, rfl, rfl, heap_alloc_new _ _⟩ hG.below (Nat.le_trans HBS.out hG.new)
          · obtain ⟨v, ob, hv, hob, b, rfl, rfl, hh⟩ := hF 9 (by decide)
            exact rol_app_ne rfl rfl rfl (by rw [hz]; decide) rfl (hF 12 (by decide)) (eval_slot (hF 0 (by decide))) (eval_slot hv) (nes_blkK (l := [((z1, z2), (z3, z4)), ((z1, z2), (z3, z4))]) hh rfl (by decide)) (by have := HAL.out; omega) hG.below (Nat.le_refl _) (Nat.le_trans HBS.out hG.new) (by rw [HL2E.out, List.length_append]; rfl) HL2E.out
          · exact rol_move rfl rfl rfl (by rw [hz]; decide) (Or.inr rfl) (hF 10 (by decide)) hG.below
        · intro a wx who hG hF
          obtain ⟨v9, ob9, fv9, fo9, fp9⟩ := hF 11 (of_decide_eq_true (by kernel_rfl)) (of_decide_eq_true (by kernel_rfl))
          replace fv9 : a.tmps.getD 9 undef = v9 := eval_slot (s := 9) fv9
          have hbx := hG.below
          have hnx := hG.new
          rw [hG.frame]
          simp only [List.foldl_cons, List.foldl_nil, List.setIfInBounds_toArray, List.set_cons_zero, List.set_cons_succ]
          generalize a.tmps.getD 34 undef = u34
          generalize a.tmps.getD 35 undef = u35
          generalize a.tmps.getD 36 undef = u36
          generalize a.tmps.getD 37 undef = u37
          generalize a.tmps.getD 38 undef = u38
          generalize a.tmps.getD 39 undef = u39
          generalize a.tmps.getD 40 undef = u40
          generalize a.tmps.getD 41 undef = u41
          generalize a.tmps.getD 42 undef = u42
          generalize a.tmps.getD 43 undef = u43
          generalize a.tmps.getD 44 undef = u44
          rw [fv9]
          clear hF hG fv9
          obtain ⟨hrow, -⟩ := fp9
          have HRW := Lib.hid hrow; have HBN := Lib.hid hbx
          clear fo9 hrow hbx hnx
          go_wp2
          go_roundw
          case rel => exact ⟨_, j, L2, rfl, by omega, rfl, HLN.out, HST, HRW.out, HBN⟩
          case measure => simp [intOf]
      | zero =>
        have e0 : ((0 : Nat) : Int) - 1 = -1 := rfl
        rw [e0]
        have hac := HA.out
        rw [List.drop_zero] at hac
        subst hac
        rw [HD2.out] at hown
        obtain ⟨aK, cK, rfl, hK⟩ := nesO (by rw [HD2.out]; exact hown)
        rw [HD2.out] at hK hown ⊢
        have QX0 := Lib.hid qx0; have QX1 := Lib.hid qx1; have SM8 := Lib.hid SM.out
        have HB8 := Lib.hid HB.out
        replace qx0 := cell_keep qx0 HB.out; replace qx1 := cell_keep qx1 HB.out
        replace Sc := Lib.hid (Sc.out.below HB.out)
        have SK := Lib.hid hK; have HOB0 := Lib.hid hown
        clear e0 hK hown hal HA
        go_upto_region 9 with (go_at_call 8; refine (KC2.out _ _ SK.out).mono ?_; rintro e w9 ⟨ab, cb, rfl, hd, hb1⟩; have Sb := Lib.hid hd; replace Sc := Lib.hid (Sc.out.below hb1); have HOB := Lib.hid (ownsRow_belowB HOB0.out hb1); replace HB := Lib.hid (HB.out.trans (hb1.mono HB.out.size)); clear hd hb1 KC2)
        clear SK HOB0
        go_upto_region 11 with (go_at_call 12; refine (nsame_any _ _ _ _ _ Sb.out Sc.out).mono ?_; rintro e w9 ⟨rfl, hb1⟩; rw [decNds]; replace HOB := Lib.hid (ownsRow_belowB HOB.out hb1); replace HB := Lib.hid (HB.out.trans (hb1.mono HB.out.size)); clear hb1)
        obtain ⟨wr, hwr⟩ : ∃ v, v = w9 := ⟨_, rfl⟩
        subst hwr
        have HBS := Lib.hid HB.out.size; have HKM := Lib.hid (show nk + nm ≤ 1000 by omega)
        clear Sb Sc qx0 qx1
        go_upto_region 11 with fail
        refine rol_run (by kernel_rfl) [[], [], [0, 1], [], [0, 1, 2, 3], [0, 1, 2, 3, 4], [0, 1, 2, 3, 4, 5], [0, 1, 2, 3, 4, 5], [0, 1, 2, 3, 4, 5, 6], [0, 1, 2, 3, 4, 5, 6, 7, 8]] (by kernel_rfl) [61, 62, 63, 64, 65, 60, 66, 67, 13, 14] [[], [], [0, 1, 10], [], [2, 3], [4], [5], [5], [6], [7]] [0, 0, 1, 0, 2, 2, 2, 0, 2, 0, 1] [0, 0, 1, 0, 0, 0, 0, 0, 0, 0] [1000, 1000, 1000, 1000, 1000, 1000, 1000, 1000, 1000, 1000, 2] [.val 61 (.slice aK nk cK), .val 62 (.slice aM nm eM), .mems 63 (twoK19 W8.heap.size (nk + nm) (neC (dupK d ++ m)) (.slice aK nk cK) nk (neC (dupK d))), .val 64 (.agg #[.string (mkB q1), .string (mkB q2)]), .mems 65 (tupS19 nx xk), .mems 60 (tupS19 nx xk), .mems 66 (sliS19 nx), .val 67 (.int .i64 xk), .mems 13 (sliS19 nx), .val 14 (.int .i64 xk), .mem 9 (rowX (.slice aK nk cK) (W8.heap.size) 39 4 nk (neC (dupK d)))] (by kernel_rfl) ?_ (W8.heap.size) (wr.heap.size) rfl HB.out rfl (fun k => if Value.ownBlock (.slice aK nk cK) = some k then 1 else 0) ?_ ?_ ?_
        · intro j hj
          have hj3 : j < 11 := hj
          have hj2 : j = 0 ∨ j = 1 ∨ j = 2 ∨ j = 3 ∨ j = 4 ∨ j = 5 ∨ j = 6 ∨ j = 7 ∨ j = 8 ∨ j = 9 ∨ j = 10 := by omega
          clear hj hj3
          rcases hj2 with rfl | rfl | rfl | rfl | rfl | rfl | rfl | rfl | rfl | rfl | rfl
          · exact trivial
          · exact trivial
          · exact twoK19_near
          · exact trivial
          · exact tupS19_near
          · exact tupS19_near
          · exact sliS19_near
          · exact trivial
          · exact sliS19_near
          · exact trivial
          · exact rowX_near
        · intro j hj0 hj
          have hj1 : 10 ≤ j := hj0
          have hj3 : j < 11 := hj
          have hj2 : j = 10 := by omega
          clear hj0 hj hj1 hj3
          rcases hj2 with rfl
          · exact ⟨_, _, rfl, fun b e => ⟨(own_lt HOB.out e).2, if_pos e⟩, HOB.out, rfl⟩
        · intro i hi a wx who hG hF
          have hz : a.tmps.size = 103 := hG.size
          have hi3 : i < 10 := hi
          have hi2 : i = 0 ∨ i = 1 ∨ i = 2 ∨ i = 3 ∨ i = 4 ∨ i = 5 ∨ i = 6 ∨ i = 7 ∨ i = 8 ∨ i = 9 := by omega
          clear hi hi3
          rcases hi2 with rfl | rfl | rfl | rfl | rfl | rfl | rfl | rfl | rfl | rfl
          · exact rol_val rfl rfl rfl (by rw [hz]; decide) (ex_move (Or.inl rfl) (eval_slot ((hG.slots 9 (by decide)).trans rfl))) hG.below
          · exact rol_val rfl rfl rfl (by rw [hz]; decide) (ex_move (Or.inl rfl) (eval_slot ((hG.slots 1 (by decide)).trans rfl))) hG.below
          · exact rol_appk_ne rfl rfl rfl (by rw [hz]; decide) rfl (hF 10 (by decide)) (eval_slot (hF 0 (by decide))) (eval_slot (hF 1 (by decide))) (SM8.out.below hG.below) (by have := HKM.out; omega) hG.below (Nat.le_refl _) (Nat.le_trans HBS.out hG.new)
          · exact rol_val rfl rfl rfl (by rw [hz]; decide) (ex_load rfl (eval_slot ((hG.slots 5 (by decide)).trans rfl)) (ld_node (cell_keep QX0.out hG.below) (cell_keep QX1.out hG.below))) hG.below
          · obtain ⟨v, bs, hv, hbs, h1, h2, h3, h4⟩ := hF 2 (by decide)
            obtain ⟨aX, cX, hvX, hnX⟩ := nesO (by rw [HNX.out]; exact h1)
            rw [hvX] at hv
            rw [HNX.out] at hv hnX
            refine rol_calls rfl rfl rfl (by rw [hz]; decide) (ex_call rfl (by simp [eval_slot hv, eval_slot (hF 3 (by decide))]) e8) (KCX.out _ wx hnX) ?_ hG.below (Nat.le_trans HBS.out hG.new)
            rintro e w1 ⟨a1, c1, rfl, hd1, hb1⟩
            exact ⟨_, rfl, hb1, .inr (.inr ⟨_, (fun _ => False), rfl, fun b e => e.elim, a1, c1, rfl⟩)⟩
          · obtain ⟨v, bs, hv, hbs, hp⟩ := hF 4 (by decide)
            exact rol_vals rfl rfl rfl (by rw [hz]; decide) (ex_move (Or.inl rfl) (eval_slot hv)) hbs hp hG.below
          · obtain ⟨v, bs, hv, hbs, a1, c1, rfl⟩ := hF 5 (by decide)
            exact rol_vals rfl rfl rfl (by rw [hz]; decide) (ex_extract rfl (eval_slot hv) rfl) (bs := fun _ => False) (fun b e => e.elim) ⟨a1, c1, rfl⟩ hG.below
          · obtain ⟨v, bs, hv, hbs, a1, c1, rfl⟩ := hF 5 (by decide)
            exact rol_val rfl rfl rfl (by rw [hz]; decide) (ex_extract rfl (eval_slot hv) rfl) hG.below
          · obtain ⟨v, bs, hv, hbs, hp⟩ := hF 6 (by decide)
            exact rol_vals rfl rfl rfl (by rw [hz]; decide) (ex_move (Or.inr rfl) (eval_slot hv)) hbs hp hG.below
          · exact rol_val rfl rfl rfl (by rw [hz]; decide) (ex_move (Or.inr rfl) (eval_slot (hF 7 (by decide)))) hG.below
        · intro a wx who hG hF
          obtain ⟨v13, bs13, fv13, fo13, fp13⟩ := hF 8 (of_decide_eq_true (by kernel_rfl)) (of_decide_eq_true (by kernel_rfl))
          replace fv13 : a.tmps.getD 13 undef = v13 := eval_slot (s := 13) fv13
          have fv14 : a.tmps.getD 14 undef = .int .i64 xk := eval_slot (s := 14) (hF 9 (of_decide_eq_true (by kernel_rfl)) (of_decide_eq_true (by kernel_rfl)))
          have hap := hF 2 (of_decide_eq_true (by kernel_rfl)) (of_decide_eq_true (by kernel_rfl))
          have hbx := hG.below
          have hnx := hG.new
          rw [hG.frame]
          simp only [List.foldl_cons, List.foldl_nil, List.setIfInBounds_toArray, List.set_cons_zero, List.set_cons_succ]
          generalize a.tmps.getD 61 undef = u61
          generalize a.tmps.getD 62 undef = u62
          generalize a.tmps.getD 63 undef = u63
          generalize a.tmps.getD 64 undef = u64
          generalize a.tmps.getD 65 undef = u65
          generalize a.tmps.getD 60 undef = u60
          generalize a.tmps.getD 66 undef = u66
          generalize a.tmps.getD 67 undef = u67
          rw [fv13]
          rw [fv14]
          clear hF hG fv13 fv14
          obtain ⟨v2, bs2, hv2, hbs2, hn1, hn2, hn3, hn4⟩ := hap
          obtain ⟨a13, c13, rfl⟩ := fp13
          have HO2 := Lib.hid hn2
          have SM2 := Lib.hid (SM8.out.below hbx)
          have qx0 := cell_keep QX0.out hbx; have qx1 := cell_keep QX1.out hbx
          have BW := Lib.hid (below_step BB.out hbx)
          have hbw : W8.heap.size ≤ wx.heap.size := hbx.size
          have HDK := Lib.hid (show (dupK d).length = nk from HD2.out)
          have HBX := Lib.hid hbx
          clear hv2 hbs2 hn1 hn2 hn3 hn4 fo13 hbx hnx KCX HOB SM8 HB8 HB e8
          rcases HXK.out with hx | hx | hx
          · subst hx
            rcases HCK.out with hc | hc | hc
            · subst hc
              have hle := (HMO.out rfl).elim (fun h => absurd h (by decide)) fun h => h.2
              have hleb : (nx : Int) ≤ (nc : Int) := by omega
              clear hle
              go_wp2_with (go_at_call 9; refine (wawake_any _).mono ?_; rintro e w9 ⟨rfl, hb1⟩; have BE := Lib.hid (below_step BW.out hb1); clear hb1)
              go_ret
              exact ⟨rfl, BE.out⟩
            all_goals
              subst hc
              go_wp2_with (go_at_call 9; refine (wawake_any _).mono ?_; rintro e w9 ⟨rfl, hb1⟩; have BE := Lib.hid (below_step BW.out hb1); clear hb1)
              go_ret
              exact ⟨rfl, BE.out⟩
          · subst hx
            have her := HER.out rfl
            cases hmx : mayK (dupK d ++ m)
            · have kma := KMA.out
              rw [hmx] at kma
              have KMX := Lib.hid kma
              clear kma her hmx
              rcases HCK.out with hc | hc | hc
              all_goals
                subst hc
                go_wp2_with (first
                  | (at_builtin; refine wpList_app_ne19 rfl _ _ rfl W8.heap.size _ (dupK d) nk HDK.out rfl HO2.out aM nm eM m rfl SM2.out (by omega) hbw ?_; intro a9 c9 w9 ho9 hg9; have SX := Lib.hid (Nes.owned (es := dupK d ++ m) (by rw [HNX.out]; exact ho9)); have hb9 := HBX.out.grown hg9 hbw (fun b e => (own_lt HO2.out e).1); replace qx0 := cell_keep QX0.out hb9; replace qx1 := cell_keep QX1.out hb9; replace BW := Lib.hid (BW.out.grown hg9 BW.out.size fun b e => Nat.le_trans BB.out.size (own_lt HO2.out e).1); clear hb9 ho9 hg9)
                  | (go_at_call 14; refine (KMX.out _ _ SX.out).mono ?_; rintro e w9 ⟨rfl, hb1⟩; replace BW := Lib.hid (below_step BW.out hb1); clear hb1)
                  | (go_at_call 9; refine (wawake_any _).mono ?_; rintro e w9 ⟨rfl, hb1⟩; have BE := Lib.hid (below_step BW.out hb1); clear hb1))
                go_ret
                exact ⟨rfl, BE.out⟩
            · have kmn := KMN.out
              rw [her hmx] at kmn
              have kma := KMA.out
              rw [hmx] at kma
              have KMX := Lib.hid kma; have KMY := Lib.hid kmn
              clear kma kmn her hmx
              rcases HCK.out with hc | hc | hc
              all_goals
                subst hc
                go_wp2_with (first
                  | (at_builtin; refine wpList_app_ne19 rfl _ _ rfl W8.heap.size _ (dupK d) nk HDK.out rfl HO2.out aM nm eM m rfl SM2.out (by omega) hbw ?_; intro a9 c9 w9 ho9 hg9; have SX := Lib.hid (Nes.owned (es := dupK d ++ m) (by rw [HNX.out]; exact ho9)); have hb9 := HBX.out.grown hg9 hbw (fun b e => (own_lt HO2.out e).1); replace qx0 := cell_keep QX0.out hb9; replace qx1 := cell_keep QX1.out hb9; replace BW := Lib.hid (BW.out.grown hg9 BW.out.size fun b e => Nat.le_trans BB.out.size (own_lt HO2.out e).1); clear hb9 ho9 hg9)
                  | (go_at_call 14; refine (KMX.out _ _ SX.out).mono ?_; rintro e w9 ⟨rfl, hb1⟩; replace BW := Lib.hid (below_step BW.out hb1); replace qx0 := cell_keep qx0 hb1; replace qx1 := cell_keep qx1 hb1; clear hb1)
                  | (go_at_call 15; refine (KMY.out _).mono ?_; rintro e w9 ⟨rfl, hb1⟩; replace BW := Lib.hid (below_step BW.out hb1); clear hb1)
                  | (go_at_call 9; refine (wawake_any _).mono ?_; rintro e w9 ⟨rfl, hb1⟩; have BE := Lib.hid (below_step BW.out hb1); clear hb1))
                go_ret
                exact ⟨rfl, BE.out⟩
          · subst hx
            rcases HCK.out with hc | hc | hc
            · have hne := HMO.out hc
              omega
            all_goals
              subst hc
              go_wp2_with (go_at_call 9; refine (wawake_any _).mono ?_; rintro e w9 ⟨rfl, hb1⟩; have BE := Lib.hid (below_step BW.out hb1); clear hb1)
              go_ret
              exact ⟨rfl, BE.out⟩

theorem own : ownKnob Try.prog.godebug = none := by kernel_rfl
theorem laidOut : laidOutB Try.prog = true := by kernel_rfl

set_option maxRecDepth 100000 in
theorem lifted (os : Os) (started : os.Started) (H : Type) (enc : TypeId × Value → H) :
    ReturnsInHanded {} Try.checked os 5 .any (Rows.whyMoreSpec.pre6 enc Try.prog Try.f5 Rows.whyMoreRow.domain false) (Rows.whyMoreSpec.post enc Try.prog Try.f5 false true false false) := by
  refine returnsInHanded_of_change (C := Try.checked) own started (by kernel_rfl) Try.func5
    (ChangeSpec.witness6 (enc := enc) (C := Try.checked) false ⟨#[], #[.slice none 0 0, .slice none 0 0, .agg #[.string ByteArray.empty, .string ByteArray.empty]], []⟩ 8 (by kernel_rfl) (by kernel_rfl) (by kernel_rfl) (by kernel_rfl)) ?_
  intro W base args ds gs before hval0 hW hcnd _
  have hval : ∀ (j : Nat) t v, Try.f5.params[j]? = some t → args[j]? = some v → Value.okWide Try.prog W .any base t v := hval0
  have hW' := hW
  obtain ⟨p, q, hA0, hV, rfl, hfz, hnd⟩ := hW
  have hA : DataW.TrodAll enc Try.prog W 0 (fun _ => true) true Try.f5.params.toList args.toList ds p := hA0
  rw [Try.params5] at hA hval
  obtain ⟨v0, vs0, d0, ds0, p0, q0, hargs, rfl, rfl, h0, r0⟩ := trodAll_cons hA
  obtain ⟨v1, vs1, d1, ds1, p1, q1, rfl, rfl, rfl, h1, r1⟩ := trodAll_cons r0
  obtain ⟨v2, vs2, d2, ds2, p2, q2, rfl, rfl, rfl, h2, r2⟩ := trodAll_cons r1
  obtain ⟨rfl, rfl, rfl⟩ := trodAll_nil r2
  obtain rfl : args = #[v0, v1, v2] := by cases args; simp_all
  obtain ⟨rfl, rfl⟩ := trodVars_none hV
  obtain ⟨a0, len0, cap0, rfl⟩ := okWide_slice Try.underlying22 (hval 0 22 v0 rfl rfl)
  have k0 := h0
  have lt0 : ∀ x ∈ p0, x.block < W.heap.size := by obtain ⟨m, hm⟩ := k0; exact DataW.trod_lt m _ _ _ hm
  obtain ⟨z0, w0⟩ : ∃ zs, Nes W (.slice a0 len0 cap0) zs ∧ ∀ e ∈ zs, fitNe e := by
    obtain ⟨fuel, hf⟩ := h0
    exact nes_open (by simpa [Value.cells] using hf)
  obtain ⟨a1, len1, cap1, rfl⟩ := okWide_slice Try.underlying22 (hval 1 22 v1 rfl rfl)
  have k1 := h1
  have lt1 : ∀ x ∈ p1, x.block < W.heap.size := by obtain ⟨m, hm⟩ := k1; exact DataW.trod_lt m _ _ _ hm
  obtain ⟨z1, w1⟩ : ∃ zs, Nes W (.slice a1 len1 cap1) zs ∧ ∀ e ∈ zs, fitNe e := by
    obtain ⟨fuel, hf⟩ := h1
    exact nes_open (by simpa [Value.cells] using hf)
  have k2 := h2
  have lt2 : ∀ x ∈ p2, x.block < W.heap.size := by obtain ⟨m, hm⟩ := k2; exact DataW.trod_lt m _ _ _ hm
  obtain ⟨z2, w2⟩ := node_open (hval 2 24 v2 rfl rfl) h2
  clear hA0 hval0
  refine (walk _ z0 _ z1 _ z2 W w0 w1 w2).mono fun e W' ⟨he, bel⟩ => ?_
  subst he
  exact ⟨_, rfl, _, _, _, [], _, [], hW', trodAll_mk1 (shut_bool Try.underlying4 _), (trodAll_cons_mk (Below.trod laidOut (by kernel_rfl) (of_decide_eq_true (by kernel_rfl)) k0 bel lt0) (trodAll_cons_mk (Below.trod laidOut (by kernel_rfl) (of_decide_eq_true (by kernel_rfl)) k1 bel lt1) (trodAll_cons_mk (Below.trod laidOut (by kernel_rfl) (of_decide_eq_true (by kernel_rfl)) k2 bel lt2) trodAll_mk0))), rfl, bel.frame _, fun h => by cases h⟩

-- the given statement
theorem proved : Rows.WhyMoreSaid :=
  OpenClaim.holds_of_wide 5 Try.f5 rfl rfl rfl rfl rfl rfl rfl ⟨rfl, rfl, rfl, rfl, rfl⟩ rfl rfl rfl rfl rfl (by kernel_rfl) Try.func5 (by kernel_rfl)
    (of_decide_eq_true (by kernel_rfl)) (by unfold Func.isWrapper; first | (rw [if_pos (by decide +kernel)]; kernel_rfl) | (rw [if_neg (by decide +kernel)]; exact ⟨rfl, rfl⟩))
    (fun os started H enc _ => lifted os started H enc)
end Go.Proofs.Ytdefphacdcbljaa.whyMore
