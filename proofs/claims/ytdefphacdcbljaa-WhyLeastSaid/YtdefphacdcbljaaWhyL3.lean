/- Of every needs, every node and any picks (no more, and no longer, than are looked at): no chain backward by whichever needs are picked is shorter than the chain, and none as long comes ahead of it; no condition. -/
import Derived.Test.YtdefphacdcbljaaRows
import Derived.Test.YtdefphacdcbljaaWhyY
import Derived.ProofKit
import Derived.OpenShut
import Derived.ShutString
import Derived.ChangeOld
namespace Go.Proofs.Ytdefphacdcbljaa.whyLeast
open Go.ChangeShapes Go.WideShapes Go.ChangeAt Go.RowKit
open Go.ChangeMaps (open_string shut_string)
set_option maxRecDepth 100000
set_option linter.unusedVariables false

theorem decNds (l : List Nd) : decide (l = l) = true := decide_eq_true rfl
theorem decDps (l : List Dp) : decide (l = l) = true := decide_eq_true rfl
set_option maxRecDepth 100000 in
set_option maxHeartbeats 3200000 in
theorem walk (D : Value) (d0 : List Ne) (Q : Value) (q : Nd) (P : Value) (pk : List Int) (w : World) (hD : Nes w D d0 ∧ ∀ e ∈ d0, fitNe e) (hQ : Q = .agg #[.string (mkB q.1), .string (mkB q.2)] ∧ fitsN q) (hP : U8s w P pk ∧ ∀ e ∈ pk, fitU8 e) :
    Calls Try.prog 4 #[D, Q, P] w fun e w' => e = .returned (.bool true) ∧ Below w.heap.size w w' := by
  obtain ⟨hD, fD⟩ := hD
  obtain ⟨AD, cD, rfl, -⟩ := hD.ex
  have kfD := fun V w h => lfewo_any V d0 w h fD
  have hml := fewK_len d0; have hmz := fewK_small d0
  obtain ⟨mD, hmD⟩ : ∃ r, d0.length = r := ⟨_, rfl⟩
  rw [hmD] at hD ⊢
  obtain ⟨d, hd⟩ : ∃ r, fewK d0 = r := ⟨_, rfl⟩
  rw [hd] at kfD hml hmz
  obtain ⟨nd, hnd⟩ : ∃ r, d.length = r := ⟨_, rfl⟩
  rw [hnd] at hml kfD
  have hsz : ∀ x ∈ d, smallNe x := hmz
  have SUD := Lib.hid hD; have KFD := Lib.hid kfD; have HZD := Lib.hid hsz; have HND := Lib.hid hnd
  clear hD fD kfD hmz hsz hmD hd hnd
  obtain ⟨rfl, fq⟩ := hQ
  obtain ⟨pq, vq⟩ := q
  simp only at fq ⊢
  have hsq := oneN_small (pq, vq)
  have hoq := fun w => one_any pq vq w fq.1 fq.2
  obtain ⟨q1, hq1⟩ : ∃ r, fewL pq = r := ⟨_, rfl⟩
  obtain ⟨q2, hq2⟩ : ∃ r, fewL vq = r := ⟨_, rfl⟩
  have hsq2 : smallN (q1, q2) := by rw [← hq1, ← hq2]; exact hsq
  rw [hq1, hq2] at hoq
  obtain ⟨W, gq, hW, hg, r1, hb⟩ := boxHK w (.string (mkB pq)) (.string (mkB vq)) 24
  have HSQ := Lib.hid hsq2; have HOQ := Lib.hid hoq; have HLQ := Lib.hid (show w.heap.size ≤ gq by omega); have HW := Lib.hid hW; have HG := Lib.hid hg; have RQ := Lib.hid r1; have BB := Lib.hid hb
  clear hsq hsq2 hoq hq1 hq2 hW hg r1 hb fq
  obtain ⟨hP, fP⟩ := hP
  obtain ⟨AP, cP, rfl, -⟩ := hP.ex
  obtain ⟨np, hnp⟩ : ∃ r, pk.length = r := ⟨_, rfl⟩
  rw [hnp] at hP ⊢
  have SP0 := Lib.hid hP; have FP := Lib.hid fP; have HNP := Lib.hid hnp
  clear hP fP hnp
  have kch := fun V w h => wchain_any V d q1 q2 w h HZD.out (by rw [HND.out]; omega) HSQ.out
  obtain ⟨PC, hPC⟩ : ∃ E, chainE d (q1, q2) = E := ⟨_, rfl⟩
  rw [hPC] at kch
  obtain ⟨C, ck⟩ := PC
  simp only at kch
  obtain ⟨ff, hff⟩ : ∃ r, C.length = r := ⟨_, rfl⟩
  rw [hff] at kch
  have KCH := Lib.hid kch; have HPC := Lib.hid hPC; have HFF := Lib.hid hff
  clear kch hPC hff
  have ed : ∀ args w, (callFunc 6 args).run Try.prog w = .ok (.enter 6 args) w := enters_of Try.func6 (by kernel_rfl) rfl
  have e2 : ∀ args w, (callFunc 7 args).run Try.prog w = .ok (.enter 7 args) w := enters_of Try.func7 (by kernel_rfl) rfl
  go_enter Try.func4, Try.ntmps4
  go_upto_region 1 with fail
  rw [HW.out, HG.out]
  refine rol_run (by kernel_rfl) [[], [0], [], [0, 1, 2], [0, 1, 2, 3], [0, 1, 2, 3, 4]] (by kernel_rfl) [15, 16, 17, 18, 0] [[7], [0], [6], [2], [1], [3, 6]] [0, 1, 0, 0, 1, 4, 4, 0] [0, 0, 0, 0, 0, 4] [1000, 1000, 1000, 1000, 1000, 1000, 5, 4] [.val 15 (.slice AD mD cD), .mem 16 (rowG W.heap.size 39 4 nd (neC d)), .val 17 (.agg #[.string (mkB pq), .string (mkB vq)]), .val 18 (.agg #[.string (mkB q1), .string (mkB q2)]), .mem 0 (rowG W.heap.size 39 4 nd (neC d)), .box (gq) (.cells #[.string (mkB q1), .string (mkB q2)] 24), .box (gq) (.cells #[.string (mkB pq), .string (mkB vq)] 24), .val 0 (.slice AD mD cD)] (by kernel_rfl) ?_ (w.heap.size) (W.heap.size) rfl BB.out rfl (fun k => if k = gq then 4 else 6) ?_ ?_ ?_
  · intro j hj
    have hj3 : j < 8 := hj
    have hj2 : j = 0 ∨ j = 1 ∨ j = 2 ∨ j = 3 ∨ j = 4 ∨ j = 5 ∨ j = 6 ∨ j = 7 := by omega
    clear hj hj3
    rcases hj2 with rfl | rfl | rfl | rfl | rfl | rfl | rfl | rfl
    · exact trivial
    · exact rowG_near
    · exact trivial
    · exact trivial
    · exact rowG_near
    · exact trivial
    · exact trivial
    · exact trivial
  · intro j hj0 hj
    have hj1 : 6 ≤ j := hj0
    have hj3 : j < 8 := hj
    have hj2 : j = 6 ∨ j = 7 := by omega
    clear hj0 hj hj1 hj3
    rcases hj2 with rfl | rfl
    · exact ⟨RQ.out, if_pos rfl⟩
    · exact rfl
  · intro i hi a wx who hG hF
    have hz : a.tmps.size = 117 := hG.size
    have hi3 : i < 6 := hi
    have hi2 : i = 0 ∨ i = 1 ∨ i = 2 ∨ i = 3 ∨ i = 4 ∨ i = 5 := by omega
    clear hi hi3
    rcases hi2 with rfl | rfl | rfl | rfl | rfl | rfl
    · exact rol_val rfl rfl rfl (by rw [hz]; decide) (ex_move (Or.inl rfl) (eval_slot (hF 7 (by decide)))) hG.below
    · refine rol_calls rfl rfl rfl (by rw [hz]; decide) (ex_call rfl (by simp [eval_slot (hF 0 (by decide))]) ed) (KFD.out _ wx (SUD.out.below hG.below)) ?_ hG.below (Nat.le_trans BB.out.size hG.new)
      rintro e w1 ⟨u, rfl, hso, hb1⟩
      exact ⟨u, rfl, hb1, .inr (.inl ⟨_, u.ownBlock, rfl, fun b e => own_lt hso e, row_base hso hG.new, rfl⟩)⟩
    · exact rol_val rfl rfl rfl (by rw [hz]; decide) (ex_load rfl (eval_slot ((hG.slots 4 (by decide)).trans rfl)) (ld_node (row2 (hF 6 (by decide)).1).1 (row2 (hF 6 (by decide)).1).2.1)) hG.below
    · refine rol_calls rfl rfl rfl (by rw [hz]; decide) (ex_call rfl (by simp [eval_slot (hF 2 (by decide))]) e2) (HOQ.out wx) ?_ hG.below (Nat.le_trans BB.out.size hG.new)
      rintro e w1 ⟨rfl, hb1⟩
      exact ⟨_, rfl, hb1, .inl rfl⟩
    · exact rol_move rfl rfl rfl (by rw [hz]; decide) (Or.inr rfl) (hF 1 (by decide)) hG.below
    · exact rol_box_ndK rfl rfl rfl rfl (eval_slot ((hG.slots 4 (by decide)).trans rfl)) (eval_slot (hF 3 (by decide))) (hF 6 (by decide)) hG.below HLQ.out
  · intro a wx who hG hF
    obtain ⟨v0, ob0, fv0, fo0, fp0⟩ := hF 4 (of_decide_eq_true (by kernel_rfl)) (of_decide_eq_true (by kernel_rfl))
    replace fv0 : a.tmps.getD 0 undef = v0 := eval_slot (s := 0) fv0
    have hbq := hF 5 (of_decide_eq_true (by kernel_rfl)) (of_decide_eq_true (by kernel_rfl))
    have hbx := hG.below
    have hnx := hG.new
    rw [hG.frame]
    simp only [List.foldl_cons, List.foldl_nil, List.setIfInBounds_toArray, List.set_cons_zero, List.set_cons_succ]
    generalize a.tmps.getD 15 undef = u15
    generalize a.tmps.getD 16 undef = u16
    generalize a.tmps.getD 17 undef = u17
    generalize a.tmps.getD 18 undef = u18
    rw [fv0]
    clear hF hG fv0
    obtain ⟨aD, cE, rfl, hd⟩ := nesO (by rw [HND.out]; exact fp0.1)
    rw [HND.out] at hd ⊢
    have SD := Lib.hid hd
    clear hd
    obtain ⟨qx0, qx1, -, -⟩ := row2 hbq.1
    replace BB := Lib.hid hbx
    clear fo0 fp0 hbq hbx hnx RQ HOQ HW HG HLQ e2 SUD KFD
    go_upto_region 3 with (go_at_call 8; refine (KCH.out _ _ SD.out).mono ?_; rintro e w9 ⟨ac, cc, rfl, hd, hb1⟩; replace qx0 := cell_keep qx0 hb1; replace qx1 := cell_keep qx1 hb1; replace SD := Lib.hid (SD.out.below hb1); replace BB := Lib.hid (below_step BB.out hb1); have Sc := Lib.hid hd; clear hd hb1 KCH)
    by_cases hmn0 : (mayK d && okN (q1, q2)) = true
    · have hmn := (Bool.and_eq_true _ _).mp hmn0
      clear hmn0
      by_cases hf : farW d (q1, q2) = 0
      · have h1 := HPC.out
        rw [chainE_none hmn.1 hmn.2 hf] at h1
        obtain ⟨h3, rfl⟩ := Prod.mk.inj h1
        clear h1 h3 hmn hf
        go_wp2_with (go_at_call 9; refine (wawake_any _).mono ?_; rintro e w9 ⟨rfl, hb1⟩; replace qx0 := cell_keep qx0 hb1; replace qx1 := cell_keep qx1 hb1; replace SD := Lib.hid (SD.out.below hb1); replace Sc := Lib.hid (Sc.out.below hb1); replace BB := Lib.hid (below_step BB.out hb1); clear hb1)
        go_ret
        exact ⟨rfl, BB.out⟩
      · have h1 := HPC.out
        rw [chainE_yes hmn.1 hmn.2 (by omega)] at h1
        obtain ⟨h3, rfl⟩ := Prod.mk.inj h1
        have hp : 0 < farW d (q1, q2) := by omega
        have hcf := chain_facts hmn.1 hp
        have hcok := chW_ok hmn.1 hp
        have hfb := farW_bound hmn.1 (q1, q2)
        have hlst := fun o ho hr => stepsW_least hmn.1 (n := (q1, q2)) (o := o) ho hr
        have hmk := fun x hx => mayK_mem hmn.1 (d := x) hx
        obtain ⟨fd, hfd⟩ : ∃ n, farW d (q1, q2) = n := ⟨_, rfl⟩
        rw [hfd] at hcf hcok h3 hfb hp hlst
        rw [h3] at hcf hcok hlst
        obtain ⟨hcl, -, -, hcf⟩ := hcf
        obtain rfl : ff = fd := by rw [← HFF.out, hcl]
        have hfk : ff ≤ 30 := by rw [HND.out] at hfb; omega
        have hcs : ∀ n ∈ C, smallN n ∧ okN n = true := fun n hn => by
          refine ⟨?_, hcok n hn⟩
          obtain ⟨j, hj, rfl⟩ := List.mem_iff_getElem.1 hn
          have h5 := (hcf j (by omega)).1
          rw [show C.getD j rootN = C[j] from nd_getD hj] at h5
          obtain ⟨x, hx, e⟩ := List.mem_map.1 (far_to hmn.1 (n := C[j]) (by omega))
          rw [← e]
          exact (HZD.out x hx).2
        have hq0 : ∀ x ∈ [((q1, q2) : Nd)], smallN x ∧ okN x = true := fun x hx => by
          rw [List.mem_singleton.1 hx]; exact ⟨HSQ.out, hmn.2⟩
        have hbw : W.heap.size ≤ w9.heap.size ∨ True := .inr trivial
        have HCS := Lib.hid hcs; have HLST := Lib.hid hlst; have HMK := Lib.hid hmk; have HCL := Lib.hid hcl; have HQ0 := Lib.hid hq0
        clear h1 h3 hcf hcok hfb hfd hcs hlst hmk hmn hf hcl hq0 hbw
        go_upto_region 6 with fail
        obtain ⟨W5, hW5, hb5, hn5⟩ : ∃ W5, w9.alloc (.cells #[.string (mkB q1), .string (mkB q2)] 24) = W5 ∧ Below w9.heap.size w9 W5 ∧ Nds W5 (.slice (some ⟨w9.heap.size, 0, none⟩) 1 1) [(q1, q2)] := ⟨_, rfl, (Below.refl _ _).alloc (Nat.le_refl _) _, blk_ndsW (heap_alloc_new _ _)⟩
        rw [hW5]
        replace SD := Lib.hid (SD.out.below hb5); replace Sc := Lib.hid (Sc.out.below hb5); replace BB := Lib.hid (below_step BB.out hb5)
        have SP := Lib.hid (SP0.out.below BB.out); have SN := Lib.hid hn5
        have hgd := guard_nd
        clear hW5 hb5 hn5 SP0 qx0 qx1
        go_wp2
        go_loopw [9, 10] (fun ov iv wr => ∃ (i m : Nat) (o : List Nd) (aO : Option Addr) (cO : Nat), ov = .slice aO m cO ∧ iv = .int .i64 (i : Int) ∧ i ≤ 12 ∧ Hid (m = i + 1) ∧ Hid (o.length = m) ∧ Hid (Nds wr (.slice aO m cO) o) ∧ Hid (stepsW d (q1, q2) o) ∧ Hid (∀ x ∈ o, smallN x ∧ okN x = true) ∧ Hid (Below W5.heap.size W5 wr)) (fun _ iv _ => 12 - (intOf iv).toNat)
        case atStart => exact ⟨0, 1, [(q1, q2)], _, 1, rfl, rfl, Nat.zero_le _, Lib.hid rfl, Lib.hid rfl, SN, Lib.hid (stepsW_one d (q1, q2)), HQ0, Lib.hid (Below.refl _ _)⟩
        case round =>
          clear SN
          obtain ⟨i, m, o, aO, cO, rfl, rfl, hi, HM, HOL, SO, HST, HOK, HB⟩ := hrel
          have hm13 : m ≤ 13 := by have := HM.out; omega
          by_cases hip : i < np
          · by_cases hi12 : i < 12
            · have hib : (i : Int) < (np : Int) := by omega
              have hib2 : (i : Int) < 12 := by omega
              obtain ⟨W6, hW6⟩ : ∃ v, v = wr := ⟨_, rfl⟩
              subst hW6
              have hol : 0 < o.length := by rw [HOL.out, HM.out]; omega
              have hm0 : 0 < m := by have := HM.out; omega
              obtain ⟨bO, oO, rfl, -, o0, o1⟩ := SO.out.at 0 hol
              rw [Nat.zero_mul, Nat.add_zero] at o0 o1
              obtain ⟨h, hh⟩ : ∃ h, o.getD 0 ([], []) = h := ⟨_, rfl⟩
              rw [hh] at o0 o1
              have HHD := Lib.hid (show o.headD rootN = h from by
                rw [← hh]
                cases o with
                | nil => simp at hol
                | cons a t => rfl)
              obtain ⟨h1, h2⟩ := h
              simp only at o0 o1
              have O0 := Lib.hid o0; have O1 := Lib.hid o1
              clear hh o0 o1 hol
              have SD6 := Lib.hid (SD.out.below HB.out)
              go_wp2
              go_loopw [11, 12, 13] (fun bv rv kv wr => ∃ (u : Value) (k : Nat) (R : Bool) (nb : Nat) (K : List Nd), u = bv ∧ rv = .bool R ∧ kv = .int .i64 (k : Int) ∧ k ≤ nd ∧ nb ≤ k ∧ Hid (K = backW (d.take k) (h1, h2)) ∧ Hid (K.length = nb) ∧ Hid (wr.ownsRow W6.heap.size 24 2 u nb (ndsC K)) ∧ Hid (R = decide ((rootN, (h1, h2)) ∈ d.take k)) ∧ Hid (Below W6.heap.size W6 wr)) (fun _ _ kv _ => nd - (intOf kv).toNat)
              case atStart => exact ⟨_, 0, false, 0, [], rfl, rfl, rfl, Nat.zero_le _, Nat.zero_le _, Lib.hid rfl, Lib.hid rfl, Lib.hid (World.ownsRow_nil _ _ _ _), Lib.hid (by simp), Lib.hid (Below.refl _ _)⟩
              case round =>
                obtain ⟨u9, k, R, nb, K, rfl, rfl, rfl, hk, hnb, HK, HKL, HO, HR, HB2⟩ := hrel
                by_cases hlt : k < nd
                · have hkl : k < d.length := by rw [HND.out]; exact hlt
                  obtain ⟨bD, oD, rfl, -, d0, d1, d2, d3⟩ := (SD6.out.below HB2.out).at k hkl
                  have hbk := backW_take hkl (h1, h2)
                  have hrk := rootW_take hkl (h1, h2)
                  obtain ⟨y, hy⟩ : ∃ y, y = d.getD k zNe := ⟨_, rfl⟩
                  rw [← hy] at d0 d1 d2 d3 hbk hrk
                  obtain ⟨⟨f1, f2⟩, t1, t2⟩ := y
                  simp only at d0 d1 d2 d3 hbk hrk
                  have o0 := cell_keep O0.out HB2.out; have o1 := cell_keep O1.out HB2.out
                  obtain ⟨E, hE⟩ : ∃ E, decide ((t1, t2) = (h1, h2)) = E := ⟨_, rfl⟩
                  have q9 : ∀ w, Sem.run Try.prog (binOp .eql 24 (.agg #[.string (mkB t1), .string (mkB t2)]) (.agg #[.string (mkB h1), .string (mkB h2)])) w = .ok (.bool E) w := fun w => by rw [← hE]; exact eq_nd t1 t2 h1 h2 w
                  obtain ⟨F, hF⟩ : ∃ F, decide ((f1, f2) = (([], []) : Nd)) = F := ⟨_, rfl⟩
                  have q8 := fun w => eq_ndz f1 f2 w
                  rw [hF] at q8
                  rw [hE, show decide ((f1, f2) = rootN) = F from hF, ← HR.out] at hrk
                  have hmb : (k : Int) < (nd : Int) := by omega
                  have HBK := Lib.hid hbk; have HRK := Lib.hid hrk; have HEE := Lib.hid hE
                  clear hy hbk hrk hE hF
                  cases E
                  · go_upto_region 14 with fail
                    go_quiet (fail)
                    have HB3 := Lib.hid (below_step HB2.out (below_q ⟨nq, rfl⟩))
                    have HO3 := Lib.hid (ownsRow_belowB HO.out (below_q ⟨nq, rfl⟩))
                    go_wp2
                    go_roundw
                    case rel =>
                      refine ⟨_, k + 1, R, nb, K, rfl, rfl, by go_num, by omega, by omega, ?_, HKL, HO3, ?_, HB3⟩
                      · refine Lib.hid ?_
                        rw [HBK.out, if_neg (of_decide_eq_false HEE.out), HK.out]
                      · refine Lib.hid ?_
                        rw [HRK.out]; simp
                    case measure => simp [intOf]; omega
                  · go_upto_region 14 with fail
                    go_quiet (fail)
                    obtain ⟨W7, hW7⟩ : ∃ v, v = wr.drewN nq := ⟨_, rfl⟩
                    rw [← hW7]
                    have hq := below_q (w := wr) ⟨nq, hW7⟩
                    have d0' := cell_keep d0 hq; have d1' := cell_keep d1 hq
                    have HB3 := Lib.hid (below_step HB2.out hq)
                    have HO3 := Lib.hid (ownsRow_belowB HO.out hq)
                    have hw6 : W6.heap.size ≤ W7.heap.size := HB3.out.size
                    clear d0 d1 d2 d3 o0 o1 hW7 hq
                    cases R
                    all_goals
                      cases F
                      all_goals
                        go_wp2_with (at_builtin; refine wpList_push_ndW rfl _ _ rfl W6.heap.size _ K nb HKL.out rfl HO3.out f1 f2 W7.heap.size rfl rfl (by omega) hw6 ?_; intro a9 c9 w9 ho9 hg9 hn9; have HO9 := Lib.hid ho9; have HB9 := Lib.hid (HB3.out.grown hg9 hw6 fun b e => (own_lt HO3.out e).1); clear ho9 hg9 hn9)
                        go_roundw
                        case rel =>
                          refine ⟨_, k + 1, _, nb + 1, K ++ [(f1, f2)], rfl, rfl, by go_num, by omega, by omega, ?_, Lib.hid (by rw [List.length_append, HKL.out]; rfl), HO9, ?_, HB9⟩
                          · refine Lib.hid ?_
                            rw [HBK.out, if_pos (of_decide_eq_true HEE.out), HK.out]
                          · refine Lib.hid ?_
                            rw [HRK.out]; simp
                        case measure => simp [intOf]; omega
                · have e : nd = k := by omega
                  subst e
                  have hK := HK.out; have hR := HR.out
                  rw [List.take_of_length_le (by rw [HND.out]; exact Nat.le_refl _)] at hK hR
                  have HKE := Lib.hid hK
                  obtain ⟨aB, cB, hvB, -⟩ := ndsO (by rw [HKL.out]; exact HO.out)
                  rw [HKL.out] at hvB
                  subst hvB
                  have hsx : ∀ x ∈ K, ((x, (h1, h2)) : Ne) ∈ d := fun x hx => by rw [hK] at hx; exact backW_mem.1 hx
                  have HSX := Lib.hid hsx
                  clear hK hsx HK O0 O1
                  cases R
                  · clear hR
                    obtain ⟨W9, hW9⟩ : ∃ v, v = wr := ⟨_, rfl⟩
                    subst hW9
                    have HBX := Lib.hid HB2.out; have HOX := Lib.hid HO.out
                    have HB7 := Lib.hid (below_step HB.out HBX.out)
                    go_upto_region 19 with fail
                    by_cases hnb0 : nb = 0
                    · subst hnb0
                      go_wp2_with (go_at_call 9; refine (wawake_any _).mono ?_; rintro e w9 ⟨rfl, hb1⟩; have BE := Lib.hid (below_step (below_step BB.out HB7.out) hb1); clear hb1)
                      go_ret
                      exact ⟨rfl, BE.out⟩
                    · have hb0 : ((nb : Int) == 0) = false := beq_eq_false_iff_ne.2 (by omega)
                      have hnbp : 0 < nb := by omega
                      obtain ⟨bP, oP, rfl, -, hpc⟩ := (SP.out.below HB7.out).at i (by rw [HNP.out]; exact hip)
                      have hpi := hpc i (by rw [HNP.out]; exact hip)
                      have hpf := FP.out (pk.getD i 0) (by rw [List.getD_eq_getElem?_getD, List.getElem?_eq_getElem (by rw [HNP.out]; exact hip)]; exact List.getElem_mem _)
                      obtain ⟨p, hp⟩ : ∃ p, pk.getD i 0 = p := ⟨_, rfl⟩
                      rw [hp] at hpi hpf
                      obtain ⟨p1, p2⟩ := hpf
                      obtain ⟨pn, hpn⟩ : ∃ n : Nat, p = (n : Int) := ⟨p.toNat, by omega⟩
                      subst hpn
                      obtain ⟨r, hr⟩ : ∃ r, pn % nb = r := ⟨_, rfl⟩
                      have hrl : r < nb := by rw [← hr]; exact Nat.mod_lt _ hnbp
                      have SB := Lib.hid (show Nds W9 (.slice aB nb cB) K from by
                        have h5 := Nds.owned (ns := K) (by rw [HKL.out]; exact HOX.out)
                        exact h5)
                      obtain ⟨bB, oB, rfl, -, y0, y1⟩ := SB.out.at r (by rw [HKL.out]; exact hrl)
                      have hys := HSX.out _ (nd_mem (l := K) (j := r) (by rw [HKL.out]; exact hrl))
                      obtain ⟨y, hy⟩ : ∃ y, y = K.getD r ([], []) := ⟨_, rfl⟩
                      rw [← hy] at y0 y1 hys
                      obtain ⟨z1, z2⟩ := y
                      simp only at y0 y1
                      clear hpc hy hp
                      go_upto_region 22 with fail
                      obtain ⟨X, gx, hX, hgx, e0, e1, hxb⟩ := boxNd W9 (.string (mkB z1)) (.string (mkB z2)) 24
                      rw [hX, hgx]
                      have HBX7 := Lib.hid (below_step HB7.out hxb)
                      have SOX := Lib.hid ((SO.out.below HBX.out).below hxb)
                      clear hX hgx hxb y0 y1 hpi
                      obtain ⟨F, hF⟩ : ∃ F, decide ((z1, z2) = (([], []) : Nd)) = F := ⟨_, rfl⟩
                      have q7 := fun w => eq_ndz z1 z2 w
                      rw [hF] at q7
                      cases F
                      · have hzo := (HMK.out _ hys).2 hF
                        have hzs := (HZD.out _ hys).1
                        have hon : ∀ x ∈ ((z1, z2) : Nd) :: o, smallN x ∧ okN x = true := fun x hx => by
                          rcases List.mem_cons.1 hx with rfl | hx
                          · exact ⟨hzs, hzo⟩
                          · exact HOK.out x hx
                        have hsn : stepsW d (q1, q2) (((z1, z2) : Nd) :: o) := by
                          have h5 := HST.out; have h6 := HHD.out; have h7 := HOL.out; have h8 := HM.out
                          cases o with
                          | nil => simp at h7; omega
                          | cons a t =>
                            have h9 : a = (h1, h2) := h6
                            subst h9
                            exact stepsW_cons h5 hys
                        have HON := Lib.hid hon; have HSN := Lib.hid hsn
                        clear hzo hzs hon hsn hF hys
                        go_upto_region 24 with fail
                        have hown : (X.alloc (.cells #[.string (mkB z1), .string (mkB z2)] 24)).ownsRow X.heap.size 24 2 (.slice (some ⟨X.heap.size, 0, none⟩) 1 1) 1 (ndsC [(z1, z2)]) := ⟨rfl, .inr ⟨X.heap.size, 1, _, rfl, Nat.le_refl _, heap_alloc_new _ _, Nat.le_refl _, by unfold maxLen; omega, rfl, rfl⟩⟩
                        have hsz : X.heap.size ≤ (X.alloc (.cells #[.string (mkB z1), .string (mkB z2)] 24)).heap.size := by simp
                        have hbz := HBX7.out.alloc HBX7.out.size (.cells #[.string (mkB z1), .string (mkB z2)] 24)
                        have OWN := Lib.hid hown; have HBZ := Lib.hid hbz
                        have SOZ := Lib.hid (SOX.out.below ((Below.refl X.heap.size X).alloc (Nat.le_refl _) (.cells #[.string (mkB z1), .string (mkB z2)] 24)))
                        clear hown hbz
                        go_wp2_with (at_builtin; refine wpList_app_nd19 rfl _ _ rfl X.heap.size _ [(z1, z2)] 1 rfl rfl OWN.out _ m cO o rfl SOZ.out (by omega) hsz ?_; intro a9 c9 w10 ho9 hg9; have HO9 := Lib.hid ho9; have HB9 := Lib.hid (HBZ.out.grown hg9 HBZ.out.size fun b e => Nat.le_trans HBX7.out.size (own_lt OWN.out e).1); clear ho9 hg9)
                        have SO9 := Lib.hid (show Nds w10 (.slice a9 (1 + m) c9) (((z1, z2) : Nd) :: o) from by
                          have h5 := Nds.owned (ns := ((z1, z2) : Nd) :: o) (by rw [show (((z1, z2) : Nd) :: o).length = 1 + m by rw [List.length_cons, HOL.out]; omega]; exact HO9.out)
                          exact h5)
                        go_roundw
                        case rel => exact ⟨i + 1, 1 + m, ((z1, z2) : Nd) :: o, a9, c9, rfl, by go_num, by omega, Lib.hid (by rw [HM.out]; omega), Lib.hid (by rw [List.length_cons, HOL.out]; omega), SO9, HSN, HON, HB9⟩
                        case measure => simp [intOf]; omega
                      · clear hF hys
                        go_wp2_with (go_at_call 9; refine (wawake_any _).mono ?_; rintro e w9 ⟨rfl, hb1⟩; have BE := Lib.hid (below_step (below_step BB.out HBX7.out) hb1); clear hb1)
                        go_ret
                        exact ⟨rfl, BE.out⟩
                  · have hmem := of_decide_eq_true hR.symm
                    obtain ⟨-, l1, l2⟩ := HLST.out o HST.out (by rw [HHD.out]; exact hmem)
                    rw [HOL.out] at l1 l2
                    have hx1 : ¬ ((m : Int) < (ff : Int)) := by omega
                    clear hmem hR
                    by_cases hme : m = ff
                    · have hlo := l2 hme
                      have hx2 : ((m : Int) == (ff : Int)) = true := by rw [hme]; exact beq_self_eq_true _
                      have HLO := Lib.hid hlo
                      have SO6 := Lib.hid (SO.out.below HB2.out); have SC6 := Lib.hid ((Sc.out.below HB.out).below HB2.out); have HCM := Lib.hid (show o.length = C.length by rw [HOL.out, HCL.out, hme])
                      clear l1 l2 hlo hme
                      go_upto_region 19 with (go_at_call 13; refine (lower_any _ _ o C _ SO6.out SC6.out HCM.out HOK.out HCS.out (by rw [HOL.out]; omega)).mono ?_; rintro e w8 ⟨rfl, hb1⟩; rw [HLO.out]; have HB8 := Lib.hid (below_step HB2.out hb1); have HO8 := Lib.hid (ownsRow_belowB HO.out hb1); clear hb1)
                      obtain ⟨W9, hW9⟩ : ∃ v, v = w8 := ⟨_, rfl⟩
                      subst hW9
                      have HBX := Lib.hid HB8.out; have HOX := Lib.hid HO8.out
                      have HB7 := Lib.hid (below_step HB.out HBX.out)
                      go_upto_region 19 with fail
                      by_cases hnb0 : nb = 0
                      · subst hnb0
                        go_wp2_with (go_at_call 9; refine (wawake_any _).mono ?_; rintro e w9 ⟨rfl, hb1⟩; have BE := Lib.hid (below_step (below_step BB.out HB7.out) hb1); clear hb1)
                        go_ret
                        exact ⟨rfl, BE.out⟩
                      · have hb0 : ((nb : Int) == 0) = false := beq_eq_false_iff_ne.2 (by omega)
                        have hnbp : 0 < nb := by omega
                        obtain ⟨bP, oP, rfl, -, hpc⟩ := (SP.out.below HB7.out).at i (by rw [HNP.out]; exact hip)
                        have hpi := hpc i (by rw [HNP.out]; exact hip)
                        have hpf := FP.out (pk.getD i 0) (by rw [List.getD_eq_getElem?_getD, List.getElem?_eq_getElem (by rw [HNP.out]; exact hip)]; exact List.getElem_mem _)
                        obtain ⟨p, hp⟩ : ∃ p, pk.getD i 0 = p := ⟨_, rfl⟩
                        rw [hp] at hpi hpf
                        obtain ⟨p1, p2⟩ := hpf
                        obtain ⟨pn, hpn⟩ : ∃ n : Nat, p = (n : Int) := ⟨p.toNat, by omega⟩
                        subst hpn
                        obtain ⟨r, hr⟩ : ∃ r, pn % nb = r := ⟨_, rfl⟩
                        have hrl : r < nb := by rw [← hr]; exact Nat.mod_lt _ hnbp
                        have SB := Lib.hid (show Nds W9 (.slice aB nb cB) K from by
                          have h5 := Nds.owned (ns := K) (by rw [HKL.out]; exact HOX.out)
                          exact h5)
                        obtain ⟨bB, oB, rfl, -, y0, y1⟩ := SB.out.at r (by rw [HKL.out]; exact hrl)
                        have hys := HSX.out _ (nd_mem (l := K) (j := r) (by rw [HKL.out]; exact hrl))
                        obtain ⟨y, hy⟩ : ∃ y, y = K.getD r ([], []) := ⟨_, rfl⟩
                        rw [← hy] at y0 y1 hys
                        obtain ⟨z1, z2⟩ := y
                        simp only at y0 y1
                        clear hpc hy hp
                        go_upto_region 22 with fail
                        obtain ⟨X, gx, hX, hgx, e0, e1, hxb⟩ := boxNd W9 (.string (mkB z1)) (.string (mkB z2)) 24
                        rw [hX, hgx]
                        have HBX7 := Lib.hid (below_step HB7.out hxb)
                        have SOX := Lib.hid ((SO.out.below HBX.out).below hxb)
                        clear hX hgx hxb y0 y1 hpi
                        obtain ⟨F, hF⟩ : ∃ F, decide ((z1, z2) = (([], []) : Nd)) = F := ⟨_, rfl⟩
                        have q7 := fun w => eq_ndz z1 z2 w
                        rw [hF] at q7
                        cases F
                        · have hzo := (HMK.out _ hys).2 hF
                          have hzs := (HZD.out _ hys).1
                          have hon : ∀ x ∈ ((z1, z2) : Nd) :: o, smallN x ∧ okN x = true := fun x hx => by
                            rcases List.mem_cons.1 hx with rfl | hx
                            · exact ⟨hzs, hzo⟩
                            · exact HOK.out x hx
                          have hsn : stepsW d (q1, q2) (((z1, z2) : Nd) :: o) := by
                            have h5 := HST.out; have h6 := HHD.out; have h7 := HOL.out; have h8 := HM.out
                            cases o with
                            | nil => simp at h7; omega
                            | cons a t =>
                              have h9 : a = (h1, h2) := h6
                              subst h9
                              exact stepsW_cons h5 hys
                          have HON := Lib.hid hon; have HSN := Lib.hid hsn
                          clear hzo hzs hon hsn hF hys
                          go_upto_region 24 with fail
                          have hown : (X.alloc (.cells #[.string (mkB z1), .string (mkB z2)] 24)).ownsRow X.heap.size 24 2 (.slice (some ⟨X.heap.size, 0, none⟩) 1 1) 1 (ndsC [(z1, z2)]) := ⟨rfl, .inr ⟨X.heap.size, 1, _, rfl, Nat.le_refl _, heap_alloc_new _ _, Nat.le_refl _, by unfold maxLen; omega, rfl, rfl⟩⟩
                          have hsz : X.heap.size ≤ (X.alloc (.cells #[.string (mkB z1), .string (mkB z2)] 24)).heap.size := by simp
                          have hbz := HBX7.out.alloc HBX7.out.size (.cells #[.string (mkB z1), .string (mkB z2)] 24)
                          have OWN := Lib.hid hown; have HBZ := Lib.hid hbz
                          have SOZ := Lib.hid (SOX.out.below ((Below.refl X.heap.size X).alloc (Nat.le_refl _) (.cells #[.string (mkB z1), .string (mkB z2)] 24)))
                          clear hown hbz
                          go_wp2_with (at_builtin; refine wpList_app_nd19 rfl _ _ rfl X.heap.size _ [(z1, z2)] 1 rfl rfl OWN.out _ m cO o rfl SOZ.out (by omega) hsz ?_; intro a9 c9 w10 ho9 hg9; have HO9 := Lib.hid ho9; have HB9 := Lib.hid (HBZ.out.grown hg9 HBZ.out.size fun b e => Nat.le_trans HBX7.out.size (own_lt OWN.out e).1); clear ho9 hg9)
                          have SO9 := Lib.hid (show Nds w10 (.slice a9 (1 + m) c9) (((z1, z2) : Nd) :: o) from by
                            have h5 := Nds.owned (ns := ((z1, z2) : Nd) :: o) (by rw [show (((z1, z2) : Nd) :: o).length = 1 + m by rw [List.length_cons, HOL.out]; omega]; exact HO9.out)
                            exact h5)
                          go_roundw
                          case rel => exact ⟨i + 1, 1 + m, ((z1, z2) : Nd) :: o, a9, c9, rfl, by go_num, by omega, Lib.hid (by rw [HM.out]; omega), Lib.hid (by rw [List.length_cons, HOL.out]; omega), SO9, HSN, HON, HB9⟩
                          case measure => simp [intOf]; omega
                        · clear hF hys
                          go_wp2_with (go_at_call 9; refine (wawake_any _).mono ?_; rintro e w9 ⟨rfl, hb1⟩; have BE := Lib.hid (below_step (below_step BB.out HBX7.out) hb1); clear hb1)
                          go_ret
                          exact ⟨rfl, BE.out⟩
                    · have hx2 : ((m : Int) == (ff : Int)) = false := beq_eq_false_iff_ne.2 (by omega)
                      clear l1 l2 hme
                      obtain ⟨W9, hW9⟩ : ∃ v, v = wr := ⟨_, rfl⟩
                      subst hW9
                      have HBX := Lib.hid HB2.out; have HOX := Lib.hid HO.out
                      have HB7 := Lib.hid (below_step HB.out HBX.out)
                      go_upto_region 19 with fail
                      by_cases hnb0 : nb = 0
                      · subst hnb0
                        go_wp2_with (go_at_call 9; refine (wawake_any _).mono ?_; rintro e w9 ⟨rfl, hb1⟩; have BE := Lib.hid (below_step (below_step BB.out HB7.out) hb1); clear hb1)
                        go_ret
                        exact ⟨rfl, BE.out⟩
                      · have hb0 : ((nb : Int) == 0) = false := beq_eq_false_iff_ne.2 (by omega)
                        have hnbp : 0 < nb := by omega
                        obtain ⟨bP, oP, rfl, -, hpc⟩ := (SP.out.below HB7.out).at i (by rw [HNP.out]; exact hip)
                        have hpi := hpc i (by rw [HNP.out]; exact hip)
                        have hpf := FP.out (pk.getD i 0) (by rw [List.getD_eq_getElem?_getD, List.getElem?_eq_getElem (by rw [HNP.out]; exact hip)]; exact List.getElem_mem _)
                        obtain ⟨p, hp⟩ : ∃ p, pk.getD i 0 = p := ⟨_, rfl⟩
                        rw [hp] at hpi hpf
                        obtain ⟨p1, p2⟩ := hpf
                        obtain ⟨pn, hpn⟩ : ∃ n : Nat, p = (n : Int) := ⟨p.toNat, by omega⟩
                        subst hpn
                        obtain ⟨r, hr⟩ : ∃ r, pn % nb = r := ⟨_, rfl⟩
                        have hrl : r < nb := by rw [← hr]; exact Nat.mod_lt _ hnbp
                        have SB := Lib.hid (show Nds W9 (.slice aB nb cB) K from by
                          have h5 := Nds.owned (ns := K) (by rw [HKL.out]; exact HOX.out)
                          exact h5)
                        obtain ⟨bB, oB, rfl, -, y0, y1⟩ := SB.out.at r (by rw [HKL.out]; exact hrl)
                        have hys := HSX.out _ (nd_mem (l := K) (j := r) (by rw [HKL.out]; exact hrl))
                        obtain ⟨y, hy⟩ : ∃ y, y = K.getD r ([], []) := ⟨_, rfl⟩
                        rw [← hy] at y0 y1 hys
                        obtain ⟨z1, z2⟩ := y
                        simp only at y0 y1
                        clear hpc hy hp
                        go_upto_region 22 with fail
                        obtain ⟨X, gx, hX, hgx, e0, e1, hxb⟩ := boxNd W9 (.string (mkB z1)) (.string (mkB z2)) 24
                        rw [hX, hgx]
                        have HBX7 := Lib.hid (below_step HB7.out hxb)
                        have SOX := Lib.hid ((SO.out.below HBX.out).below hxb)
                        clear hX hgx hxb y0 y1 hpi
                        obtain ⟨F, hF⟩ : ∃ F, decide ((z1, z2) = (([], []) : Nd)) = F := ⟨_, rfl⟩
                        have q7 := fun w => eq_ndz z1 z2 w
                        rw [hF] at q7
                        cases F
                        · have hzo := (HMK.out _ hys).2 hF
                          have hzs := (HZD.out _ hys).1
                          have hon : ∀ x ∈ ((z1, z2) : Nd) :: o, smallN x ∧ okN x = true := fun x hx => by
                            rcases List.mem_cons.1 hx with rfl | hx
                            · exact ⟨hzs, hzo⟩
                            · exact HOK.out x hx
                          have hsn : stepsW d (q1, q2) (((z1, z2) : Nd) :: o) := by
                            have h5 := HST.out; have h6 := HHD.out; have h7 := HOL.out; have h8 := HM.out
                            cases o with
                            | nil => simp at h7; omega
                            | cons a t =>
                              have h9 : a = (h1, h2) := h6
                              subst h9
                              exact stepsW_cons h5 hys
                          have HON := Lib.hid hon; have HSN := Lib.hid hsn
                          clear hzo hzs hon hsn hF hys
                          go_upto_region 24 with fail
                          have hown : (X.alloc (.cells #[.string (mkB z1), .string (mkB z2)] 24)).ownsRow X.heap.size 24 2 (.slice (some ⟨X.heap.size, 0, none⟩) 1 1) 1 (ndsC [(z1, z2)]) := ⟨rfl, .inr ⟨X.heap.size, 1, _, rfl, Nat.le_refl _, heap_alloc_new _ _, Nat.le_refl _, by unfold maxLen; omega, rfl, rfl⟩⟩
                          have hsz : X.heap.size ≤ (X.alloc (.cells #[.string (mkB z1), .string (mkB z2)] 24)).heap.size := by simp
                          have hbz := HBX7.out.alloc HBX7.out.size (.cells #[.string (mkB z1), .string (mkB z2)] 24)
                          have OWN := Lib.hid hown; have HBZ := Lib.hid hbz
                          have SOZ := Lib.hid (SOX.out.below ((Below.refl X.heap.size X).alloc (Nat.le_refl _) (.cells #[.string (mkB z1), .string (mkB z2)] 24)))
                          clear hown hbz
                          go_wp2_with (at_builtin; refine wpList_app_nd19 rfl _ _ rfl X.heap.size _ [(z1, z2)] 1 rfl rfl OWN.out _ m cO o rfl SOZ.out (by omega) hsz ?_; intro a9 c9 w10 ho9 hg9; have HO9 := Lib.hid ho9; have HB9 := Lib.hid (HBZ.out.grown hg9 HBZ.out.size fun b e => Nat.le_trans HBX7.out.size (own_lt OWN.out e).1); clear ho9 hg9)
                          have SO9 := Lib.hid (show Nds w10 (.slice a9 (1 + m) c9) (((z1, z2) : Nd) :: o) from by
                            have h5 := Nds.owned (ns := ((z1, z2) : Nd) :: o) (by rw [show (((z1, z2) : Nd) :: o).length = 1 + m by rw [List.length_cons, HOL.out]; omega]; exact HO9.out)
                            exact h5)
                          go_roundw
                          case rel => exact ⟨i + 1, 1 + m, ((z1, z2) : Nd) :: o, a9, c9, rfl, by go_num, by omega, Lib.hid (by rw [HM.out]; omega), Lib.hid (by rw [List.length_cons, HOL.out]; omega), SO9, HSN, HON, HB9⟩
                          case measure => simp [intOf]; omega
                        · clear hF hys
                          go_wp2_with (go_at_call 9; refine (wawake_any _).mono ?_; rintro e w9 ⟨rfl, hb1⟩; have BE := Lib.hid (below_step (below_step BB.out HBX7.out) hb1); clear hb1)
                          go_ret
                          exact ⟨rfl, BE.out⟩
            · obtain rfl : i = 12 := by omega
              have hib : (12 : Int) < (np : Int) := by omega
              clear HOK HST SO
              go_wp2_with (go_at_call 9; refine (wawake_any _).mono ?_; rintro e w9 ⟨rfl, hb1⟩; have BE := Lib.hid (below_step (below_step BB.out HB.out) hb1); clear hb1)
              go_ret
              exact ⟨rfl, BE.out⟩
          · have hib : ¬ (i : Int) < (np : Int) := by omega
            clear HOK HST SO
            go_wp2_with (go_at_call 9; refine (wawake_any _).mono ?_; rintro e w9 ⟨rfl, hb1⟩; have BE := Lib.hid (below_step (below_step BB.out HB.out) hb1); clear hb1)
            go_ret
            exact ⟨rfl, BE.out⟩
    · have h1 := HPC.out
      rw [chainE_no (by simpa using hmn0)] at h1
      obtain ⟨h3, rfl⟩ := Prod.mk.inj h1
      clear h1 h3 hmn0
      go_wp2_with (go_at_call 9; refine (wawake_any _).mono ?_; rintro e w9 ⟨rfl, hb1⟩; replace qx0 := cell_keep qx0 hb1; replace qx1 := cell_keep qx1 hb1; replace SD := Lib.hid (SD.out.below hb1); replace Sc := Lib.hid (Sc.out.below hb1); replace BB := Lib.hid (below_step BB.out hb1); clear hb1)
      go_ret
      exact ⟨rfl, BB.out⟩

theorem own : ownKnob Try.prog.godebug = none := by kernel_rfl
theorem laidOut : laidOutB Try.prog = true := by kernel_rfl

set_option maxRecDepth 100000 in
theorem lifted (os : Os) (started : os.Started) (H : Type) (enc : TypeId × Value → H) :
    ReturnsInHanded {} Try.checked os 4 .any (Rows.whyLeastSpec.pre6 enc Try.prog Try.f4 Rows.whyLeastRow.domain false) (Rows.whyLeastSpec.post enc Try.prog Try.f4 false true false false) := by
  refine returnsInHanded_of_change (C := Try.checked) own started (by kernel_rfl) Try.func4
    (ChangeSpec.witness6 (enc := enc) (C := Try.checked) false ⟨#[], #[.slice none 0 0, .agg #[.string ByteArray.empty, .string ByteArray.empty], .slice none 0 0], []⟩ 8 (by kernel_rfl) (by kernel_rfl) (by kernel_rfl) (by kernel_rfl)) ?_
  intro W base args ds gs before hval0 hW hcnd _
  have hval : ∀ (j : Nat) t v, Try.f4.params[j]? = some t → args[j]? = some v → Value.okWide Try.prog W .any base t v := hval0
  have hW' := hW
  obtain ⟨p, q, hA0, hV, rfl, hfz, hnd⟩ := hW
  have hA : DataW.TrodAll enc Try.prog W 0 (fun _ => true) true Try.f4.params.toList args.toList ds p := hA0
  rw [Try.params4] at hA hval
  obtain ⟨v0, vs0, d0, ds0, p0, q0, hargs, rfl, rfl, h0, r0⟩ := trodAll_cons hA
  obtain ⟨v1, vs1, d1, ds1, p1, q1, rfl, rfl, rfl, h1, r1⟩ := trodAll_cons r0
  obtain ⟨v2, vs2, d2, ds2, p2, q2, rfl, rfl, rfl, h2, r2⟩ := trodAll_cons r1
  obtain ⟨rfl, rfl, rfl⟩ := trodAll_nil r2
  obtain rfl : args = #[v0, v1, v2] := by cases args; simp_all
  obtain ⟨rfl, rfl⟩ := trodVars_none hV
  obtain ⟨a0, len0, cap0, rfl⟩ := okWide_slice Try.underlying22 (hval 0 22 v0 rfl rfl)
  have k0 := h0
  have lt0 : ∀ x ∈ p0, x.block < W.heap.size := by obtain ⟨m, hm⟩ := k0; exact DataW.trod_lt m _ _ _ hm
  obtain ⟨z0, w0⟩ : ∃ zs, Nes W (.slice a0 len0 cap0) zs ∧ ∀ e ∈ zs, fitNe e := by
    obtain ⟨fuel, hf⟩ := h0
    exact nes_open (by simpa [Value.cells] using hf)
  have k1 := h1
  have lt1 : ∀ x ∈ p1, x.block < W.heap.size := by obtain ⟨m, hm⟩ := k1; exact DataW.trod_lt m _ _ _ hm
  obtain ⟨z1, w1⟩ := node_open (hval 1 24 v1 rfl rfl) h1
  obtain ⟨a2, len2, cap2, rfl⟩ := okWide_slice Try.underlying37 (hval 2 37 v2 rfl rfl)
  have k2 := h2
  have lt2 : ∀ x ∈ p2, x.block < W.heap.size := by obtain ⟨m, hm⟩ := k2; exact DataW.trod_lt m _ _ _ hm
  obtain ⟨z2, w2⟩ : ∃ zs, U8s W (.slice a2 len2 cap2) zs ∧ ∀ e ∈ zs, fitU8 e := by
    obtain ⟨fuel, hf⟩ := h2
    exact u8s_open (by simpa [Value.cells] using hf)
  clear hA0 hval0
  refine (walk _ z0 _ z1 _ z2 W w0 w1 w2).mono fun e W' ⟨he, bel⟩ => ?_
  subst he
  exact ⟨_, rfl, _, _, _, [], _, [], hW', trodAll_mk1 (shut_bool Try.underlying4 _), (trodAll_cons_mk (Below.trod laidOut (by kernel_rfl) (of_decide_eq_true (by kernel_rfl)) k0 bel lt0) (trodAll_cons_mk (Below.trod laidOut (by kernel_rfl) (of_decide_eq_true (by kernel_rfl)) k1 bel lt1) (trodAll_cons_mk (Below.trod laidOut (by kernel_rfl) (of_decide_eq_true (by kernel_rfl)) k2 bel lt2) trodAll_mk0))), rfl, bel.frame _, fun h => by cases h⟩

-- the given statement
theorem proved : Rows.WhyLeastSaid :=
  OpenClaim.holds_of_wide 4 Try.f4 rfl rfl rfl rfl rfl rfl rfl ⟨rfl, rfl, rfl, rfl, rfl⟩ rfl rfl rfl rfl rfl (by kernel_rfl) Try.func4 (by kernel_rfl)
    (of_decide_eq_true (by kernel_rfl)) (by unfold Func.isWrapper; first | (rw [if_pos (by decide +kernel)]; kernel_rfl) | (rw [if_neg (by decide +kernel)]; exact ⟨rfl, rfl⟩))
    (fun os started H enc _ => lifted os started H enc)
end Go.Proofs.Ytdefphacdcbljaa.whyLeast
