/- Of every needs and every node (no more, and no longer, than are looked at): the chain is one, to its node, has no node twice, and each beginning of it is the chain to its last one; no condition. -/
import Derived.Test.YtdefphacdcbljaaRows
import Derived.Test.YtdefphacdcbljaaWhyW
import Derived.ProofKit
import Derived.OpenShut
import Derived.ShutString
import Derived.ChangeOld
namespace Go.Proofs.Ytdefphacdcbljaa.whyChain
open Go.ChangeShapes Go.WideShapes Go.ChangeAt Go.RowKit
open Go.ChangeMaps (open_string shut_string)
set_option maxRecDepth 100000
set_option linter.unusedVariables false

theorem decNds (l : List Nd) : decide (l = l) = true := decide_eq_true rfl
theorem decDps (l : List Dp) : decide (l = l) = true := decide_eq_true rfl
theorem nd_front19 (A : Option Addr) (n c i : Nat) (hi : i ≤ n) (hc : n ≤ c) (w : World) : (Instr.sliceAt 27 (.slice A n c) none (some (.int .i64 (i : Int))) none).run Try.prog w = .ok (.slice A i c) w := by
  have h1 : (0 : Int) ≤ (i : Int) := by omega
  have h2 : (i : Int) ≤ (c : Int) := by omega
  have h3 : (Instr.sliceAt 27 (.slice A n c) none (some (.int .i64 (i : Int))) none).run Try.prog w = .ok (sliced A 0 i c 2) w := by go_simp
  rw [h3]
  unfold sliced
  by_cases e : c = 0
  · simp [e]
  · cases A with
    | none => simp
    | some ad => rw [if_neg e]; simp [Addr.add]
section
variable {P : Program} {o : Oper} {a : Act} {w : World}
theorem ex_front19 {t : TypeId} {x y : Operand} {vx vy v : Value} (hop : o.op = .slice t x none (some y) none) (hx : a.eval x = vx) (hy : a.eval y = vy) (hr : Sem.run P (Instr.sliceAt t vx none (some vy) none) w = .ok v w) : Sem.run P (execOp a.eval o) w = .ok (.value v) w := by
  simp only [execOp, hop, Option.map, hx, hy]
  simp [hr]
end
theorem nds_front19 {w : World} {A : Option Addr} {n c : Nat} {l : List Nd} (h : Nds w (.slice A n c) l) {i : Nat} (hi : i ≤ n) : Nds w (.slice A i c) (l.take i) := by
  obtain ⟨hl, hc, hm⟩ := h.lenE
  obtain ⟨a0, c0, hv, h1, h2, h3, h4⟩ := h.ex
  injection hv with e1 e2 e3
  subst e1 e3
  have hti : (l.take i).length = i := by rw [List.length_take]; omega
  refine ⟨A, c, by rw [hti], by omega, h2, h3, fun hp => ?_⟩
  rw [hti] at hp
  obtain ⟨b, off, ha, hlt, hcl⟩ := h4 (by omega)
  refine ⟨b, off, ha, hlt, fun j hj => ?_⟩
  rw [hti] at hj
  have e : (l.take i).getD j ([], []) = l.getD j ([], []) := by rw [List.getD_eq_getElem?_getD, List.getD_eq_getElem?_getD, List.getElem?_take, if_pos hj]
  rw [e]
  exact hcl j (by omega)
set_option maxRecDepth 100000 in
set_option maxHeartbeats 3200000 in
theorem walk (D : Value) (d0 : List Ne) (Q : Value) (q : Nd) (w : World) (hD : Nes w D d0 ∧ ∀ e ∈ d0, fitNe e) (hQ : Q = .agg #[.string (mkB q.1), .string (mkB q.2)] ∧ fitsN q) :
    Calls Try.prog 3 #[D, Q] w fun e w' => e = .returned (.bool true) ∧ Below w.heap.size w w' := by
  obtain ⟨hD, fD⟩ := hD
  obtain ⟨AD, cD, rfl, -⟩ := hD.ex
  have kfD := fun V w h => lfewo_any V d0 w h fD
  have hml := fewK_len d0; have hmz := fewK_small d0
  obtain ⟨mD, hmD⟩ : ∃ r, d0.length = r := ⟨_, rfl⟩
  rw [hmD] at hD ⊢
  obtain ⟨d, hd⟩ : ∃ r, fewK d0 = r := ⟨_, rfl⟩
  rw [hd] at kfD hml hmz
  obtain ⟨nd, hnd⟩ : ∃ r, d.length = r := ⟨_, rfl⟩
  rw [hnd] at hml kfD
  have hsz : ∀ x ∈ d, smallNe x := hmz
  have SUD := Lib.hid hD; have KFD := Lib.hid kfD; have HZD := Lib.hid hsz; have HND := Lib.hid hnd
  clear hD fD kfD hmz hsz hmD hd hnd
  obtain ⟨rfl, fq⟩ := hQ
  obtain ⟨pq, vq⟩ := q
  simp only at fq ⊢
  have hsq := oneN_small (pq, vq)
  have hoq := fun w => one_any pq vq w fq.1 fq.2
  obtain ⟨q1, hq1⟩ : ∃ r, fewL pq = r := ⟨_, rfl⟩
  obtain ⟨q2, hq2⟩ : ∃ r, fewL vq = r := ⟨_, rfl⟩
  have hsq2 : smallN (q1, q2) := by rw [← hq1, ← hq2]; exact hsq
  rw [hq1, hq2] at hoq
  obtain ⟨W, gq, hW, hg, r1, hb⟩ := boxHK w (.string (mkB pq)) (.string (mkB vq)) 24
  have HSQ := Lib.hid hsq2; have HOQ := Lib.hid hoq; have HLQ := Lib.hid (show w.heap.size ≤ gq by omega); have HW := Lib.hid hW; have HG := Lib.hid hg; have RQ := Lib.hid r1; have BB := Lib.hid hb
  clear hsq hsq2 hoq hq1 hq2 hW hg r1 hb fq
  have kch := fun V w h => wchain_any V d q1 q2 w h HZD.out (by rw [HND.out]; omega) HSQ.out
  obtain ⟨PC, hPC⟩ : ∃ E, chainE d (q1, q2) = E := ⟨_, rfl⟩
  rw [hPC] at kch
  obtain ⟨C, ck⟩ := PC
  simp only at kch
  obtain ⟨ff, hff⟩ : ∃ r, C.length = r := ⟨_, rfl⟩
  rw [hff] at kch
  have KCH := Lib.hid kch; have HPC := Lib.hid hPC; have HFF := Lib.hid hff
  clear kch hPC hff
  have ed : ∀ args w, (callFunc 6 args).run Try.prog w = .ok (.enter 6 args) w := enters_of Try.func6 (by kernel_rfl) rfl
  have e2 : ∀ args w, (callFunc 7 args).run Try.prog w = .ok (.enter 7 args) w := enters_of Try.func7 (by kernel_rfl) rfl
  have eh : ∀ args w, (callFunc 11 args).run Try.prog w = .ok (.enter 11 args) w := enters_of Try.func11 (by kernel_rfl) rfl
  go_enter Try.func3, Try.ntmps3
  go_upto_region 1 with fail
  rw [HW.out, HG.out]
  refine rol_run (by kernel_rfl) [[], [0], [], [0, 1, 2], [0, 1, 2, 3], [0, 1, 2, 3, 4]] (by kernel_rfl) [12, 13, 14, 15, 0] [[7], [0], [6], [2], [1], [3, 6]] [0, 1, 0, 0, 1, 4, 4, 0] [0, 0, 0, 0, 0, 4] [1000, 1000, 1000, 1000, 1000, 1000, 5, 4] [.val 12 (.slice AD mD cD), .mem 13 (rowG W.heap.size 39 4 nd (neC d)), .val 14 (.agg #[.string (mkB pq), .string (mkB vq)]), .val 15 (.agg #[.string (mkB q1), .string (mkB q2)]), .mem 0 (rowG W.heap.size 39 4 nd (neC d)), .box (gq) (.cells #[.string (mkB q1), .string (mkB q2)] 24), .box (gq) (.cells #[.string (mkB pq), .string (mkB vq)] 24), .val 0 (.slice AD mD cD)] (by kernel_rfl) ?_ (w.heap.size) (W.heap.size) rfl BB.out rfl (fun k => if k = gq then 4 else 6) ?_ ?_ ?_
  · intro j hj
    have hj3 : j < 8 := hj
    have hj2 : j = 0 ∨ j = 1 ∨ j = 2 ∨ j = 3 ∨ j = 4 ∨ j = 5 ∨ j = 6 ∨ j = 7 := by omega
    clear hj hj3
    rcases hj2 with rfl | rfl | rfl | rfl | rfl | rfl | rfl | rfl
    · exact trivial
    · exact rowG_near
    · exact trivial
    · exact trivial
    · exact rowG_near
    · exact trivial
    · exact trivial
    · exact trivial
  · intro j hj0 hj
    have hj1 : 6 ≤ j := hj0
    have hj3 : j < 8 := hj
    have hj2 : j = 6 ∨ j = 7 := by omega
    clear hj0 hj hj1 hj3
    rcases hj2 with rfl | rfl
    · exact ⟨RQ.out, if_pos rfl⟩
    · exact rfl
  · intro i hi a wx who hG hF
    have hz : a.tmps.size = 100 := hG.size
    have hi3 : i < 6 := hi
    have hi2 : i = 0 ∨ i = 1 ∨ i = 2 ∨ i = 3 ∨ i = 4 ∨ i = 5 := by omega
    clear hi hi3
    rcases hi2 with rfl | rfl | rfl | rfl | rfl | rfl
    · exact rol_val rfl rfl rfl (by rw [hz]; decide) (ex_move (Or.inl rfl) (eval_slot (hF 7 (by decide)))) hG.below
    · refine rol_calls rfl rfl rfl (by rw [hz]; decide) (ex_call rfl (by simp [eval_slot (hF 0 (by decide))]) ed) (KFD.out _ wx (SUD.out.below hG.below)) ?_ hG.below (Nat.le_trans BB.out.size hG.new)
      rintro e w1 ⟨u, rfl, hso, hb1⟩
      exact ⟨u, rfl, hb1, .inr (.inl ⟨_, u.ownBlock, rfl, fun b e => own_lt hso e, row_base hso hG.new, rfl⟩)⟩
    · exact rol_val rfl rfl rfl (by rw [hz]; decide) (ex_load rfl (eval_slot ((hG.slots 3 (by decide)).trans rfl)) (ld_node (row2 (hF 6 (by decide)).1).1 (row2 (hF 6 (by decide)).1).2.1)) hG.below
    · refine rol_calls rfl rfl rfl (by rw [hz]; decide) (ex_call rfl (by simp [eval_slot (hF 2 (by decide))]) e2) (HOQ.out wx) ?_ hG.below (Nat.le_trans BB.out.size hG.new)
      rintro e w1 ⟨rfl, hb1⟩
      exact ⟨_, rfl, hb1, .inl rfl⟩
    · exact rol_move rfl rfl rfl (by rw [hz]; decide) (Or.inr rfl) (hF 1 (by decide)) hG.below
    · exact rol_box_ndK rfl rfl rfl rfl (eval_slot ((hG.slots 3 (by decide)).trans rfl)) (eval_slot (hF 3 (by decide))) (hF 6 (by decide)) hG.below HLQ.out
  · intro a wx who hG hF
    obtain ⟨v0, ob0, fv0, fo0, fp0⟩ := hF 4 (of_decide_eq_true (by kernel_rfl)) (of_decide_eq_true (by kernel_rfl))
    replace fv0 : a.tmps.getD 0 undef = v0 := eval_slot (s := 0) fv0
    have hbq := hF 5 (of_decide_eq_true (by kernel_rfl)) (of_decide_eq_true (by kernel_rfl))
    have hbx := hG.below
    have hnx := hG.new
    rw [hG.frame]
    simp only [List.foldl_cons, List.foldl_nil, List.setIfInBounds_toArray, List.set_cons_zero, List.set_cons_succ]
    generalize a.tmps.getD 12 undef = u12
    generalize a.tmps.getD 13 undef = u13
    generalize a.tmps.getD 14 undef = u14
    generalize a.tmps.getD 15 undef = u15
    rw [fv0]
    clear hF hG fv0
    obtain ⟨aD, cE, rfl, hd⟩ := nesO (by rw [HND.out]; exact fp0.1)
    rw [HND.out] at hd ⊢
    have SD := Lib.hid hd
    clear hd
    obtain ⟨qx0, qx1, -, -⟩ := row2 hbq.1
    replace BB := Lib.hid hbx
    clear fo0 fp0 hbq hbx hnx RQ HOQ HW HG HLQ e2 SUD KFD
    go_upto_region 3 with (go_at_call 8; refine (KCH.out _ _ SD.out).mono ?_; rintro e w9 ⟨ac, cc, rfl, hd, hb1⟩; replace qx0 := cell_keep qx0 hb1; replace qx1 := cell_keep qx1 hb1; replace SD := Lib.hid (SD.out.below hb1); replace BB := Lib.hid (below_step BB.out hb1); have Sc := Lib.hid hd; clear hd hb1 KCH)
    by_cases hmn0 : (mayK d && okN (q1, q2)) = true
    · have hmn := (Bool.and_eq_true _ _).mp hmn0
      clear hmn0
      by_cases hf : farW d (q1, q2) = 0
      · have h1 := HPC.out
        rw [chainE_none hmn.1 hmn.2 hf] at h1
        obtain ⟨h3, rfl⟩ := Prod.mk.inj h1
        obtain rfl : ff = 0 := by rw [← HFF.out, ← h3]; rfl
        clear h1 h3 hmn hf
        go_wp2_with (go_at_call 9; refine (wawake_any _).mono ?_; rintro e w9 ⟨rfl, hb1⟩; replace qx0 := cell_keep qx0 hb1; replace qx1 := cell_keep qx1 hb1; replace SD := Lib.hid (SD.out.below hb1); replace Sc := Lib.hid (Sc.out.below hb1); replace BB := Lib.hid (below_step BB.out hb1); clear hb1)
        go_ret
        exact ⟨rfl, BB.out⟩
      · have h1 := HPC.out
        rw [chainE_yes hmn.1 hmn.2 (by omega)] at h1
        obtain ⟨h3, rfl⟩ := Prod.mk.inj h1
        have hp : 0 < farW d (q1, q2) := by omega
        have hcf := chain_facts hmn.1 hp
        have hnew := fun i hi => chain_new hmn.1 hp (i := i) hi
        have hcok := chW_ok hmn.1 hp
        have hfb := farW_bound hmn.1 (q1, q2)
        obtain ⟨fd, hfd⟩ : ∃ n, farW d (q1, q2) = n := ⟨_, rfl⟩
        rw [hfd] at hcf hnew hcok h3 hfb hp
        rw [h3] at hcf hnew hcok
        obtain ⟨hcl, hcfr, hlast, hcf⟩ := hcf
        obtain rfl : ff = fd := by rw [← HFF.out, hcl]
        have hfk : ff ≤ 30 := by rw [HND.out] at hfb; omega
        have hlg : C.getD (ff - 1) ([], []) = (q1, q2) := by
          obtain ⟨x, hx⟩ := hlast
          rw [hx, List.length_append, List.length_singleton] at hcl
          rw [hx, List.getD_eq_getElem?_getD, List.getElem?_append_right (by omega), show ff - 1 - x.length = 0 by omega]; rfl
        have hcs : ∀ n ∈ C, smallN n := fun n hn => by
          obtain ⟨j, hj, rfl⟩ := List.mem_iff_getElem.1 hn
          have h5 := (hcf j (by omega)).1
          rw [show C.getD j rootN = C[j] from nd_getD hj] at h5
          obtain ⟨x, hx, e⟩ := List.mem_map.1 (far_to hmn.1 (n := C[j]) (by omega))
          rw [← e]
          exact (HZD.out x hx).2
        have kis := fun U V w hU hV => wisy_any U V d C w hU hV hmn.1 HZD.out (by rw [HND.out]; omega) (by rw [hcl]; exact hp) (by rw [hcl]; omega) hcs hcok hcfr
        have hchn : ∀ i, i < ff → chainE d (C.getD i ([], [])) = (C.take (i + 1), 0) := fun i hi => by
          obtain ⟨h5, h6⟩ := hcf i hi
          have h7 : C.getD i ([], []) ∈ C := nd_mem (by rw [hcl]; exact hi)
          rw [chainE_yes hmn.1 (hcok _ h7) (by show 0 < farW d (C.getD i rootN); omega), show farW d (C.getD i ([], [])) = i + 1 from h5, h6]
        have kcy := fun y1 y2 (hy : (y1, y2) ∈ C) V w h => wchain_any V d y1 y2 w h HZD.out (by rw [HND.out]; omega) (hcs _ hy)
        have kha := fun i (y1 y2 : List UInt8) V w h => refnhas_any V (C.take i) y1 y2 w h
        have hm0 : ((ff : Int) == 0) = false := beq_eq_false_iff_ne.2 (by omega)
        have KIS := Lib.hid kis; have HLG := Lib.hid hlg; have HNEW := Lib.hid hnew; have HCHN := Lib.hid hchn; have KCY := Lib.hid kcy; have KHA0 := Lib.hid kha; have HCL := Lib.hid hcl
        clear h1 h3 hcf hnew hcok hfb hcfr hlast hfd hlg hcs kis hchn kcy kha hmn hf hcl
        go_upto_region 6 with (go_at_call 10; refine (KIS.out _ _ _ SD.out Sc.out).mono ?_; rintro e w9 ⟨rfl, hb1⟩; replace qx0 := cell_keep qx0 hb1; replace qx1 := cell_keep qx1 hb1; replace SD := Lib.hid (SD.out.below hb1); replace Sc := Lib.hid (Sc.out.below hb1); replace BB := Lib.hid (below_step BB.out hb1); clear hb1 KIS)
        obtain ⟨b, off, hacc, -, z0, z1⟩ := Sc.out.at (ff - 1) (by rw [HCL.out]; omega)
        subst hacc
        rw [HLG.out] at z0 z1
        simp only at z0 z1
        have hgd := guard_nd
        have hq : ∀ w, Sem.run Try.prog (binOp .neq 24 (.agg #[.string (mkB q1), .string (mkB q2)]) (.agg #[.string (mkB q1), .string (mkB q2)])) w = .ok (.bool false) w := fun w => by
          have := neq_nd q1 q2 q1 q2 w
          rw [decide_eq_true rfl] at this
          exact this
        have i1 : (0 : Int) ≤ (ff : Int) - 1 := by omega
        have i2 : (ff : Int) - 1 < (ff : Int) := by omega
        obtain ⟨W5, hW5⟩ : ∃ v, v = w9 := ⟨_, rfl⟩
        subst hW5
        go_quiet (fail)
        obtain ⟨W6, hW6⟩ : ∃ v, v = W5.drewN nq := ⟨_, rfl⟩
        rw [← hW6]
        have hbq := below_q (w := W5) ⟨nq, hW6⟩
        replace SD := Lib.hid (SD.out.below hbq); replace Sc := Lib.hid (Sc.out.below hbq); replace BB := Lib.hid (below_step BB.out hbq)
        clear hW6 hbq z0 z1 i1 i2 qx0 qx1 hq
        have hcc := Sc.out.lenE.2.1
        go_wp2
        go_loopw [9] (fun i wr => ∃ k : Nat, k ≤ ff ∧ i = .int .i64 k ∧ Hid (Below W6.heap.size W6 wr)) (fun i _ => ff - (intOf i).toNat)
        case atStart => exact ⟨0, Nat.zero_le _, rfl, Lib.hid (Below.refl _ _)⟩
        case round =>
          obtain ⟨i, hi, rfl, HB⟩ := hrel
          by_cases hlt : i < ff
          · have hil : i < C.length := by rw [HCL.out]; exact hlt
            obtain ⟨b', off', hbo, -, hc0, hc1⟩ := (Sc.out.below HB.out).at i hil
            injection hbo with hbo
            injection hbo with q1' q2'
            subst q1' q2'
            have hyc := nd_mem hil
            have hnw : hasN (C.take i) (C.getD i ([], [])) = false := HNEW.out i hlt
            have hce := HCHN.out i hlt
            obtain ⟨y, hy⟩ : ∃ y, y = C.getD i ([], []) := ⟨_, rfl⟩
            rw [← hy] at hc0 hc1 hyc hnw hce
            obtain ⟨y1, y2⟩ := y
            simp only at hc0 hc1
            have kcy := KCY.out y1 y2 hyc
            rw [hce] at kcy
            have hti : (C.take (i + 1)).length = i + 1 := by rw [List.length_take, HCL.out]; omega
            simp only [hti] at kcy
            have kha := fun w h => KHA0.out i y1 y2 (.slice (some ⟨b, off, none⟩) i cc) w h
            rw [hnw] at kha
            have hfr := nds_front19 (Sc.out.below HB.out) (i := i) (by omega)
            have KHA := Lib.hid kha; have KCI := Lib.hid kcy; have SFR := Lib.hid hfr; have HIL := Lib.hid (show i ≤ ff by omega); have HCC := Lib.hid hcc; have HIT := Lib.hid hlt; have HY0 := Lib.hid hc0; have HY1 := Lib.hid hc1; have HTI := Lib.hid hti
            have hkb : (i : Int) < (ff : Int) := by omega
            clear hy hyc hnw hce kcy hti kha hfr hc0 hc1 hil
            go_upto_region 11 with fail
            refine rol_run (by kernel_rfl) [[], [], [0, 1], [], [], [3, 4], [3, 4, 5], [0, 1, 2, 3, 4, 5, 6]] (by kernel_rfl) [71, 72, 73, 74, 75, 76, 77, 78] [[], [], [0, 1], [], [], [3, 4], [5], [2, 6]] [0, 0, 0, 0, 0, 0, 0, 0] [0, 0, 0, 0, 0, 0, 0, 0] [1000, 1000, 1000, 1000, 1000, 1000, 1000, 1000] [.val 71 (.slice (some ⟨b, off, none⟩) ff cc), .val 72 (.int .i64 (i : Int)), .val 73 (.slice (some ⟨b, off, none⟩) i cc), .val 74 (.slice (some ⟨b, off, none⟩) ff cc), .val 75 (.int .i64 (i : Int)), .val 76 (.pointer (some ⟨b, off + i * 2, none⟩)), .val 77 (.agg #[.string (mkB y1), .string (mkB y2)]), .val 78 (.bool false)] (by kernel_rfl) ?_ (wr.heap.size) (wr.heap.size) rfl (Below.refl _ _) rfl (fun _ => 0) ?_ ?_ ?_
            · intro j hj
              have hj3 : j < 8 := hj
              have hj2 : j = 0 ∨ j = 1 ∨ j = 2 ∨ j = 3 ∨ j = 4 ∨ j = 5 ∨ j = 6 ∨ j = 7 := by omega
              clear hj hj3
              rcases hj2 with rfl | rfl | rfl | rfl | rfl | rfl | rfl | rfl
              · exact trivial
              · exact trivial
              · exact trivial
              · exact trivial
              · exact trivial
              · exact trivial
              · exact trivial
              · exact trivial
            · intro j hj0 hj
              exact absurd hj (Nat.not_lt.2 hj0)
            · intro i hi a wx who hG hF
              have hz : a.tmps.size = 100 := hG.size
              have hi3 : i < 8 := hi
              have hi2 : i = 0 ∨ i = 1 ∨ i = 2 ∨ i = 3 ∨ i = 4 ∨ i = 5 ∨ i = 6 ∨ i = 7 := by omega
              clear hi hi3
              rcases hi2 with rfl | rfl | rfl | rfl | rfl | rfl | rfl | rfl
              · exact rol_val rfl rfl rfl (by rw [hz]; decide) (ex_move (Or.inl rfl) (eval_slot ((hG.slots 5 (by decide)).trans rfl))) hG.below
              · exact rol_val rfl rfl rfl (by rw [hz]; decide) (ex_move (Or.inl rfl) (eval_slot ((hG.slots 9 (by decide)).trans rfl))) hG.below
              · exact rol_val rfl rfl rfl (by rw [hz]; decide) (ex_front19 rfl (eval_slot (hF 0 (by decide))) (eval_slot (hF 1 (by decide))) (nd_front19 _ _ _ _ HIL.out HCC.out _)) hG.below
              · exact rol_val rfl rfl rfl (by rw [hz]; decide) (ex_move (Or.inl rfl) (eval_slot ((hG.slots 5 (by decide)).trans rfl))) hG.below
              · exact rol_val rfl rfl rfl (by rw [hz]; decide) (ex_move (Or.inl rfl) (eval_slot ((hG.slots 9 (by decide)).trans rfl))) hG.below
              · exact rol_val rfl rfl rfl (by rw [hz]; decide) (ex_index rfl (eval_slot (hF 3 (by decide))) (eval_slot (hF 4 (by decide))) (idx_nds HIT.out)) hG.below
              · exact rol_val rfl rfl rfl (by rw [hz]; decide) (ex_load rfl (eval_slot (hF 5 (by decide))) (ld_node (cell_keep HY0.out hG.below) (cell_keep HY1.out hG.below))) hG.below
              · refine rol_call rfl rfl rfl (by rw [hz]; decide) (ex_call rfl (by simp [eval_slot (hF 2 (by decide)), eval_slot (hF 6 (by decide))]) eh) (KHA.out wx (SFR.out.below hG.below)) ?_ hG.below hG.new
                rintro e w1 ⟨rfl, hd1⟩
                exact ⟨_, rfl, hd1, .inl rfl⟩
            · intro a wx who hG hF
              have fv78 : a.tmps.getD 78 undef = .bool false := eval_slot (s := 78) (hF 7 (of_decide_eq_true (by kernel_rfl)) (of_decide_eq_true (by kernel_rfl)))
              have hbx := hG.below
              have hnx := hG.new
              rw [hG.frame]
              simp only [List.foldl_cons, List.foldl_nil, List.setIfInBounds_toArray, List.set_cons_zero, List.set_cons_succ]
              generalize a.tmps.getD 71 undef = u71
              generalize a.tmps.getD 72 undef = u72
              generalize a.tmps.getD 73 undef = u73
              generalize a.tmps.getD 74 undef = u74
              generalize a.tmps.getD 75 undef = u75
              generalize a.tmps.getD 76 undef = u76
              generalize a.tmps.getD 77 undef = u77
              rw [fv78]
              clear hF hG fv78
              have SD1 := Lib.hid ((SD.out.below HB.out).below hbx); have SC1 := Lib.hid ((Sc.out.below HB.out).below hbx); have HB1 := Lib.hid (below_step HB.out hbx)
              have hc0 := cell_keep HY0.out hbx; have hc1 := cell_keep HY1.out hbx
              clear hbx hnx
              go_upto_region 14 with (go_at_call 8; refine (KCI.out _ _ SD1.out).mono ?_; rintro e w9 ⟨ax, cx, rfl, hd, hb1⟩; have SX := Lib.hid hd; have SC2 := Lib.hid (SC1.out.below hb1); have HB2 := Lib.hid (below_step HB1.out hb1); clear hd hb1)
              have hsl : ∀ w, (Instr.sliceAt 27 (.slice (some ⟨b, off, none⟩) ff cc) none (some (.int .i64 ((i : Int) + 1))) none).run Try.prog w = .ok (.slice (some ⟨b, off, none⟩) (i + 1) cc) w := fun w => nd_front19 (some ⟨b, off, none⟩) ff cc (i + 1) (by omega) HCC.out w
              have SG := Lib.hid (nds_front19 SC2.out (i := i + 1) (by omega))
              clear SD1 SC1 SC2 hc0 hc1
              go_wp2_with (go_at_call 12; refine (nsame_any _ _ _ _ _ SX.out SG.out).mono ?_; rintro e w9 ⟨rfl, hb1⟩; rw [decNds]; have HB3 := Lib.hid (below_step HB2.out hb1); clear hb1)
              go_roundw
              case rel => exact ⟨i + 1, by omega, by go_num, HB3⟩
              case measure => simp [intOf]; omega
          · clear KCY KHA0 HNEW HCHN
            go_wp2_with (go_at_call 9; refine (wawake_any _).mono ?_; rintro e w9 ⟨rfl, hb1⟩; have BE := Lib.hid (below_step (below_step BB.out HB.out) hb1); clear hb1)
            go_ret
            exact ⟨rfl, BE.out⟩
    · have h1 := HPC.out
      rw [chainE_no (by simpa using hmn0)] at h1
      obtain ⟨h3, rfl⟩ := Prod.mk.inj h1
      obtain rfl : ff = 0 := by rw [← HFF.out, ← h3]; rfl
      clear h1 h3 hmn0
      go_wp2_with (go_at_call 9; refine (wawake_any _).mono ?_; rintro e w9 ⟨rfl, hb1⟩; replace qx0 := cell_keep qx0 hb1; replace qx1 := cell_keep qx1 hb1; replace SD := Lib.hid (SD.out.below hb1); replace Sc := Lib.hid (Sc.out.below hb1); replace BB := Lib.hid (below_step BB.out hb1); clear hb1)
      go_ret
      exact ⟨rfl, BB.out⟩

theorem own : ownKnob Try.prog.godebug = none := by kernel_rfl
theorem laidOut : laidOutB Try.prog = true := by kernel_rfl

set_option maxRecDepth 100000 in
theorem lifted (os : Os) (started : os.Started) (H : Type) (enc : TypeId × Value → H) :
    ReturnsInHanded {} Try.checked os 3 .any (Rows.whyChainSpec.pre6 enc Try.prog Try.f3 Rows.whyChainRow.domain false) (Rows.whyChainSpec.post enc Try.prog Try.f3 false true false false) := by
  refine returnsInHanded_of_change (C := Try.checked) own started (by kernel_rfl) Try.func3
    (ChangeSpec.witness6 (enc := enc) (C := Try.checked) false ⟨#[], #[.slice none 0 0, .agg #[.string ByteArray.empty, .string ByteArray.empty]], []⟩ 8 (by kernel_rfl) (by kernel_rfl) (by kernel_rfl) (by kernel_rfl)) ?_
  intro W base args ds gs before hval0 hW hcnd _
  have hval : ∀ (j : Nat) t v, Try.f3.params[j]? = some t → args[j]? = some v → Value.okWide Try.prog W .any base t v := hval0
  have hW' := hW
  obtain ⟨p, q, hA0, hV, rfl, hfz, hnd⟩ := hW
  have hA : DataW.TrodAll enc Try.prog W 0 (fun _ => true) true Try.f3.params.toList args.toList ds p := hA0
  rw [Try.params3] at hA hval
  obtain ⟨v0, vs0, d0, ds0, p0, q0, hargs, rfl, rfl, h0, r0⟩ := trodAll_cons hA
  obtain ⟨v1, vs1, d1, ds1, p1, q1, rfl, rfl, rfl, h1, r1⟩ := trodAll_cons r0
  obtain ⟨rfl, rfl, rfl⟩ := trodAll_nil r1
  obtain rfl : args = #[v0, v1] := by cases args; simp_all
  obtain ⟨rfl, rfl⟩ := trodVars_none hV
  obtain ⟨a0, len0, cap0, rfl⟩ := okWide_slice Try.underlying22 (hval 0 22 v0 rfl rfl)
  have k0 := h0
  have lt0 : ∀ x ∈ p0, x.block < W.heap.size := by obtain ⟨m, hm⟩ := k0; exact DataW.trod_lt m _ _ _ hm
  obtain ⟨z0, w0⟩ : ∃ zs, Nes W (.slice a0 len0 cap0) zs ∧ ∀ e ∈ zs, fitNe e := by
    obtain ⟨fuel, hf⟩ := h0
    exact nes_open (by simpa [Value.cells] using hf)
  have k1 := h1
  have lt1 : ∀ x ∈ p1, x.block < W.heap.size := by obtain ⟨m, hm⟩ := k1; exact DataW.trod_lt m _ _ _ hm
  obtain ⟨z1, w1⟩ := node_open (hval 1 24 v1 rfl rfl) h1
  clear hA0 hval0
  refine (walk _ z0 _ z1 W w0 w1).mono fun e W' ⟨he, bel⟩ => ?_
  subst he
  exact ⟨_, rfl, _, _, _, [], _, [], hW', trodAll_mk1 (shut_bool Try.underlying4 _), (trodAll_cons_mk (Below.trod laidOut (by kernel_rfl) (of_decide_eq_true (by kernel_rfl)) k0 bel lt0) (trodAll_cons_mk (Below.trod laidOut (by kernel_rfl) (of_decide_eq_true (by kernel_rfl)) k1 bel lt1) trodAll_mk0)), rfl, bel.frame _, fun h => by cases h⟩

-- the given statement
theorem proved : Rows.WhyChainSaid :=
  OpenClaim.holds_of_wide 3 Try.f3 rfl rfl rfl rfl rfl rfl rfl ⟨rfl, rfl, rfl, rfl, rfl⟩ rfl rfl rfl rfl rfl (by kernel_rfl) Try.func3 (by kernel_rfl)
    (of_decide_eq_true (by kernel_rfl)) (by unfold Func.isWrapper; first | (rw [if_pos (by decide +kernel)]; kernel_rfl) | (rw [if_neg (by decide +kernel)]; exact ⟨rfl, rfl⟩))
    (fun os started H enc _ => lifted os started H enc)
end Go.Proofs.Ytdefphacdcbljaa.whyChain
