/- Of every list of nodes and every needs (no more, and no longer, than are looked at): what the root requires, and is reached, is missing by it; of what nobody needs nobody is told; without a manifest all that is reached is missing; no condition. -/
import Derived.Test.YtjnkjjlpkgbkiaaRows
import Derived.Test.YtjnkjjlpkgbkiaaLakI
import Derived.Test.YtjnkjjlpkgbkiaaLakN
import Derived.ProofKit
import Derived.OpenShut
import Derived.ShutString
import Derived.ChangeOld
namespace Go.Proofs.Ytjnkjjlpkgbkiaa.lackRoots
open Go.ChangeShapes Go.WideShapes Go.ChangeAt Go.RowKit
open Go.ChangeMaps (open_string shut_string)
set_option maxRecDepth 100000
set_option linter.unusedVariables false

theorem decNds (l : List Nd) : decide (l = l) = true := decide_eq_true rfl
theorem decLks (l : List Lk) : decide (l = l) = true := decide_eq_true rfl
theorem fewNs_text (l : List Nd) : ∀ n ∈ fewNs l, n.1.length ≤ 400 ∧ n.2.length ≤ 400 := fun n h => by
  obtain ⟨m, _, rfl⟩ := List.mem_map.1 h; exact ⟨fewL_len _, fewL_len _⟩
theorem minus_nil (l : List Nd) : minusN l [] = l := by
  unfold minusN
  exact List.filter_eq_self.2 fun x _ => rfl
theorem add_oneR {a c : Nat} (h : a + 1 = c) (hb : c ≤ 100000) : IntKind.i64.wrap ((a : Int) + 1) = (c : Int) := by
  rw [show ((a : Int) + 1) = (c : Int) by omega]; exact IntWalk.i64_in _ (by omega)
theorem eq_nds {p v p' v' : List UInt8} {b : Bool} {w : World} (h : decide ((p, v) = (p', v')) = b) : Sem.run Try.prog (binOp .eql 31 (.agg #[.string (mkB p), .string (mkB v)]) (.agg #[.string (mkB p'), .string (mkB v')])) w = .ok (.bool b) w := by
  rw [eq_nd, h]
set_option maxRecDepth 100000 in
set_option maxHeartbeats 3200000 in
theorem walk (Ua : Value) (ka : List Nd) (D : Value) (d0 : List Ne) (w : World) (hUa : Nds w Ua ka ∧ ∀ n ∈ ka, fitsN n) (hD : Nes w D d0 ∧ ∀ e ∈ d0, fitNe e) :
    Calls Try.prog 4 #[Ua, D] w fun e w' => e = .returned (.bool true) ∧ Below w.heap.size w w' := by
  obtain ⟨hUa, fUa⟩ := hUa
  obtain ⟨Aa, ca, rfl, -⟩ := hUa.ex
  have kfa := fun V w h => nfewo_any V ka w h fUa
  have hmla := fewNs_len ka; have hmza := fewNs_small ka; have hmta := fewNs_text ka
  obtain ⟨ma, hma⟩ : ∃ r, ka.length = r := ⟨_, rfl⟩
  rw [hma] at hUa ⊢
  obtain ⟨sa, hsa⟩ : ∃ r, fewNs ka = r := ⟨_, rfl⟩
  rw [hsa] at kfa hmla hmza hmta
  obtain ⟨na, hna⟩ : ∃ r, sa.length = r := ⟨_, rfl⟩
  rw [hna] at hmla
  have SUa := Lib.hid hUa; have KFa := Lib.hid kfa; have HZA := Lib.hid hmza; have HNA := Lib.hid hna; have HTA := Lib.hid hmta
  clear hUa fUa kfa hmza hmta hma hsa hna
  obtain ⟨hD, fD⟩ := hD
  obtain ⟨AD, cD, rfl, -⟩ := hD.ex
  have kfD := fun V w h => lfew_any V d0 w h fD
  have hml := fewK_len d0; have hmz := fewK_small d0
  obtain ⟨mD, hmD⟩ : ∃ r, d0.length = r := ⟨_, rfl⟩
  rw [hmD] at hD ⊢
  obtain ⟨d, hd⟩ : ∃ r, fewK d0 = r := ⟨_, rfl⟩
  rw [hd] at kfD hml hmz
  obtain ⟨nd, hnd⟩ : ∃ r, d.length = r := ⟨_, rfl⟩
  rw [hnd] at hml kfD
  have hsz : ∀ x ∈ d, smallNe x := hmz
  have SUD := Lib.hid hD; have KFD := Lib.hid kfD; have HZD := Lib.hid hsz; have HND := Lib.hid hnd
  clear hD fD kfD hmz hsz hmD hd hnd
  have BB := Lib.hid (Below.refl w.heap.size w)
  have kof := fun U D w hU hD => lOf_any U (.slice none 0 0) D sa [] d w hU (nds_none w) hD HZA.out (fun n hn => by cases hn) HZD.out (by rw [HNA.out]; omega) (by decide) (by rw [HND.out]; omega)
  obtain ⟨PO, hPO⟩ : ∃ E, lackKE sa [] d = E := ⟨_, rfl⟩
  rw [hPO] at kof
  obtain ⟨oo, ok⟩ := PO
  simp only at kof
  obtain ⟨no, hno⟩ : ∃ r, oo.length = r := ⟨_, rfl⟩
  have KOF := Lib.hid kof; have HPO := Lib.hid hPO; have HNO := Lib.hid hno
  clear kof hPO hno
  go_enter Try.func4, Try.ntmps4
  go_upto_region 2 with (first
      | (go_at_call 5; refine (KFa.out _ _ SUa.out).mono ?_; rintro e w9 ⟨v1, rfl, hr1, hb1⟩; replace SUD := Lib.hid (SUD.out.below hb1); replace BB := Lib.hid (below_step BB.out hb1); obtain ⟨aa, ca, rfl, hd⟩ := ndsO hr1; rw [HNA.out] at hd ⊢; have Sa := Lib.hid hd; clear hr1 hd hb1 KFa SUa)
      | (go_at_call 6; refine (KFD.out _ _ SUD.out).mono ?_; rintro e w9 ⟨aD, cD, rfl, hr1, hb1⟩; replace Sa := Lib.hid (Sa.out.below hb1); replace BB := Lib.hid (below_step BB.out hb1); have SD := Lib.hid hr1; clear hr1 hb1 KFD SUD))
  go_upto_region 3 with (go_at_call 7; refine (KOF.out _ _ _ Sa.out SD.out).mono ?_; rintro e w9 ⟨v1, rfl, ho1, hb1⟩; replace Sa := Lib.hid (Sa.out.below hb1); replace SD := Lib.hid (SD.out.below hb1); replace BB := Lib.hid (below_step BB.out hb1); obtain ⟨ao, co, hv1, hd1⟩ := ho1.form; rw [HNO.out] at hv1 hd1; subst hv1; have So := Lib.hid hd1; clear ho1 hd1 hb1 KOF)
  cases ho : ((checkN sa && checkN []) && mayK d)
  · have h2 := HPO.out
    rw [lackKE_no ho] at h2
    obtain ⟨h4, rfl⟩ := Prod.mk.inj h2
    obtain rfl : no = 0 := by rw [← HNO.out, ← h4]; rfl
    clear h2 h4 ho
    go_wp2_with (go_at_call 8; refine (kawake_any _).mono ?_; rintro e w9 ⟨rfl, hb1⟩; replace Sa := Lib.hid (Sa.out.below hb1); replace SD := Lib.hid (SD.out.below hb1); replace So := Lib.hid (So.out.below hb1); replace BB := Lib.hid (below_step BB.out hb1); clear hb1)
    go_ret
    exact ⟨rfl, BB.out⟩
  · have ho3 := ho
    rw [Bool.and_eq_true, Bool.and_eq_true] at ho
    have h2 := HPO.out
    rw [lackKE_yes ho.1.1 ho.1.2 ho.2, minus_nil] at h2
    obtain ⟨h4, rfl⟩ := Prod.mk.inj h2
    obtain rfl : no = na := by rw [← HNO.out, ← h4, lackK_len, HNA.out]
    have hat : ∀ i, i < no → oo.getD i zLk = (sa.getD i ([], []), byK (liveK sa d) (sa.getD i ([], []))) := fun i hi => by rw [← h4]; exact lackK_at (by rw [HNA.out]; exact hi)
    have HAT := Lib.hid hat; have HOD := Lib.hid ho.2
    clear h2 h4 ho ho3 hat
    obtain ⟨W9, hW9⟩ : ∃ v, v = w9 := ⟨_, rfl⟩
    subst hW9
    go_wp2
    go_loopw [7] (fun i wr => ∃ k : Nat, k ≤ no ∧ i = .int .i64 k ∧ Hid (Below W9.heap.size W9 wr)) (fun i _ => no - (intOf i).toNat)
    case atStart => exact ⟨0, Nat.zero_le _, rfl, Lib.hid (Below.refl _ _)⟩
    case round =>
      obtain ⟨i, hi, rfl, HB⟩ := hrel
      by_cases hlt : i < no
      · have hil : i < oo.length := by rw [HNO.out]; exact hlt
        have hia : i < sa.length := by rw [HNA.out]; exact hlt
        obtain ⟨bo, oo9, ab, nb, cb, rfl, co0, co1, co2, co3, hby⟩ := (So.out.below HB.out).at i hil
        obtain ⟨bs, os, rfl, -, cs0, cs1⟩ := (Sa.out.below HB.out).at i hia
        rw [HAT.out i hlt] at co0 co1 co3 hby
        obtain ⟨y, hy⟩ : ∃ y, y = sa.getD i ([], []) := ⟨_, rfl⟩
        rw [← hy] at co0 co1 co3 hby cs0 cs1
        obtain ⟨y1, y2⟩ := y
        have hlv := byK_live (live := sa) HOD.out (y1, y2)
        have hmem : ∀ x ∈ (byK (liveK sa d) (y1, y2)).1, hasN sa x = true := fun x hx => hasN_iff.2 (byK_liveMem HOD.out hx)
        have hln : (byK (liveK sa d) (y1, y2)).1.length ≤ (d.filter (toK (y1, y2))).length := by
          rw [hlv]
          exact Nat.le_trans (List.length_filter_le _ _) (byK_len d (y1, y2))
        have hrt : (byK (liveK sa d) (y1, y2)).2 = (d.filter (toK (y1, y2))).any rootK := by rw [hlv]; rfl
        obtain ⟨Y, hY⟩ : ∃ Y, byK (liveK sa d) (y1, y2) = Y := ⟨_, rfl⟩
        rw [hY] at hmem hln hrt hby co3
        obtain ⟨BY, R⟩ := Y
        simp only at co0 co1 co3 hby cs0 cs1 hmem hln hrt
        have hbl : BY.length = nb := hby.lenE.1
        rw [hbl] at hln
        have hgt := guard_nd
        have CO0 := Lib.hid co0; have CO1 := Lib.hid co1; have CO2 := Lib.hid co2; have CO3 := Lib.hid co3; have CS0 := Lib.hid cs0; have CS1 := Lib.hid cs1; have HBY := Lib.hid hby; have HMEM := Lib.hid hmem; have HLN := Lib.hid hln; have HRT := Lib.hid hrt; have HBL := Lib.hid hbl; have SD5 := Lib.hid (SD.out.below HB.out)
        clear hy hlv hmem hln hrt hY hby hbl co0 co1 co2 co3 cs0 cs1
        have hib : (i : Int) < (no : Int) := by omega
        obtain ⟨W8, hW8⟩ : ∃ v, v = wr := ⟨_, rfl⟩
        subst hW8
        go_wp2
        go_loopw [8, 9, 10] (fun v8 v9 v10 wr => ∃ (k c : Nat) (r : Bool), k ≤ nd ∧ c ≤ k ∧ Value.bool r = v8 ∧ v9 = .int .i64 c ∧ v10 = .int .i64 k ∧ Hid (((d.take k).filter (toK (y1, y2))).length = c) ∧ Hid (((d.take k).filter (toK (y1, y2))).any rootK = r) ∧ Hid (Below W8.heap.size W8 wr)) (fun _ _ v10 _ => nd - (intOf v10).toNat)
        case atStart => exact ⟨0, 0, false, Nat.zero_le _, Nat.le_refl _, rfl, rfl, rfl, Lib.hid rfl, Lib.hid rfl, Lib.hid (Below.refl _ _)⟩
        case round =>
          obtain ⟨k, c, r, hk, hck, rfl, rfl, rfl, HC, HR, HB8⟩ := hrel
          by_cases hltk : k < nd
          · have hkl : k < d.length := by rw [HND.out]; exact hltk
            obtain ⟨bd, od, rfl, -, cd0, cd1, cd2, cd3⟩ := (SD5.out.below HB8.out).at k hkl
            have htk : (d.take (k + 1)).filter (toK (y1, y2)) = (d.take k).filter (toK (y1, y2)) ++ (if toK (y1, y2) (d.getD k zNe) = true then [d.getD k zNe] else []) := by
              rw [ne_take hkl, List.filter_append, List.filter_cons, List.filter_nil]
            obtain ⟨z, hz⟩ : ∃ z, z = d.getD k zNe := ⟨_, rfl⟩
            rw [← hz] at cd0 cd1 cd2 cd3 htk
            obtain ⟨⟨z1, z2⟩, z3, z4⟩ := z
            simp only at cd0 cd1 cd2 cd3
            have co0 := cell_keep CO0.out HB8.out
            have co1 := cell_keep CO1.out HB8.out
            obtain ⟨O, hO⟩ : ∃ O, toK (y1, y2) ((z1, z2), z3, z4) = O := ⟨_, rfl⟩
            obtain ⟨t, ht⟩ : ∃ O, rootK ((z1, z2), z3, z4) = O := ⟨_, rfl⟩
            rw [hO] at htk
            have heq := fun w => eq_nds (w := w) (show decide ((z3, z4) = (y1, y2)) = O from hO)
            have heqz := eq_ndz z1 z2
            rw [show decide ((z1, z2) = (([], []) : Nd)) = t from ht] at heqz
            have HTK := Lib.hid htk; have HT := Lib.hid ht
            clear hz hO ht htk
            have hkb : (k : Int) < (nd : Int) := by omega
            cases O
            · go_wp2_with fail
              go_quiet (fail)
              go_wp2
              go_roundw
              case rel => exact ⟨k + 1, c, r, by omega, by omega, rfl, rfl, by go_num, Lib.hid (by rw [HTK.out, if_neg Bool.false_ne_true, List.append_nil]; exact HC.out), Lib.hid (by rw [HTK.out, if_neg Bool.false_ne_true, List.append_nil]; exact HR.out), Lib.hid (below_step HB8.out (below_q ⟨nq, rfl⟩))⟩
              case measure => simp [intOf]; omega
            · go_wp2_with fail
              go_quiet (fail)
              obtain ⟨Wq, hWq⟩ : ∃ Wq, wr.drewN nq = Wq := ⟨_, rfl⟩
              have hbq : Below wr.heap.size wr Wq := by rw [← hWq]; exact below_q ⟨nq, rfl⟩
              rw [hWq]
              replace cd0 := cell_keep cd0 hbq
              replace cd1 := cell_keep cd1 hbq
              have HBQ := Lib.hid (below_step HB8.out hbq)
              have hc1 := add_oneR (a := c) (c := c + 1) rfl (by omega)
              have HA := Lib.hid (show ((d.take (k + 1)).filter (toK (y1, y2))).any rootK = (r || t) by rw [HTK.out, if_pos trivial, List.any_append, HR.out]; simp [HT.out])
              have HL := Lib.hid (show ((d.take (k + 1)).filter (toK (y1, y2))).length = c + 1 by rw [HTK.out, if_pos trivial, List.length_append, HC.out]; rfl)
              clear hWq hbq cd2 cd3 co0 co1
              cases r
              · go_wp2
                go_roundw
                case rel => exact ⟨k + 1, c + 1, t, by omega, by omega, rfl, by go_num, by go_num, HL, Lib.hid (by rw [HA.out]; rfl), HBQ⟩
                case measure => simp [intOf]; omega
              · go_wp2
                go_roundw
                case rel => exact ⟨k + 1, c + 1, true, by omega, by omega, rfl, by go_num, by go_num, HL, Lib.hid (by rw [HA.out]; rfl), HBQ⟩
                case measure => simp [intOf]; omega
          · have e : k = nd := by omega
            subst e
            have hC := HC.out
            have hR := HR.out
            rw [List.take_of_length_le (by rw [HND.out]; exact Nat.le_refl _)] at hC hR
            have hle := HLN.out
            rw [hC] at hle
            have hrr := HRT.out
            rw [hR] at hrr
            subst hrr
            have hnb := fun w => neq_bool (w := w) (x := R) (y := R) (b := false) (by simp)
            have hnn := fun w => neq_nds (w := w) (p := y1) (v := y2) (p' := y1) (v' := y2) (b := false) (by simp)
            have hgt2 : decide (c < nb) = false := decide_eq_false (by omega)
            have hgt3 : ¬ c < nb := by omega
            have co0 := cell_keep CO0.out HB8.out
            have co1 := cell_keep CO1.out HB8.out
            have co2 := cell_keep CO2.out HB8.out
            have co3 := cell_keep CO3.out HB8.out
            have cs0 := cell_keep CS0.out HB8.out
            have cs1 := cell_keep CS1.out HB8.out
            clear hC hR hle
            go_wp2_with fail
            go_quiet (fail)
            obtain ⟨W7, hW7⟩ : ∃ Wq, wr.drewN nq = Wq := ⟨_, rfl⟩
            have hbq : Below wr.heap.size wr W7 := by rw [← hW7]; exact below_q ⟨nq, rfl⟩
            rw [hW7]
            have HB7 := Lib.hid (below_step HB8.out hbq)
            clear hW7 hbq co0 co1 co2 co3 cs0 cs1 hnb hnn
            go_wp2
            go_loopw [11] (fun v wr => ∃ k : Nat, k ≤ nb ∧ v = .int .i64 k ∧ Hid (Below W7.heap.size W7 wr)) (fun v _ => nb - (intOf v).toNat)
            case atStart => exact ⟨0, Nat.zero_le _, rfl, Lib.hid (Below.refl _ _)⟩
            case round =>
              obtain ⟨j, hj, rfl, HB6⟩ := hrel
              have hb86 : Below W8.heap.size W8 wr := below_step HB7.out HB6.out
              have co2 := cell_keep CO2.out hb86
              by_cases hltj : j < nb
              · have hjl : j < BY.length := by rw [HBL.out]; exact hltj
                obtain ⟨bz, oz, rfl, -, cz0, cz1⟩ := (HBY.out.below hb86).at j hjl
                have hm := HMEM.out _ (nd_mem hjl)
                obtain ⟨z, hz⟩ : ∃ z, z = BY.getD j ([], []) := ⟨_, rfl⟩
                rw [← hz] at cz0 cz1 hm
                obtain ⟨z1, z2⟩ := z
                simp only at cz0 cz1
                have SA6 := Lib.hid ((Sa.out.below HB.out).below hb86); have HMM := Lib.hid hm
                clear hz hm
                have hjb : (j : Int) < (nb : Int) := by omega
                go_wp2_with (go_at_call 11; refine (refnhas_any _ _ _ _ _ SA6.out).mono ?_; rintro e w5 ⟨rfl, hb1⟩; rw [HMM.out]; have HB5 := Lib.hid (below_step HB6.out hb1); clear hb1)
                go_roundw
                case rel => exact ⟨j + 1, by omega, by go_num, HB5⟩
                case measure => simp [intOf]; omega
              · have e : j = nb := by omega
                subst e
                go_wp2
                go_roundw
                case rel => exact ⟨i + 1, by omega, by go_num, Lib.hid (below_step HB.out hb86)⟩
                case measure => simp [intOf]; omega
      · have e : i = no := by omega
        subst e
        replace BB := Lib.hid (below_step BB.out HB.out)
        go_wp2_with (go_at_call 8; refine (kawake_any _).mono ?_; rintro e w9 ⟨rfl, hb1⟩; replace BB := Lib.hid (below_step BB.out hb1); clear hb1)
        go_ret
        exact ⟨rfl, BB.out⟩

theorem own : ownKnob Try.prog.godebug = none := by kernel_rfl
theorem laidOut : laidOutB Try.prog = true := by kernel_rfl

set_option maxRecDepth 100000 in
theorem lifted (os : Os) (started : os.Started) (H : Type) (enc : TypeId × Value → H) :
    ReturnsInHanded {} Try.checked os 4 .any (Rows.lackRootsSpec.pre6 enc Try.prog Try.f4 Rows.lackRootsRow.domain false) (Rows.lackRootsSpec.post enc Try.prog Try.f4 false true false false) := by
  refine returnsInHanded_of_change (C := Try.checked) own started (by kernel_rfl) Try.func4
    (ChangeSpec.witness6 (enc := enc) (C := Try.checked) false ⟨#[], #[.slice none 0 0, .slice none 0 0], []⟩ 8 (by kernel_rfl) (by kernel_rfl) (by kernel_rfl) (by kernel_rfl)) ?_
  intro W base args ds gs before hval0 hW hcnd _
  have hval : ∀ (j : Nat) t v, Try.f4.params[j]? = some t → args[j]? = some v → Value.okWide Try.prog W .any base t v := hval0
  have hW' := hW
  obtain ⟨p, q, hA0, hV, rfl, hfz, hnd⟩ := hW
  have hA : DataW.TrodAll enc Try.prog W 0 (fun _ => true) true Try.f4.params.toList args.toList ds p := hA0
  rw [Try.params4] at hA hval
  obtain ⟨v0, vs0, d0, ds0, p0, q0, hargs, rfl, rfl, h0, r0⟩ := trodAll_cons hA
  obtain ⟨v1, vs1, d1, ds1, p1, q1, rfl, rfl, rfl, h1, r1⟩ := trodAll_cons r0
  obtain ⟨rfl, rfl, rfl⟩ := trodAll_nil r1
  obtain rfl : args = #[v0, v1] := by cases args; simp_all
  obtain ⟨rfl, rfl⟩ := trodVars_none hV
  obtain ⟨a0, len0, cap0, rfl⟩ := okWide_slice Try.underlying22 (hval 0 22 v0 rfl rfl)
  have k0 := h0
  have lt0 : ∀ x ∈ p0, x.block < W.heap.size := by obtain ⟨m, hm⟩ := k0; exact DataW.trod_lt m _ _ _ hm
  obtain ⟨z0, w0⟩ : ∃ zs, Nds W (.slice a0 len0 cap0) zs ∧ ∀ n ∈ zs, fitsN n := by
    obtain ⟨fuel, hf⟩ := h0
    exact nds_open (by simpa [Value.cells] using hf)
  obtain ⟨a1, len1, cap1, rfl⟩ := okWide_slice Try.underlying23 (hval 1 23 v1 rfl rfl)
  have k1 := h1
  have lt1 : ∀ x ∈ p1, x.block < W.heap.size := by obtain ⟨m, hm⟩ := k1; exact DataW.trod_lt m _ _ _ hm
  obtain ⟨z1, w1⟩ : ∃ zs, Nes W (.slice a1 len1 cap1) zs ∧ ∀ e ∈ zs, fitNe e := by
    obtain ⟨fuel, hf⟩ := h1
    exact nes_open (by simpa [Value.cells] using hf)
  clear hA0 hval0
  refine (walk _ z0 _ z1 W w0 w1).mono fun e W' ⟨he, bel⟩ => ?_
  subst he
  exact ⟨_, rfl, _, _, _, [], _, [], hW', trodAll_mk1 (shut_bool Try.underlying4 _), (trodAll_cons_mk (Below.trod laidOut (by kernel_rfl) (of_decide_eq_true (by kernel_rfl)) k0 bel lt0) (trodAll_cons_mk (Below.trod laidOut (by kernel_rfl) (of_decide_eq_true (by kernel_rfl)) k1 bel lt1) trodAll_mk0)), rfl, bel.frame _, fun h => by cases h⟩

-- the given statement
theorem proved : Rows.LackRootsSaid :=
  OpenClaim.holds_of_wide 4 Try.f4 rfl rfl rfl rfl rfl rfl rfl ⟨rfl, rfl, rfl, rfl, rfl⟩ rfl rfl rfl rfl rfl (by kernel_rfl) Try.func4 (by kernel_rfl)
    (of_decide_eq_true (by kernel_rfl)) (by unfold Func.isWrapper; first | (rw [if_pos (by decide +kernel)]; kernel_rfl) | (rw [if_neg (by decide +kernel)]; exact ⟨rfl, rfl⟩))
    (fun os started H enc _ => lifted os started H enc)
end Go.Proofs.Ytjnkjjlpkgbkiaa.lackRoots
