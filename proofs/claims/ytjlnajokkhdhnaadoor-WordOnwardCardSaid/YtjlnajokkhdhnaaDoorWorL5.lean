/- For every kind, every text and every octet: the octet may follow a text that lives just if the longer text lives; with its rest each is a word; whether it ends one is as the whole text says; word's table of rests is as the program's text lays it (tied). -/
import Derived.Test.YtjlnajokkhdhnaaDoorRows
import Derived.Test.YtjlnajokkhdhnaaDoorWorN
import Derived.Test.YtjlnajokkhdhnaaDoorNumG
import Derived.Test.YtjlnajokkhdhnaaDoorCards
import Derived.Test.YtjlnajokkhdhnaaDoorTie
import Derived.SevenTiedAt
import Derived.LaidMore
import Derived.Stop.Joined
import Derived.ProofKit
import Derived.OpenShut
import Derived.ShutString
import Derived.ChangeOld
namespace Go.Proofs.YtjlnajokkhdhnaaDoor.wordOnward
open Go.ChangeShapes Go.WideShapes Go.ChangeAt Go.RowKit
open Go.ChangeMaps (open_string shut_string)
set_option maxRecDepth 100000
set_option linter.unusedVariables false

set_option maxHeartbeats 3200000 in
set_option maxRecDepth 100000 in
theorem walk (kd : Int) (a : ByteArray) (c : Int) (w : World) (wk : (Lit.int .u8 kd).wf = true) (ha : a.size ≤ maxLen) (wc : (Lit.int .u8 c).wf = true) (hR : RestIs w) :
    Calls Tryd.prog 7 #[.int .u8 kd, .string a, .int .u8 c] w fun e w' => e = .returned (.bool true) ∧ Below w.heap.size w w' := by
  obtain ⟨hk0, hk1⟩ := bounds_u8 wk
  obtain ⟨hc0, hc1⟩ := bounds_u8 wc
  have HA := Lib.hid ha; clear ha wk wc
  have hlx := few6_le a.data.toList
  obtain ⟨x, hx⟩ : ∃ x, few6 a.data.toList = x := ⟨_, rfl⟩
  rw [hx] at hlx
  have SX : Hid (x.length ≤ 1000000000) := Lib.hid (by omega)
  obtain ⟨k, hk⟩ : ∃ k, kd.toNat % 3 = k := ⟨_, rfl⟩
  have hk3 : k < 3 := by omega
  have e1 : kd.tmod 3 = (k : Int) := by rw [Int.tmod_eq_emod_of_nonneg hk0]; omega
  have e2 : kd % 3 = (k : Int) := by omega
  obtain ⟨c', rfl⟩ : ∃ c' : Nat, c = c' := ⟨c.toNat, by omega⟩
  have hc8 : c' < 256 := by omega
  have bx : (mkB x).size ≤ 400 := by rw [mkB_size]; omega
  have HX := Lib.hid hx; have HK := Lib.hid hk
  clear hx hk
  have B := Lib.hid (Below.refl w.heap.size w)
  have hn := liveZ_nat hk3 x
  have hmx := mkB_size x
  obtain ⟨n, hn'⟩ : ∃ n, liveN k 0 x = n := ⟨_, rfl⟩
  rw [hn'] at hn
  have HN := Lib.hid hn
  have HMX := Lib.hid hmx
  by_cases hq : n = x.length
  case neg =>
    have g1 : ((n : Int) != ((mkB x).size : Int)) = true := by rw [bne_iff_ne]; omega
    clear hn hmx hn' hq
    go_enter Tryd.func7, Tryd.ntmps7
    go_wp2_with (first
      | (go_at_call 9; refine (few6_any _ _ (by first | exact HA.out)).mono ?_; rintro e w' ⟨rfl, rfl⟩; rw [HX.out])
      | (go_at_call 10; refine (live_m _ _ _ SX.out).mono ?_; rintro e w1 ⟨rfl, hb1⟩; rw [HN.out]; replace B := Lib.hid (below_step B.out hb1); clear hb1)
      | (go_at_call 12; refine (awake6_any _ (hR.below B.out)).mono ?_; rintro e w1 ⟨rfl, hb1⟩; replace B := Lib.hid (below_step B.out hb1); clear hb1))
    go_ret
    exact ⟨rfl, B.out⟩
  have g1 : ((n : Int) != ((mkB x).size : Int)) = false := by rw [bne_eq_false_iff_eq]; omega
  have hrun := (run_last k x 0).1 (by rw [hn', hq])
  obtain ⟨e, he⟩ : ∃ e, lastN k 0 x = e := ⟨_, rfl⟩
  rw [he] at hrun
  have hie := inK_run hk3 x (inK_zero hk3) hrun
  have RUN0 : Hid (runO k 0 ((mkB x).data.toList.drop 0) = some e) := Lib.hid (by rw [mkB_list]; exact hrun)
  have HRUN := Lib.hid hrun; have HIE := Lib.hid hie; have HKK := Lib.hid hk3
  have IN0 : Hid (inK k 0) := Lib.hid (inK_zero hk3)
  clear hn hmx hn' hq hrun he hie hk3
  go_enter Tryd.func7, Tryd.ntmps7
  go_upto_region 7 with (first
    | (go_at_call 9; refine (few6_any _ _ (by first | exact HA.out)).mono ?_; rintro e w' ⟨rfl, rfl⟩; rw [HX.out])
    | (go_at_call 10; refine (live_m _ _ _ SX.out).mono ?_; rintro e w1 ⟨rfl, hb1⟩; rw [HN.out]; replace B := Lib.hid (below_step B.out hb1); clear hb1))
  go_loopw [8, 9] (fun t i wr => ∃ s j : Nat, j ≤ (mkB x).size ∧ t = .int .i64 (s : Int) ∧ i = .int .i64 (j : Int) ∧ Hid (inK k s) ∧ Hid (runO k s ((mkB x).data.toList.drop j) = some e) ∧ Hid (Below w'.heap.size w' wr)) (fun _ i _ => (mkB x).size - (intOf i).toNat)
  case atStart => exact ⟨0, 0, Nat.zero_le _, rfl, rfl, IN0, RUN0, B⟩
  case round =>
    clear B
    obtain ⟨s, j, hj, rfl, rfl, IS, RS, B⟩ := hrel
    by_cases hlt : j < (mkB x).size
    · have hr := RS.out
      rw [drop_at (mkB x) j hlt] at hr
      obtain ⟨b, hb, hr2⟩ := run_round hr
      have hst : stepI k s (mkB x)[j].toNat = some b := by rw [stepI_nat k s _ HKK.out IS.out.1]; exact hb
      have IB := Lib.hid (inK_step HKK.out IS.out hb)
      have HST := Lib.hid hst; have RB := Lib.hid hr2
      have hc9 : (mkB x)[j].toNat < 256 := UInt8.toNat_lt _
      clear hr hb hst hr2
      go_wp2_with (go_at_call 17; refine (step_any _ _ _ hc9 _).mono ?_; rintro e' w1 ⟨rfl, hb1⟩; rw [HST.out]; unfold stepE; replace B := Lib.hid (below_step B.out hb1); clear hb1)
      go_roundw
      case rel => exact ⟨b, j + 1, by omega, rfl, by go_num, IB, RB, B⟩
      case measure => simp [intOf]; omega
    · have hs : s = e := by
        have hr := RS.out
        rw [drop_end (mkB x) j (by omega), runO] at hr
        injection hr
      subst hs
      have hke := HIE.out
      have hmx := HMX.out
      obtain ⟨u, hu⟩ : ∃ u, UInt8.ofNat c' = u := ⟨_, rfl⟩
      have hun : u.toNat = c' := by rw [← hu, UInt8.toNat_ofNat']; omega
      obtain ⟨t, ht⟩ : ∃ t, x ++ [u] = t := ⟨_, rfl⟩
      have htl : t.length = x.length + 1 := by rw [← ht]; simp
      have hon := onward HRUN.out u
      rw [ht, hun] at hon
      have T1 := Lib.hid (show mkB x ++ byteS (c' : Int) = mkB t by rw [cat_byteS, hu, ht])
      have ST : Hid (t.length ≤ 1000000000) := Lib.hid (by omega)
      have hconv : ∀ (c : Int) (W : World), _ := one_byte
      have hbs : ∀ c : Int, (byteS c).size = 1 := fun _ => rfl
      have hmt : (mkB t).size = x.length + 1 := by rw [mkB_size, htl]
      have bt : (mkB t).size ≤ 400 := by omega
      have hlive := liveZ_nat HKK.out t
      have hr0 := rest_len ⟨k, HKK.out⟩ ⟨s, hke.1⟩
      have hwr := whole_rest HKK.out HRUN.out
      have hre := restI_nat k s HKK.out hke
      obtain ⟨rE, hrE⟩ : ∃ r, restO k s = r := ⟨_, rfl⟩
      simp only at hr0
      rw [hrE] at hr0 hwr hre
      obtain ⟨q1, hq1⟩ : ∃ q, x ++ rE = q := ⟨_, rfl⟩
      have T2 := Lib.hid (show mkB x ++ mkB rE = mkB q1 by rw [cat_txt, hq1])
      have S1 : Hid (q1.length ≤ 1000000000) := Lib.hid (by rw [← hq1, List.length_append]; omega)
      have br : (mkB rE).size ≤ 400 := by rw [mkB_size]; omega
      rw [hq1] at hwr
      have W1 := Lib.hid (show wholeZ (k : Int) q1 = true by rw [wholeZ_nat HKK.out]; exact hwr)
      have RE := Lib.hid hre
      clear hwr hre hr0 hrE hq1 RS IS
      cases ho : stepO k s c' with
      | none =>
        have hl := hon.1 ho
        rw [hl] at hlive
        have LT := Lib.hid hlive
        have SI := Lib.hid (show stepI k s c' = none by rw [stepI_nat k s c' HKK.out hke.1]; exact ho)
        have g2 : ((x.length : Int) == ((mkB t).size : Int)) = false := beq_eq_false_iff_ne.2 (by omega)
        have HMT := Lib.hid hmt
        clear hon hl hlive ho hmt hke hmx
        go_wp2_with (first
          | (go_at_call 17; refine (step_any _ _ c' hc8 _).mono ?_; rintro e' w1 ⟨rfl, hb1⟩; rw [SI.out]; unfold stepE; replace B := Lib.hid (below_step B.out hb1); clear hb1)
          | (go_at_call 10; (first | rw [T1.out] | skip); refine (live_m _ _ _ ST.out).mono ?_; rintro e' w1 ⟨rfl, hb1⟩; rw [LT.out]; (first | replace B := Lib.hid (below_step (B.out.alloc B.out.size _) hb1) | replace B := Lib.hid (below_step B.out hb1)); clear hb1)
          | (go_at_call 15; refine (rest_any _ _ _ (hR.below B.out)).mono ?_; rintro e' w1 ⟨rfl, hb1⟩; rw [RE.out]; replace B := Lib.hid (below_step B.out hb1); clear hb1)
          | (go_at_call 11; rw [T2.out]; refine (whole_m _ _ _ S1.out (hR.below B.out)).mono ?_; rintro e' w1 ⟨rfl, hb1⟩; rw [W1.out]; replace B := Lib.hid (below_step B.out hb1); clear hb1)
          | (go_at_call 12; refine (awake6_any _ (hR.below B.out)).mono ?_; rintro e' w1 ⟨rfl, hb1⟩; replace B := Lib.hid (below_step B.out hb1); clear hb1))
        go_ret
        exact ⟨rfl, B.out⟩
      | some b =>
        obtain ⟨hl, hrt⟩ := hon.2 b ho
        rw [hl] at hlive
        have LT := Lib.hid hlive
        have SI := Lib.hid (show stepI k s c' = some b by rw [stepI_nat k s c' HKK.out hke.1]; exact ho)
        have hib := inK_run HKK.out t (inK_zero HKK.out) hrt
        have g2 : (((x.length + 1 : Nat) : Int) == ((mkB t).size : Int)) = true := beq_iff_eq.2 (by omega)
        have HMT := Lib.hid hmt
        have hr0 := rest_len ⟨k, HKK.out⟩ ⟨b, hib.1⟩
        have hwr := whole_rest HKK.out hrt
        have hre := restI_nat k b HKK.out hib
        have hwe := whole_ends HKK.out hrt
        obtain ⟨rB, hrB⟩ : ∃ r, restO k b = r := ⟨_, rfl⟩
        simp only at hr0
        rw [hrB] at hr0 hwr hre
        obtain ⟨q2, hq2⟩ : ∃ q, t ++ rB = q := ⟨_, rfl⟩
        have T3 := Lib.hid (show mkB t ++ mkB rB = mkB q2 by rw [cat_txt, hq2])
        have S2 : Hid (q2.length ≤ 1000000000) := Lib.hid (by rw [← hq2, List.length_append]; omega)
        have br2 : (mkB rB).size ≤ 400 := by rw [mkB_size]; omega
        rw [hq2] at hwr
        have W2 := Lib.hid (show wholeZ (k : Int) q2 = true by rw [wholeZ_nat HKK.out]; exact hwr)
        have RB := Lib.hid hre
        obtain ⟨p, hp⟩ : ∃ p, endsO k b = p := ⟨_, rfl⟩
        rw [hp] at hwe
        have EB := Lib.hid (show endsI k b = p by rw [endsI_nat k b HKK.out hib.1]; exact hp)
        have W3 := Lib.hid (show wholeZ (k : Int) t = p by rw [wholeZ_nat HKK.out]; exact hwe)
        obtain ⟨m, hm⟩ : ∃ m, x.length + 1 = m := ⟨_, rfl⟩
        rw [hm] at LT g2
        clear hon hl hlive ho hmt hke hmx hrt hib hr0 hwr hre hwe hrB hq2 hp hm
        cases p
        all_goals
          go_wp2_with (first
            | (go_at_call 17; refine (step_any _ _ c' hc8 _).mono ?_; rintro e' w1 ⟨rfl, hb1⟩; rw [SI.out]; unfold stepE; replace B := Lib.hid (below_step B.out hb1); clear hb1)
            | (go_at_call 10; (first | rw [T1.out] | skip); refine (live_m _ _ _ ST.out).mono ?_; rintro e' w1 ⟨rfl, hb1⟩; rw [LT.out]; (first | replace B := Lib.hid (below_step (B.out.alloc B.out.size _) hb1) | replace B := Lib.hid (below_step B.out hb1)); clear hb1)
            | (go_at_call 15; refine (rest_any _ _ _ (hR.below B.out)).mono ?_; rintro e' w1 ⟨rfl, hb1⟩; (first | rw [RB.out] | rw [RE.out]); replace B := Lib.hid (below_step B.out hb1); clear hb1)
            | (go_at_call 16; refine (ends_any _ _ _ (hR.below B.out)).mono ?_; rintro e' w1 ⟨rfl, hb1⟩; rw [EB.out]; replace B := Lib.hid (below_step B.out hb1); clear hb1)
            | (go_at_call 11; (first | rw [T2.out] | rw [T3.out] | skip); refine (whole_m _ _ _ (by first | exact S1.out | exact S2.out | exact ST.out) (hR.below B.out)).mono ?_; rintro e' w1 ⟨rfl, hb1⟩; (first | rw [W1.out] | rw [W2.out] | rw [W3.out]); replace B := Lib.hid (below_step B.out hb1); clear hb1)
            | (go_at_call 12; refine (awake6_any _ (hR.below B.out)).mono ?_; rintro e' w1 ⟨rfl, hb1⟩; replace B := Lib.hid (below_step B.out hb1); clear hb1))
          go_ret
          exact ⟨rfl, B.out⟩

theorem own : ownKnob Tryd.prog.godebug = none := by kernel_rfl
theorem laidOut : laidOutB Tryd.prog = true := by kernel_rfl

set_option maxRecDepth 100000 in
theorem lifted (os : Os) (started : os.Started) (H : Type) (enc : TypeId × Value → H) :
    ReturnsInHanded {} Tryd.checked os 7 .any (fun w args => (Rows.wordOnwardSpec.pre enc Tryd.prog Tryd.f7 [] false w args ∧ laidMetH Tryd.prog Rows.wordOnwardRow.laid w) ∧ sizedMet enc Tryd.prog Tryd.f7 (OpenSpec.ofChange Rows.wordOnwardSpec) false w args) (Rows.wordOnwardSpec.post enc Tryd.prog Tryd.f7 false true false false) := by
  refine returnsInHanded_of_change_and (C := Tryd.checked) (X := fun w _ => laidMetH Tryd.prog Rows.wordOnwardRow.laid w) (fun _ _ _ hh h => h.of_heap hh) own started (by kernel_rfl) Tryd.func7
    (ChangeSpec.witness_shaped (enc := enc) (C := Tryd.checked) (os := os) (X := fun w _ => laidMetH Tryd.prog Rows.wordOnwardRow.laid w) false (World.doorLaid Tryd.prog 400 os) #[.int .u8 0, .string ByteArray.empty, .int .u8 0] 8 rfl (World.shaped_of_RefB (by kernel_rfl) (by kernel_rfl)) (by kernel_rfl) (by kernel_rfl) (by kernel_rfl) (laid_met os _)) ?_
  intro W base args ds gs before hval0 hW _ _ hL _
  have htab := tab_of hL
  have hval : ∀ (j : Nat) t v, Tryd.f7.params[j]? = some t → args[j]? = some v → Value.okWide Tryd.prog W .any base t v := hval0
  have hW' := hW
  obtain ⟨p, q, hA0, hV, rfl, hfz, hnd⟩ := hW
  have hA : DataW.TrodAll enc Tryd.prog W 0 (fun _ => true) true Tryd.f7.params.toList args.toList ds p := hA0
  rw [Tryd.params7] at hA hval
  obtain ⟨v0, vs0, d0, ds0, p0, q0, hargs, rfl, rfl, h0, r0⟩ := trodAll_cons hA
  obtain ⟨v1, vs1, d1, ds1, p1, q1, rfl, rfl, rfl, h1, r1⟩ := trodAll_cons r0
  obtain ⟨v2, vs2, d2, ds2, p2, q2, rfl, rfl, rfl, h2, r2⟩ := trodAll_cons r1
  obtain ⟨rfl, rfl, rfl⟩ := trodAll_nil r2
  obtain rfl : args = #[v0, v1, v2] := by cases args; simp_all
  obtain ⟨rfl, rfl⟩ := trodVars_none hV
  obtain ⟨a0, rfl, rfl, rfl, w0⟩ := open_int Tryd.underlying5 (hval 0 5 v0 rfl rfl) h0
  obtain ⟨a1, rfl, rfl, rfl, w1⟩ := open_string Tryd.underlying9 (hval 1 9 v1 rfl rfl) h1
  obtain ⟨a2, rfl, rfl, rfl, w2⟩ := open_int Tryd.underlying5 (hval 2 5 v2 rfl rfl) h2
  clear hA0 hval0
  refine (walk a0 a1 a2 W w0 w1 w2 htab).mono fun e W' ⟨he, bel⟩ => ?_
  subst he
  exact ⟨_, rfl, _, _, _, [], _, [], hW', trodAll_mk1 (shut_bool Tryd.underlying4 _), (trodAll_cons_mk (shut_int Tryd.underlying5 w0) (trodAll_cons_mk (shut_string Tryd.underlying9 w1) (trodAll_cons_mk (shut_int Tryd.underlying5 w2) trodAll_mk0))), rfl, bel.frame _, fun h => by cases h⟩

-- the row
theorem holds : Rows.WordOnwardSaid :=
  OpenClaim.holds_of_wide 7 Tryd.f7 rfl rfl rfl rfl rfl rfl rfl ⟨rfl, rfl, rfl, rfl, rfl⟩ rfl rfl rfl rfl rfl (by kernel_rfl) Tryd.func7 (by kernel_rfl)
    (of_decide_eq_true (by kernel_rfl)) (by unfold Func.isWrapper; first | (rw [if_pos (by decide +kernel)]; kernel_rfl) | (rw [if_neg (by decide +kernel)]; exact ⟨rfl, rfl⟩))
    (fun os started H enc _ => lifted os started H enc)
-- the given statement: the tied card
theorem proved : Rows.WordOnwardCardSaid :=
  Claim7.holds_tied_plain_at .later [] [.data] true Rows.wordOnwardCard.stood.harness false
    holds (fun _ h => by cases h) (by kernel_rfl) (fun _ h => by cases h) wordOnward_row_tie rfl ⟨rfl, rfl⟩ (by kernel_rfl) rfl
    (fun f fn hf hfn => by
      obtain rfl : f = 7 := Option.some.inj ((show Tryd.prog.funcNamed Rows.wordOnwardRow.func = some 7 by kernel_rfl).symm.trans hf) |>.symm
      obtain rfl : fn = Tryd.f7 := (Option.some.inj (Tryd.func7.symm.trans hfn)).symm
      exact ⟨by kernel_rfl, fun j t ht => by
        have hall : (Tryd.f7.params.toList.all fun u => !Tryd.prog.wantsStandIn u) = true := by kernel_rfl
        have hm : t ∈ Tryd.f7.params.toList := Array.mem_toList_iff.2 (Array.mem_of_getElem? ht)
        exact (show Tryd.prog.wantsStandIn t = false by simpa using List.all_eq_true.1 hall t hm)⟩)
    (by kernel_rfl)
end Go.Proofs.YtjlnajokkhdhnaaDoor.wordOnward
