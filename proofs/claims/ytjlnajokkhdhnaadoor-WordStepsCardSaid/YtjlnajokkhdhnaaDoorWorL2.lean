/- For every kind and every text: octet by octet each beginning that lives ends a word just if it is one, is made one by its rest, and goes on by the next octet just if the longer one lives; word's table of rests is as the program's text lays it (tied). -/
import Derived.Test.YtjlnajokkhdhnaaDoorRows
import Derived.Test.YtjlnajokkhdhnaaDoorWorN
import Derived.Test.YtjlnajokkhdhnaaDoorCards
import Derived.Test.YtjlnajokkhdhnaaDoorTie
import Derived.SevenTiedAt
import Derived.LaidMore
import Derived.Stop.Joined
import Derived.ProofKit
import Derived.OpenShut
import Derived.ShutString
import Derived.ChangeOld
namespace Go.Proofs.YtjlnajokkhdhnaaDoor.wordSteps
open Go.ChangeShapes Go.WideShapes Go.ChangeAt Go.RowKit
open Go.ChangeMaps (open_string shut_string)
set_option maxRecDepth 100000
set_option linter.unusedVariables false

set_option maxHeartbeats 3200000 in
set_option maxRecDepth 100000 in
theorem walk (kd : Int) (a : ByteArray) (w : World) (wk : (Lit.int .u8 kd).wf = true) (ha : a.size ≤ maxLen) (hR : RestIs w) :
    Calls Tryd.prog 4 #[.int .u8 kd, .string a] w fun e w' => e = .returned (.bool true) ∧ Below w.heap.size w w' := by
  obtain ⟨hk0, hk1⟩ := bounds_u8 wk
  have HA := Lib.hid ha; clear ha wk
  have hlx := few6_le a.data.toList
  obtain ⟨x, hx⟩ : ∃ x, few6 a.data.toList = x := ⟨_, rfl⟩
  rw [hx] at hlx
  obtain ⟨k, hk⟩ : ∃ k, kd.toNat % 3 = k := ⟨_, rfl⟩
  have hk3 : k < 3 := by omega
  have e1 : kd.tmod 3 = (k : Int) := by rw [Int.tmod_eq_emod_of_nonneg hk0]; omega
  have e2 : kd % 3 = (k : Int) := by omega
  have bx : (mkB x).size ≤ 400 := by rw [mkB_size]; omega
  have HX := Lib.hid hx; have HK := Lib.hid hk
  have HKK := Lib.hid hk3
  have IN0 : Hid (inK k 0) := Lib.hid (inK_zero hk3)
  have HMX := Lib.hid (mkB_size x)
  clear hx hk hk3
  have KP : Hid (Kept w w) := Lib.hid ⟨hR, Below.refl _ _⟩
  go_enter Tryd.func4, Tryd.ntmps4
  go_upto_region 5 with (go_at_call 9; refine (few6_any _ _ (by first | exact HA.out)).mono ?_; rintro e w' ⟨rfl, rfl⟩; rw [HX.out])
  go_loopw [6, 7] (fun t i wr => ∃ s j : Nat, j ≤ (mkB x).size ∧ t = .int .i64 (s : Int) ∧ i = .int .i64 (j : Int) ∧ Hid (inK k s) ∧ Hid (runO k 0 (x.take j) = some s) ∧ Hid (Kept w' wr)) (fun _ i _ => (mkB x).size + 1 - (intOf i).toNat)
  case atStart => exact ⟨0, 0, Nat.zero_le _, rfl, rfl, IN0, Lib.hid rfl, KP⟩
  case round =>
    clear KP
    obtain ⟨s, j, hj, rfl, rfl, IS, RS, KP⟩ := hrel
    have hjx : j ≤ x.length := by rw [← HMX.out]; exact hj
    have hr0 := rest_len ⟨k, HKK.out⟩ ⟨s, IS.out.1⟩
    have hwr := whole_rest HKK.out RS.out
    have hre := restI_nat k s HKK.out IS.out
    have hwe := whole_ends HKK.out RS.out
    have hee := endsI_nat k s HKK.out IS.out.1
    have her := ends_rest IS.out
    have hcut := cut_txt x j
    obtain ⟨y, hy⟩ : ∃ y, x.take j = y := ⟨_, rfl⟩
    have hyl : y.length ≤ 60 := by rw [← hy, List.length_take]; omega
    obtain ⟨r, hr⟩ : ∃ r, restO k s = r := ⟨_, rfl⟩
    obtain ⟨p, hp⟩ : ∃ p, endsO k s = p := ⟨_, rfl⟩
    simp only at hr0
    rw [hr] at hr0 hwr hre her
    rw [hy] at hwr hwe hcut
    rw [hp] at hwe hee her
    obtain ⟨q, hq⟩ : ∃ q, y ++ r = q := ⟨_, rfl⟩
    have TQ := Lib.hid (show mkB y ++ mkB r = mkB q by rw [cat_txt, hq])
    have SY : Hid (y.length ≤ 1000000000) := Lib.hid (by omega)
    have SQ : Hid (q.length ≤ 1000000000) := Lib.hid (by rw [← hq, List.length_append]; omega)
    have br : (mkB r).size ≤ 400 := by rw [mkB_size]; omega
    have by1 : (mkB y).size ≤ 400 := by rw [mkB_size]; omega
    rw [hq] at hwr
    have WQ := Lib.hid (show wholeZ (k : Int) q = true by rw [wholeZ_nat HKK.out]; exact hwr)
    have WY := Lib.hid (show wholeZ (k : Int) y = p by rw [wholeZ_nat HKK.out]; exact hwe)
    have hWY : ∀ w, Calls Tryd.prog 14 #[.int .i64 (k : Int), .string ((mkB x).extract 0 j)] w fun e w' => e = .returned (.bool p) ∧ Below w.heap.size w w' := fun w => by
      rw [hcut]; have h := refwhole_m (k : Int) y w SY.out; rwa [WY.out] at h
    have hWQ : ∀ w, Calls Tryd.prog 14 #[.int .i64 (k : Int), .string ((mkB x).extract 0 j ++ mkB r)] w fun e w' => e = .returned (.bool true) ∧ Below w.heap.size w w' := fun w => by
      rw [hcut, TQ.out]; have h := refwhole_m (k : Int) q w SQ.out; rwa [WQ.out] at h
    have hEN : ∀ w, RestIs w → Calls Tryd.prog 16 #[.int .i64 (k : Int), .int .i64 (s : Int)] w fun e w' => e = .returned (.bool p) ∧ Below w.heap.size w w' := fun w h => by
      have h := ends_any (k : Int) (s : Int) w h; rwa [hee] at h
    have hsz : ((mkB x).extract 0 j).size ≤ 400 := by rw [hcut]; exact by1
    have hsum : ∀ w, Sem.run Tryd.prog (Op.stringOp .add ((mkB x).extract 0 j) (mkB r)) w = .ok (.string ((mkB x).extract 0 j ++ mkB r)) w := fun w => by
      have h9 : ¬ (((((mkB x).extract 0 j).size + (mkB r).size : Nat) : Int) > IntKind.i64.max) := by
        have : IntKind.i64.max = 9223372036854775807 := by decide
        omega
      unfold Op.stringOp
      simp only [if_neg h9]
      rfl
    have EI := Lib.hid hee; have RI := Lib.hid hre; have CUT := Lib.hid hcut; have HY := Lib.hid hy
    have hm : (mkB r).toList.isEmpty = p ∧ ((mkB r).toList = []) = (p = true) := by
      have e : (mkB r).toList = r := by rw [Lib.toList_data, mkB_list]
      rw [e, her]
      cases r <;> simp
    obtain ⟨hm1, hm2⟩ := hm
    clear hr0 hwr hre hwe hee her hcut hy hr hp hq
    go_upto_region 8 with (go_at_call 15; refine (rest_any _ _ _ KP.out.1).mono ?_; rintro e' w1 ⟨rfl, hb1⟩; rw [RI.out]; replace KP := Lib.hid (KP.out.step hb1); clear hb1)
    cases p
    case' false => have hm3 : ¬ (mkB r).toList = [] := by rw [hm2]; simp
    case' true => have hm3 : (mkB r).toList = [] := by rw [hm2]
    all_goals
      clear hm2
      go_region_held3 (fun wr => Kept w' wr) (first | assumption | exact Kept.step (by assumption) (by assumption) | exact Kept.drew (by first | assumption | exact KP.out))
        (first
          | (go_at_call 16; with_reducible refine (hEN _ (Kept.rests (w0 := w') (by assumption))).mono ?_; rintro e' w1 ⟨rfl, hb1⟩)
          | (go_at_call 14; with_reducible refine (hWY _).mono ?_; rintro e' w1 ⟨rfl, hb1⟩)
          | (go_at_call 14; with_reducible refine (hWQ _).mono ?_; rintro e' w1 ⟨rfl, hb1⟩))
    all_goals
      have KP2 : Hid (Kept w' _) := Lib.hid (by assumption)
      clear hWY hWQ hEN hm1 hm3 KP
      by_cases hlt : j < (mkB x).size
      · have hlx2 : j < x.length := by rw [← HMX.out]; exact hlt
        have hne : ¬ (j : Int) = ((mkB x).size : Int) := by omega
        have hnx := take_next hlx2 RS.out
        have hst := stepI_nat k s (mkB x)[j].toNat HKK.out IS.out.1
        have hin := fun b => inK_step HKK.out IS.out (c := x[j]) (b := b)
        have hc8 : (mkB x)[j].toNat < 256 := UInt8.toNat_lt _
        have hcut2 := cut_txt x (j + 1)
        obtain ⟨z, hz⟩ : ∃ z, x.take (j + 1) = z := ⟨_, rfl⟩
        have hzl : z.length ≤ 60 := by rw [← hz, List.length_take]; omega
        rw [hz] at hnx hcut2
        have hLV := fun w => reflives_any k HKK.out z w (by omega)
        rw [hnx] at hLV
        have CUT2 := Lib.hid hcut2; have HZ := Lib.hid hz
        cases ho : stepO k s x[j].toNat with
        | none =>
          rw [ho] at hLV
          replace hst : stepI k s (mkB x)[j].toNat = none := hst.trans ho
          have ST := Lib.hid hst; have LV := Lib.hid hLV
          clear hnx hst hin hcut2 hz hzl hLV ho
          go_wp2_with (first
            | (go_at_call 17; refine (step_any _ _ _ hc8 _).mono ?_; rintro e' w1 ⟨rfl, hb1⟩; rw [ST.out]; unfold stepE; replace KP2 := Lib.hid (KP2.out.step hb1); clear hb1)
            | (go_at_call 18; rw [CUT2.out]; refine (LV.out _).mono ?_; rintro e' w1 ⟨rfl, hb1⟩; rw [Option.isSome_none]; replace KP2 := Lib.hid (KP2.out.step hb1); clear hb1)
            | (go_at_call 12; refine (awake6_any _ KP2.out.1).mono ?_; rintro e' w1 ⟨rfl, hb1⟩; replace KP2 := Lib.hid (KP2.out.step hb1); clear hb1))
          go_ret
          exact ⟨rfl, KP2.out.2⟩
        | some b =>
          rw [ho] at hLV hnx
          replace hst : stepI k s (mkB x)[j].toNat = some b := hst.trans ho
          have ST := Lib.hid hst; have LV := Lib.hid hLV; have IB := Lib.hid (hin b ho)
          have RB : Hid (runO k 0 (x.take (j + 1)) = some b) := Lib.hid (by rw [hz]; exact hnx)
          clear hnx hst hin hcut2 hz hzl hLV ho
          go_wp2_with (first
            | (go_at_call 17; refine (step_any _ _ _ hc8 _).mono ?_; rintro e' w1 ⟨rfl, hb1⟩; rw [ST.out]; unfold stepE; replace KP2 := Lib.hid (KP2.out.step hb1); clear hb1)
            | (go_at_call 18; rw [CUT2.out]; refine (LV.out _).mono ?_; rintro e' w1 ⟨rfl, hb1⟩; rw [Option.isSome_some]; replace KP2 := Lib.hid (KP2.out.step hb1); clear hb1))
          go_roundw
          case rel => exact ⟨b, j + 1, by omega, rfl, by go_num, IB, RB, KP2⟩
          case measure => simp [intOf]; omega
      · have heq : (j : Int) = ((mkB x).size : Int) := by omega
        go_wp2_with (go_at_call 12; refine (awake6_any _ KP2.out.1).mono ?_; rintro e' w1 ⟨rfl, hb1⟩; replace KP2 := Lib.hid (KP2.out.step hb1); clear hb1)
        go_ret
        exact ⟨rfl, KP2.out.2⟩

theorem own : ownKnob Tryd.prog.godebug = none := by kernel_rfl
theorem laidOut : laidOutB Tryd.prog = true := by kernel_rfl

set_option maxRecDepth 100000 in
theorem lifted (os : Os) (started : os.Started) (H : Type) (enc : TypeId × Value → H) :
    ReturnsInHanded {} Tryd.checked os 4 .any (fun w args => (Rows.wordStepsSpec.pre enc Tryd.prog Tryd.f4 [] false w args ∧ laidMetH Tryd.prog Rows.wordStepsRow.laid w) ∧ sizedMet enc Tryd.prog Tryd.f4 (OpenSpec.ofChange Rows.wordStepsSpec) false w args) (Rows.wordStepsSpec.post enc Tryd.prog Tryd.f4 false true false false) := by
  refine returnsInHanded_of_change_and (C := Tryd.checked) (X := fun w _ => laidMetH Tryd.prog Rows.wordStepsRow.laid w) (fun _ _ _ hh h => h.of_heap hh) own started (by kernel_rfl) Tryd.func4
    (ChangeSpec.witness_shaped (enc := enc) (C := Tryd.checked) (os := os) (X := fun w _ => laidMetH Tryd.prog Rows.wordStepsRow.laid w) false (World.doorLaid Tryd.prog 400 os) #[.int .u8 0, .string ByteArray.empty] 8 rfl (World.shaped_of_RefB (by kernel_rfl) (by kernel_rfl)) (by kernel_rfl) (by kernel_rfl) (by kernel_rfl) (laid_met os _)) ?_
  intro W base args ds gs before hval0 hW _ _ hL _
  have htab := tab_of hL
  have hval : ∀ (j : Nat) t v, Tryd.f4.params[j]? = some t → args[j]? = some v → Value.okWide Tryd.prog W .any base t v := hval0
  have hW' := hW
  obtain ⟨p, q, hA0, hV, rfl, hfz, hnd⟩ := hW
  have hA : DataW.TrodAll enc Tryd.prog W 0 (fun _ => true) true Tryd.f4.params.toList args.toList ds p := hA0
  rw [Tryd.params4] at hA hval
  obtain ⟨v0, vs0, d0, ds0, p0, q0, hargs, rfl, rfl, h0, r0⟩ := trodAll_cons hA
  obtain ⟨v1, vs1, d1, ds1, p1, q1, rfl, rfl, rfl, h1, r1⟩ := trodAll_cons r0
  obtain ⟨rfl, rfl, rfl⟩ := trodAll_nil r1
  obtain rfl : args = #[v0, v1] := by cases args; simp_all
  obtain ⟨rfl, rfl⟩ := trodVars_none hV
  obtain ⟨a0, rfl, rfl, rfl, w0⟩ := open_int Tryd.underlying5 (hval 0 5 v0 rfl rfl) h0
  obtain ⟨a1, rfl, rfl, rfl, w1⟩ := open_string Tryd.underlying9 (hval 1 9 v1 rfl rfl) h1
  clear hA0 hval0
  refine (walk a0 a1 W w0 w1 htab).mono fun e W' ⟨he, bel⟩ => ?_
  subst he
  exact ⟨_, rfl, _, _, _, [], _, [], hW', trodAll_mk1 (shut_bool Tryd.underlying4 _), (trodAll_cons_mk (shut_int Tryd.underlying5 w0) (trodAll_cons_mk (shut_string Tryd.underlying9 w1) trodAll_mk0)), rfl, bel.frame _, fun h => by cases h⟩

-- the row
theorem holds : Rows.WordStepsSaid :=
  OpenClaim.holds_of_wide 4 Tryd.f4 rfl rfl rfl rfl rfl rfl rfl ⟨rfl, rfl, rfl, rfl, rfl⟩ rfl rfl rfl rfl rfl (by kernel_rfl) Tryd.func4 (by kernel_rfl)
    (of_decide_eq_true (by kernel_rfl)) (by unfold Func.isWrapper; first | (rw [if_pos (by decide +kernel)]; kernel_rfl) | (rw [if_neg (by decide +kernel)]; exact ⟨rfl, rfl⟩))
    (fun os started H enc _ => lifted os started H enc)
-- the given statement: the tied card
theorem proved : Rows.WordStepsCardSaid :=
  Claim7.holds_tied_plain_at .later [] [.data] true Rows.wordStepsCard.stood.harness false
    holds (fun _ h => by cases h) (by kernel_rfl) (fun _ h => by cases h) wordSteps_row_tie rfl ⟨rfl, rfl⟩ (by kernel_rfl) rfl
    (fun f fn hf hfn => by
      obtain rfl : f = 4 := Option.some.inj ((show Tryd.prog.funcNamed Rows.wordStepsRow.func = some 4 by kernel_rfl).symm.trans hf) |>.symm
      obtain rfl : fn = Tryd.f4 := (Option.some.inj (Tryd.func4.symm.trans hfn)).symm
      exact ⟨by kernel_rfl, fun j t ht => by
        have hall : (Tryd.f4.params.toList.all fun u => !Tryd.prog.wantsStandIn u) = true := by kernel_rfl
        have hm : t ∈ Tryd.f4.params.toList := Array.mem_toList_iff.2 (Array.mem_of_getElem? ht)
        exact (show Tryd.prog.wantsStandIn t = false by simpa using List.all_eq_true.1 hall t hm)⟩)
    (by kernel_rfl)
end Go.Proofs.YtjlnajokkhdhnaaDoor.wordSteps
