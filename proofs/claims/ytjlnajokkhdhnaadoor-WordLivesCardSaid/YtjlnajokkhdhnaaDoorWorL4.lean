/- For every kind and every two texts: what is a word lives whole, and so does each beginning of it; what does not live does not with anything behind it; word's table of rests is as the program's text lays it (tied). -/
import Derived.Test.YtjlnajokkhdhnaaDoorRows
import Derived.Test.YtjlnajokkhdhnaaDoorWorN
import Derived.Test.YtjlnajokkhdhnaaDoorCards
import Derived.Test.YtjlnajokkhdhnaaDoorTie
import Derived.SevenTiedAt
import Derived.LaidMore
import Derived.Stop.Joined
import Derived.ProofKit
import Derived.OpenShut
import Derived.ShutString
import Derived.ChangeOld
namespace Go.Proofs.YtjlnajokkhdhnaaDoor.wordLives
open Go.ChangeShapes Go.WideShapes Go.ChangeAt Go.RowKit
open Go.ChangeMaps (open_string shut_string)
set_option maxRecDepth 100000
set_option linter.unusedVariables false

set_option maxHeartbeats 1600000 in
set_option maxRecDepth 100000 in
theorem walk (kd : Int) (a b : ByteArray) (w : World) (wk : (Lit.int .u8 kd).wf = true) (ha : a.size ≤ maxLen) (hb : b.size ≤ maxLen) (hR : RestIs w) :
    Calls Tryd.prog 6 #[.int .u8 kd, .string a, .string b] w fun e w' => e = .returned (.bool true) ∧ Below w.heap.size w w' := by
  obtain ⟨hk0, hk1⟩ := bounds_u8 wk
  have HA := Lib.hid ha; have HB := Lib.hid hb; clear ha hb wk
  have hlx := few6_le a.data.toList
  have hly := few6_le b.data.toList
  obtain ⟨x, hx⟩ : ∃ x, few6 a.data.toList = x := ⟨_, rfl⟩
  obtain ⟨y, hy⟩ : ∃ y, few6 b.data.toList = y := ⟨_, rfl⟩
  rw [hx] at hlx; rw [hy] at hly
  obtain ⟨z, hz⟩ : ∃ z, x ++ y = z := ⟨_, rfl⟩
  have hlz : z.length ≤ 120 := by rw [← hz, List.length_append]; omega
  have SX : Hid (x.length ≤ 1000000000) := Lib.hid (by omega)
  have SZ : Hid (z.length ≤ 1000000000) := Lib.hid (by omega)
  obtain ⟨k, hk⟩ : ∃ k, kd.toNat % 3 = k := ⟨_, rfl⟩
  have hk3 : k < 3 := by omega
  have e1 : kd.tmod 3 = (k : Int) := by rw [Int.tmod_eq_emod_of_nonneg hk0]; omega
  have e2 : kd % 3 = (k : Int) := by omega
  have bx : (mkB x).size ≤ 400 := by rw [mkB_size]; omega
  have by_ : (mkB y).size ≤ 400 := by rw [mkB_size]; omega
  have TZ : Hid (mkB x ++ mkB y = mkB z) := Lib.hid (by rw [cat_txt, hz])
  have HX := Lib.hid hx; have HY := Lib.hid hy; have HZ := Lib.hid hz; have HK := Lib.hid hk
  clear hx hy hz hk
  have B := Lib.hid (Below.refl w.heap.size w)
  have hn := liveZ_nat hk3 x
  have hm := liveZ_nat hk3 z
  obtain ⟨n, hn'⟩ : ∃ n, liveN k 0 x = n := ⟨_, rfl⟩
  obtain ⟨m, hm'⟩ : ∃ n, liveN k 0 z = n := ⟨_, rfl⟩
  have hf := lives_facts hk3 x y
  obtain ⟨p, hp⟩ : ∃ p, wholeO k x = p := ⟨_, rfl⟩
  obtain ⟨q, hq⟩ : ∃ p, wholeO k z = p := ⟨_, rfl⟩
  have hwp := wholeZ_nat hk3 x
  have hwq := wholeZ_nat hk3 z
  rw [HZ.out, hn', hm', hp, hq] at hf
  rw [hp] at hwp; rw [hq] at hwq
  have HP := Lib.hid hwp; have HQ := Lib.hid hwq
  have hmx := mkB_size x
  rw [← hmx] at hf
  have HF := Lib.hid hf
  have HT := Lib.hid (live_take k x 0)
  rw [hn'] at HT
  have hnl := liveN_le k x 0
  rw [hn', ← hmx] at hnl
  have HCUT := Lib.hid (cut_txt x)
  have HL := Lib.hid (fun i : Nat => liveZ_nat hk3 (x.take i))
  rw [hn'] at hn; rw [hm'] at hm
  clear hwp hwq hp hq hf hn' hm' hmx
  have HN := Lib.hid hn; have HM := Lib.hid hm
  clear hn hm
  go_enter Tryd.func6, Tryd.ntmps6
  go_upto_region 4 with (first
    | (go_at_call 9; refine (few6_any _ _ (by first | exact HA.out | exact HB.out)).mono ?_; rintro e w' ⟨rfl, rfl⟩; first | rw [HX.out] | rw [HY.out])
    | (go_at_call 10; (first | rw [TZ.out] | skip); refine (live_m _ _ _ (by first | exact SX.out | exact SZ.out)).mono ?_; rintro e w1 ⟨rfl, hb1⟩; (first | rw [HN.out] | rw [HM.out]); replace B := Lib.hid (below_step B.out hb1); clear hb1))
  rcases HF.out with ⟨f1, f2, rfl, rfl⟩ | ⟨f1, f2⟩
  case' inl =>
    have g4 : decide (n < (mkB x).size) = true := decide_eq_true f1
    have g5 : ((m : Int) != (n : Int)) = false := by rw [f2]; simp
    have g6 : ((n : Int) == ((mkB x).size : Int)) = false := beq_eq_false_iff_ne.2 (by omega)
  case' inr =>
    have g4 : decide (n < (mkB x).size) = false := decide_eq_false (by omega)
    have g5 : ((n : Int) != ((mkB x).size : Int)) = false := by rw [f1]; simp
    have g6 : ((n : Int) == ((mkB x).size : Int)) = true := beq_iff_eq.2 (by omega)
    cases p
  all_goals
    have HF1 := Lib.hid f1
    have HMN : Hid (n ≤ m) := Lib.hid (by omega)
    have g1 : decide ((n : Int) < 0) = false := decide_eq_false (by omega)
    have g2 : decide ((mkB x).size < n) = false := decide_eq_false (by omega)
    have g3 : decide (m < n) = false := decide_eq_false (by omega)
    clear f1 f2
    clear HF
    go_upto_region 7 with (go_at_call 11; refine (whole_m _ _ _ SX.out (hR.below B.out)).mono ?_; rintro e w1 ⟨rfl, hb1⟩; rw [HP.out]; replace B := Lib.hid (below_step B.out hb1); clear hb1)
    go_loopw [10] (fun i wr => ∃ j : Nat, j ≤ n + 1 ∧ i = .int .i64 (j : Int) ∧ Hid (Below w'.heap.size w' wr)) (fun i _ => n + 1 - (intOf i).toNat)
    case atStart => exact ⟨0, Nat.zero_le _, rfl, B⟩
    case round =>
      clear B
      obtain ⟨j, hj, rfl, B⟩ := hrel
      by_cases hlt : j ≤ n
      · have T := Lib.hid (HCUT.out j)
        have hl := HL.out j
        rw [HT.out j hlt] at hl
        have HLJ := Lib.hid hl
        have SJ : Hid ((x.take j).length ≤ 1000000000) := Lib.hid (by rw [List.length_take]; omega)
        have hjs : j ≤ (mkB x).size := by omega
        clear hl
        go_wp2_with (go_at_call 10; rw [T.out]; refine (live_m _ _ _ SJ.out).mono ?_; rintro e w1 ⟨rfl, hb1⟩; rw [HLJ.out]; replace B := Lib.hid (below_step B.out hb1); clear hb1)
        go_roundw
        case rel => exact ⟨j + 1, by omega, by go_num, B⟩
        case measure => simp [intOf]; omega
      · go_wp2_with (first
          | (go_at_call 11; (first | rw [TZ.out] | skip); refine (whole_m _ _ _ (by first | exact SX.out | exact SZ.out) (hR.below B.out)).mono ?_; rintro e w1 ⟨rfl, hb1⟩; (first | rw [HP.out] | rw [HQ.out]); replace B := Lib.hid (below_step B.out hb1); clear hb1)
          | (go_at_call 12; refine (awake6_any _ (hR.below B.out)).mono ?_; rintro e w1 ⟨rfl, hb1⟩; replace B := Lib.hid (below_step B.out hb1); clear hb1))
        go_ret
        exact ⟨rfl, B.out⟩

theorem own : ownKnob Tryd.prog.godebug = none := by kernel_rfl
theorem laidOut : laidOutB Tryd.prog = true := by kernel_rfl

set_option maxRecDepth 100000 in
theorem lifted (os : Os) (started : os.Started) (H : Type) (enc : TypeId × Value → H) :
    ReturnsInHanded {} Tryd.checked os 6 .any (fun w args => (Rows.wordLivesSpec.pre enc Tryd.prog Tryd.f6 [] false w args ∧ laidMetH Tryd.prog Rows.wordLivesRow.laid w) ∧ sizedMet enc Tryd.prog Tryd.f6 (OpenSpec.ofChange Rows.wordLivesSpec) false w args) (Rows.wordLivesSpec.post enc Tryd.prog Tryd.f6 false true false false) := by
  refine returnsInHanded_of_change_and (C := Tryd.checked) (X := fun w _ => laidMetH Tryd.prog Rows.wordLivesRow.laid w) (fun _ _ _ hh h => h.of_heap hh) own started (by kernel_rfl) Tryd.func6
    (ChangeSpec.witness_shaped (enc := enc) (C := Tryd.checked) (os := os) (X := fun w _ => laidMetH Tryd.prog Rows.wordLivesRow.laid w) false (World.doorLaid Tryd.prog 400 os) #[.int .u8 0, .string ByteArray.empty, .string ByteArray.empty] 8 rfl (World.shaped_of_RefB (by kernel_rfl) (by kernel_rfl)) (by kernel_rfl) (by kernel_rfl) (by kernel_rfl) (laid_met os _)) ?_
  intro W base args ds gs before hval0 hW _ _ hL _
  have htab := tab_of hL
  have hval : ∀ (j : Nat) t v, Tryd.f6.params[j]? = some t → args[j]? = some v → Value.okWide Tryd.prog W .any base t v := hval0
  have hW' := hW
  obtain ⟨p, q, hA0, hV, rfl, hfz, hnd⟩ := hW
  have hA : DataW.TrodAll enc Tryd.prog W 0 (fun _ => true) true Tryd.f6.params.toList args.toList ds p := hA0
  rw [Tryd.params6] at hA hval
  obtain ⟨v0, vs0, d0, ds0, p0, q0, hargs, rfl, rfl, h0, r0⟩ := trodAll_cons hA
  obtain ⟨v1, vs1, d1, ds1, p1, q1, rfl, rfl, rfl, h1, r1⟩ := trodAll_cons r0
  obtain ⟨v2, vs2, d2, ds2, p2, q2, rfl, rfl, rfl, h2, r2⟩ := trodAll_cons r1
  obtain ⟨rfl, rfl, rfl⟩ := trodAll_nil r2
  obtain rfl : args = #[v0, v1, v2] := by cases args; simp_all
  obtain ⟨rfl, rfl⟩ := trodVars_none hV
  obtain ⟨a0, rfl, rfl, rfl, w0⟩ := open_int Tryd.underlying5 (hval 0 5 v0 rfl rfl) h0
  obtain ⟨a1, rfl, rfl, rfl, w1⟩ := open_string Tryd.underlying9 (hval 1 9 v1 rfl rfl) h1
  obtain ⟨a2, rfl, rfl, rfl, w2⟩ := open_string Tryd.underlying9 (hval 2 9 v2 rfl rfl) h2
  clear hA0 hval0
  refine (walk a0 a1 a2 W w0 w1 w2 htab).mono fun e W' ⟨he, bel⟩ => ?_
  subst he
  exact ⟨_, rfl, _, _, _, [], _, [], hW', trodAll_mk1 (shut_bool Tryd.underlying4 _), (trodAll_cons_mk (shut_int Tryd.underlying5 w0) (trodAll_cons_mk (shut_string Tryd.underlying9 w1) (trodAll_cons_mk (shut_string Tryd.underlying9 w2) trodAll_mk0))), rfl, bel.frame _, fun h => by cases h⟩

-- the row
theorem holds : Rows.WordLivesSaid :=
  OpenClaim.holds_of_wide 6 Tryd.f6 rfl rfl rfl rfl rfl rfl rfl ⟨rfl, rfl, rfl, rfl, rfl⟩ rfl rfl rfl rfl rfl (by kernel_rfl) Tryd.func6 (by kernel_rfl)
    (of_decide_eq_true (by kernel_rfl)) (by unfold Func.isWrapper; first | (rw [if_pos (by decide +kernel)]; kernel_rfl) | (rw [if_neg (by decide +kernel)]; exact ⟨rfl, rfl⟩))
    (fun os started H enc _ => lifted os started H enc)
-- the given statement: the tied card
theorem proved : Rows.WordLivesCardSaid :=
  Claim7.holds_tied_plain_at .later [] [.data] true Rows.wordLivesCard.stood.harness false
    holds (fun _ h => by cases h) (by kernel_rfl) (fun _ h => by cases h) wordLives_row_tie rfl ⟨rfl, rfl⟩ (by kernel_rfl) rfl
    (fun f fn hf hfn => by
      obtain rfl : f = 6 := Option.some.inj ((show Tryd.prog.funcNamed Rows.wordLivesRow.func = some 6 by kernel_rfl).symm.trans hf) |>.symm
      obtain rfl : fn = Tryd.f6 := (Option.some.inj (Tryd.func6.symm.trans hfn)).symm
      exact ⟨by kernel_rfl, fun j t ht => by
        have hall : (Tryd.f6.params.toList.all fun u => !Tryd.prog.wantsStandIn u) = true := by kernel_rfl
        have hm : t ∈ Tryd.f6.params.toList := Array.mem_toList_iff.2 (Array.mem_of_getElem? ht)
        exact (show Tryd.prog.wantsStandIn t = false by simpa using List.all_eq_true.1 hall t hm)⟩)
    (by kernel_rfl)
end Go.Proofs.YtjlnajokkhdhnaaDoor.wordLives
