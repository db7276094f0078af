/- For every two texts and number: which of the texts are numbers, their order, the first one's value and next one, and the number's text are the document's; the library's table of powers of ten is as the program's text lays it (tied). -/
import Derived.Test.YtflaopmlmecdcaaDoorRows
import Derived.Test.YtflaopmlmecdcaaDoorNumR
import Derived.Test.YtflaopmlmecdcaaDoorCards
import Derived.Test.YtflaopmlmecdcaaDoorTie
import Derived.SevenTiedAt
import Derived.LaidMore
import Derived.Stop.Joined
import Derived.ProofKit
import Derived.OpenShut
import Derived.ShutString
import Derived.ChangeOld
namespace Go.Proofs.YtflaopmlmecdcaaDoor.numberTells
open Go.ChangeShapes Go.WideShapes Go.ChangeAt Go.RowKit
open Go.ChangeMaps (open_string shut_string)
set_option linter.unusedVariables false

set_option maxRecDepth 100000 in
set_option maxHeartbeats 6400000 in
theorem walk (a b : ByteArray) (n : Int) (w : World) (ha : a.size ≤ maxLen) (hb : b.size ≤ maxLen) (wn : (Lit.int .u64 n).wf = true) (htab : Lib.TabIs Tryd.prog w "internal/strconv.uint64pow10" .u64 Lib.pow10Tab) :
    Calls Tryd.prog 3 #[.string a, .string b, .int .u64 n] w fun e w' => e = .returned (.bool true) ∧ Below w.heap.size w w' := by
  have HA := Lib.hid ha; have HB := Lib.hid hb; have HTAB := Lib.hid htab; clear ha hb htab
  obtain ⟨hn0, hn1⟩ := bounds_u64 wn
  clear wn
  obtain ⟨m, rfl⟩ : ∃ m : Nat, n = m := ⟨n.toNat, by omega⟩
  have HNB : Hid (m < 18446744073709551616) := Lib.hid (by omega)
  have h1 := fewB_size a
  have h2 := fewB_size b
  obtain ⟨x, hx⟩ : ∃ x, x = fewB a := ⟨_, rfl⟩
  obtain ⟨y, hy⟩ : ∃ y, y = fewB b := ⟨_, rfl⟩
  rw [← hx] at h1; rw [← hy] at h2
  have HX := Lib.hid hx; have HY := Lib.hid hy; clear hx hy
  have HXM : Hid (x.size ≤ maxLen) := Lib.hid (by unfold maxLen; omega)
  have HYM : Hid (y.size ≤ maxLen) := Lib.hid (by unfold maxLen; omega)
  have HX9 : Hid (x.size ≤ 1000000000) := Lib.hid (by omega)
  have HY9 : Hid (y.size ≤ 1000000000) := Lib.hid (by omega)
  have B0 := Below.refl w.heap.size w
  obtain ⟨D, hD⟩ : ∃ D, D = mkB (Lib.decDigits m) := ⟨_, rfl⟩
  obtain ⟨v1, v2, hv⟩ : ∃ v1 v2, valE x.data.toList = (v1, v2) := ⟨_, _, rfl⟩
  have HD := Lib.hid hD; have HV := Lib.hid hv; clear hD hv
  obtain ⟨mx, hmx⟩ : ∃ m, mayL x.data.toList = m := ⟨_, rfl⟩
  obtain ⟨my, hmy⟩ : ∃ m, mayL y.data.toList = m := ⟨_, rfl⟩
  have MX := Lib.hid hmx; have MY := Lib.hid hmy; clear hmx hmy
  cases mx
  · have HE : Hid (cmpE x.data.toList y.data.toList = (0, 1)) := Lib.hid (cmpE_l MX.out)
    obtain ⟨N, hN, hN2⟩ : ∃ N, nextE x.data.toList = (N, 1) ∧ N.toList.isEmpty = true := ⟨_, nextE_no MX.out, by rw [empty_iff]; rfl⟩
    have HN := Lib.hid hN; clear hN
    go_enter Tryd.func3, Tryd.ntmps3
    go_wp2_with (first
      | (go_at_call 6; refine (few_any _ _ (by first | exact HA.out | exact HB.out)).mono ?_; rintro e w' ⟨rfl, rfl⟩; first | rw [← HX.out] | rw [← HY.out])
      | (go_at_call 11; refine (may_any _ _ (by first | exact HXM.out | exact HYM.out)).mono ?_; rintro e w1 ⟨rfl, hb1⟩; have B1 := below_step (by assumption) hb1; clear hb1; first | rw [MX.out] | rw [MY.out])
      | (go_at_call 12; refine (refmay_any _ _ (by first | exact HX9.out | exact HY9.out)).mono ?_; rintro e w1 ⟨rfl, rfl⟩; first | rw [MX.out] | rw [MY.out])
      | (go_at_call 7; refine (cmpnum_any _ _ _ (by first | exact HXM.out | exact HYM.out) (by first | exact HXM.out | exact HYM.out)).mono ?_; rintro e w1 ⟨rfl, hb1⟩; have B1 := below_step (by assumption) hb1; clear hb1; first | rw [HE.out])
      | (go_at_call 8; refine (value_any _ _ (by first | exact HX9.out)).mono ?_; rintro e w1 ⟨rfl, hb1⟩; have B1 := below_step (by assumption) hb1; clear hb1; first | rw [HV.out])
      | (go_at_call 9; refine (refvalue_any _ _ (by first | exact HX9.out)).mono ?_; rintro e w1 ⟨rfl, rfl⟩; first | rw [HV.out])
      | (go_at_call 10; refine (next_any _ _ (by first | exact HX9.out)).mono ?_; rintro e w1 ⟨rfl, hb1⟩; have B1 := below_step (by assumption) hb1; clear hb1; first | rw [HN.out])
      | (go_at_call 13; refine (of_any2 _ (by first | exact HNB.out) _ (tab_below HTAB.out (by assumption))).mono ?_; rintro e w1 ⟨rfl, hb1⟩; have B1 := below_step (by assumption) hb1; clear hb1; first | rw [← HD.out])
      | (go_at_call 14; refine (refof_any _ _ (by first | exact HNB.out)).mono ?_; rintro e w1 ⟨rfl, hb1⟩; have B1 := below_step (by assumption) hb1; clear hb1; first | rw [← HD.out])
      | (go_at_call 15; refine (awake2_any _).mono ?_; rintro e w1 ⟨rfl, hb1⟩; have B1 := below_step (by assumption) hb1; clear hb1))
    all_goals
      go_ret
      exact ⟨rfl, by assumption⟩
  · obtain ⟨N, hN, hN2⟩ : ∃ N, nextE x.data.toList = (N, 0) ∧ N = mkB (nextL x.data.toList) := ⟨_, nextE_ok MX.out, rfl⟩
    have HN := Lib.hid hN; have HNN := Lib.hid hN2; clear hN hN2
    cases my
    · have HE : Hid (cmpE x.data.toList y.data.toList = (0, 1)) := Lib.hid (cmpE_r MY.out)
      go_enter Tryd.func3, Tryd.ntmps3
      go_wp2_with (first
        | (go_at_call 6; refine (few_any _ _ (by first | exact HA.out | exact HB.out)).mono ?_; rintro e w' ⟨rfl, rfl⟩; first | rw [← HX.out] | rw [← HY.out])
        | (go_at_call 11; refine (may_any _ _ (by first | exact HXM.out | exact HYM.out)).mono ?_; rintro e w1 ⟨rfl, hb1⟩; have B1 := below_step (by assumption) hb1; clear hb1; first | rw [MX.out] | rw [MY.out])
        | (go_at_call 12; refine (refmay_any _ _ (by first | exact HX9.out | exact HY9.out)).mono ?_; rintro e w1 ⟨rfl, rfl⟩; first | rw [MX.out] | rw [MY.out])
        | (go_at_call 7; refine (cmpnum_any _ _ _ (by first | exact HXM.out | exact HYM.out) (by first | exact HXM.out | exact HYM.out)).mono ?_; rintro e w1 ⟨rfl, hb1⟩; have B1 := below_step (by assumption) hb1; clear hb1; first | rw [HE.out])
        | (go_at_call 8; refine (value_any _ _ (by first | exact HX9.out)).mono ?_; rintro e w1 ⟨rfl, hb1⟩; have B1 := below_step (by assumption) hb1; clear hb1; first | rw [HV.out])
        | (go_at_call 9; refine (refvalue_any _ _ (by first | exact HX9.out)).mono ?_; rintro e w1 ⟨rfl, rfl⟩; first | rw [HV.out])
        | (go_at_call 10; refine (next_any _ _ (by first | exact HX9.out)).mono ?_; rintro e w1 ⟨rfl, hb1⟩; have B1 := below_step (by assumption) hb1; clear hb1; first | rw [HN.out])
        | (go_at_call 13; refine (of_any2 _ (by first | exact HNB.out) _ (tab_below HTAB.out (by assumption))).mono ?_; rintro e w1 ⟨rfl, hb1⟩; have B1 := below_step (by assumption) hb1; clear hb1; first | rw [← HD.out])
        | (go_at_call 14; refine (refof_any _ _ (by first | exact HNB.out)).mono ?_; rintro e w1 ⟨rfl, hb1⟩; have B1 := below_step (by assumption) hb1; clear hb1; first | rw [← HD.out])
        | (go_at_call 16; refine (refnext_any _ _ HX9.out MX.out).mono ?_; rintro e w1 ⟨rfl, hb1⟩; have B1 := below_step (by assumption) hb1; clear hb1; rw [← HNN.out])
        | (go_at_call 15; refine (awake2_any _).mono ?_; rintro e w1 ⟨rfl, hb1⟩; have B1 := below_step (by assumption) hb1; clear hb1))
      all_goals
        go_ret
        exact ⟨rfl, by assumption⟩
    · obtain ⟨p, hp⟩ : ∃ p, cmpN x.data.toList y.data.toList = p := ⟨_, rfl⟩
      have HE : Hid (cmpE x.data.toList y.data.toList = (p, 0)) := Lib.hid (by rw [cmpE_ok MX.out MY.out, hp])
      have HP := Lib.hid hp; clear hp
      go_enter Tryd.func3, Tryd.ntmps3
      go_wp2_with (first
        | (go_at_call 6; refine (few_any _ _ (by first | exact HA.out | exact HB.out)).mono ?_; rintro e w' ⟨rfl, rfl⟩; first | rw [← HX.out] | rw [← HY.out])
        | (go_at_call 11; refine (may_any _ _ (by first | exact HXM.out | exact HYM.out)).mono ?_; rintro e w1 ⟨rfl, hb1⟩; have B1 := below_step (by assumption) hb1; clear hb1; first | rw [MX.out] | rw [MY.out])
        | (go_at_call 12; refine (refmay_any _ _ (by first | exact HX9.out | exact HY9.out)).mono ?_; rintro e w1 ⟨rfl, rfl⟩; first | rw [MX.out] | rw [MY.out])
        | (go_at_call 7; refine (cmpnum_any _ _ _ (by first | exact HXM.out | exact HYM.out) (by first | exact HXM.out | exact HYM.out)).mono ?_; rintro e w1 ⟨rfl, hb1⟩; have B1 := below_step (by assumption) hb1; clear hb1; first | rw [HE.out])
        | (go_at_call 8; refine (value_any _ _ (by first | exact HX9.out)).mono ?_; rintro e w1 ⟨rfl, hb1⟩; have B1 := below_step (by assumption) hb1; clear hb1; first | rw [HV.out])
        | (go_at_call 9; refine (refvalue_any _ _ (by first | exact HX9.out)).mono ?_; rintro e w1 ⟨rfl, rfl⟩; first | rw [HV.out])
        | (go_at_call 10; refine (next_any _ _ (by first | exact HX9.out)).mono ?_; rintro e w1 ⟨rfl, hb1⟩; have B1 := below_step (by assumption) hb1; clear hb1; first | rw [HN.out])
        | (go_at_call 13; refine (of_any2 _ (by first | exact HNB.out) _ (tab_below HTAB.out (by assumption))).mono ?_; rintro e w1 ⟨rfl, hb1⟩; have B1 := below_step (by assumption) hb1; clear hb1; first | rw [← HD.out])
        | (go_at_call 14; refine (refof_any _ _ (by first | exact HNB.out)).mono ?_; rintro e w1 ⟨rfl, hb1⟩; have B1 := below_step (by assumption) hb1; clear hb1; first | rw [← HD.out])
        | (go_at_call 16; refine (refnext_any _ _ HX9.out MX.out).mono ?_; rintro e w1 ⟨rfl, hb1⟩; have B1 := below_step (by assumption) hb1; clear hb1; rw [← HNN.out])
        | (go_at_call 17; refine (refcmp2_any _ _ _ HX9.out HY9.out MX.out MY.out).mono ?_; rintro e w1 ⟨rfl, rfl⟩; rw [HP.out])
        | (go_at_call 15; refine (awake2_any _).mono ?_; rintro e w1 ⟨rfl, hb1⟩; have B1 := below_step (by assumption) hb1; clear hb1))
      all_goals
        go_ret
        exact ⟨rfl, by assumption⟩

theorem own : ownKnob Tryd.prog.godebug = none := by kernel_rfl
theorem laidOut : laidOutB Tryd.prog = true := by kernel_rfl

set_option maxRecDepth 100000 in
theorem lifted (os : Os) (started : os.Started) (H : Type) (enc : TypeId × Value → H) :
    ReturnsInHanded {} Tryd.checked os 3 .any (fun w args => (Rows.numberTellsSpec.pre enc Tryd.prog Tryd.f3 [] false w args ∧ laidMetH Tryd.prog Rows.numberTellsRow.laid w) ∧ sizedMet enc Tryd.prog Tryd.f3 (OpenSpec.ofChange Rows.numberTellsSpec) false w args) (Rows.numberTellsSpec.post enc Tryd.prog Tryd.f3 false true false false) := by
  refine returnsInHanded_of_change_and (C := Tryd.checked) (X := fun w _ => laidMetH Tryd.prog Rows.numberTellsRow.laid w) (fun _ _ _ hh h => h.of_heap hh) own started (by kernel_rfl) Tryd.func3
    (ChangeSpec.witness_shaped (enc := enc) (C := Tryd.checked) (os := os) (X := fun w _ => laidMetH Tryd.prog Rows.numberTellsRow.laid w) false (World.doorLaid Tryd.prog 400 os) #[.string ByteArray.empty, .string ByteArray.empty, .int .u64 0] 8 rfl (World.shaped_of_RefB (by kernel_rfl) (by kernel_rfl)) (by kernel_rfl) (by kernel_rfl) (by kernel_rfl) (laid_met os _)) ?_
  intro W base args ds gs before hval0 hW _ _ hL _
  have htab := tab_of hL
  have hval : ∀ (j : Nat) t v, Tryd.f3.params[j]? = some t → args[j]? = some v → Value.okWide Tryd.prog W .any base t v := hval0
  have hW' := hW
  obtain ⟨p, q, hA0, hV, rfl, hfz, hnd⟩ := hW
  have hA : DataW.TrodAll enc Tryd.prog W 0 (fun _ => true) true Tryd.f3.params.toList args.toList ds p := hA0
  rw [Tryd.params3] at hA hval
  obtain ⟨v0, vs0, d0, ds0, p0, q0, hargs, rfl, rfl, h0, r0⟩ := trodAll_cons hA
  obtain ⟨v1, vs1, d1, ds1, p1, q1, rfl, rfl, rfl, h1, r1⟩ := trodAll_cons r0
  obtain ⟨v2, vs2, d2, ds2, p2, q2, rfl, rfl, rfl, h2, r2⟩ := trodAll_cons r1
  obtain ⟨rfl, rfl, rfl⟩ := trodAll_nil r2
  obtain rfl : args = #[v0, v1, v2] := by cases args; simp_all
  obtain ⟨rfl, rfl⟩ := trodVars_none hV
  obtain ⟨a0, rfl, rfl, rfl, w0⟩ := open_string Tryd.underlying9 (hval 0 9 v0 rfl rfl) h0
  obtain ⟨a1, rfl, rfl, rfl, w1⟩ := open_string Tryd.underlying9 (hval 1 9 v1 rfl rfl) h1
  obtain ⟨a2, rfl, rfl, rfl, w2⟩ := open_int Tryd.underlying22 (hval 2 22 v2 rfl rfl) h2
  clear hA0 hval0
  refine (walk a0 a1 a2 W w0 w1 w2 htab).mono fun e W' ⟨he, bel⟩ => ?_
  subst he
  exact ⟨_, rfl, _, _, _, [], _, [], hW', trodAll_mk1 (shut_bool Tryd.underlying4 _), (trodAll_cons_mk (shut_string Tryd.underlying9 w0) (trodAll_cons_mk (shut_string Tryd.underlying9 w1) (trodAll_cons_mk (shut_int Tryd.underlying22 w2) trodAll_mk0))), rfl, bel.frame _, fun h => by cases h⟩

-- the row
theorem holds : Rows.NumberTellsSaid :=
  OpenClaim.holds_of_wide 3 Tryd.f3 rfl rfl rfl rfl rfl rfl rfl ⟨rfl, rfl, rfl, rfl, rfl⟩ rfl rfl rfl rfl rfl (by kernel_rfl) Tryd.func3 (by kernel_rfl)
    (of_decide_eq_true (by kernel_rfl)) (by unfold Func.isWrapper; first | (rw [if_pos (by decide +kernel)]; kernel_rfl) | (rw [if_neg (by decide +kernel)]; exact ⟨rfl, rfl⟩))
    (fun os started H enc _ => lifted os started H enc)
-- the given statement: the tied card
theorem proved : Rows.NumberTellsCardSaid :=
  Claim7.holds_tied_plain_at .later [] [.data, .data, .data] true Rows.numberTellsCard.stood.harness false
    holds (fun _ h => by cases h) (by kernel_rfl) (fun _ h => by cases h) numberTells_row_tie rfl ⟨rfl, rfl⟩ (by kernel_rfl) rfl
    (fun f fn hf hfn => by
      obtain rfl : f = 3 := Option.some.inj ((show Tryd.prog.funcNamed Rows.numberTellsRow.func = some 3 by kernel_rfl).symm.trans hf) |>.symm
      obtain rfl : fn = Tryd.f3 := (Option.some.inj (Tryd.func3.symm.trans hfn)).symm
      exact ⟨by kernel_rfl, fun j t ht => by
        have hall : (Tryd.f3.params.toList.all fun u => !Tryd.prog.wantsStandIn u) = true := by kernel_rfl
        have hm : t ∈ Tryd.f3.params.toList := Array.mem_toList_iff.2 (Array.mem_of_getElem? ht)
        exact (show Tryd.prog.wantsStandIn t = false by simpa using List.all_eq_true.1 hall t hm)⟩)
    (by kernel_rfl)
end Go.Proofs.YtflaopmlmecdcaaDoor.numberTells
