/- From every number of 63 bits, or, of a greater one, what it is above the first of 64, so many steps on (up to 39), each behind the one before, come to the text of so much more; the library's table of powers of ten is as the program's text lays it (tied). -/
import Derived.Test.YtflaopmlmecdcaaDoorRows
import Derived.Test.YtflaopmlmecdcaaDoorNumR
import Derived.Test.YtflaopmlmecdcaaDoorCards
import Derived.Test.YtflaopmlmecdcaaDoorTie
import Derived.SevenTiedAt
import Derived.LaidMore
import Derived.Stop.Joined
import Derived.ProofKit
import Derived.OpenShut
import Derived.ShutString
import Derived.ChangeOld
namespace Go.Proofs.YtflaopmlmecdcaaDoor.numberSteps
open Go.ChangeShapes Go.WideShapes Go.ChangeAt Go.RowKit
open Go.ChangeMaps (open_string shut_string)
set_option linter.unusedVariables false

set_option maxRecDepth 100000 in
set_option maxHeartbeats 6400000 in
theorem walk (n m : Int) (w : World) (wn : (Lit.int .u64 n).wf = true) (wm : (Lit.int .u8 m).wf = true) (htab : Lib.TabIs Tryd.prog w "internal/strconv.uint64pow10" .u64 Lib.pow10Tab) :
    Calls Tryd.prog 5 #[.int .u64 n, .int .u8 m] w fun e w' => e = .returned (.bool true) ∧ Below w.heap.size w w' := by
  have HTAB := Lib.hid htab; clear htab
  obtain ⟨hn0, hn1⟩ := bounds_u64 wn
  obtain ⟨hm0, hm1⟩ := bounds_u8 wm
  clear wn wm
  obtain ⟨r, hr⟩ : ∃ r : Nat, m % 40 = r := ⟨(m % 40).toNat, by omega⟩
  have hr9 : r ≤ 39 := by omega
  obtain ⟨p, hp⟩ : ∃ p : Nat, (if 9223372036854775808 < n then n - 9223372036854775808 else n) = p := ⟨(if 9223372036854775808 < n then n - 9223372036854775808 else n).toNat, by split <;> omega⟩
  have hp63 : p ≤ 9223372036854775808 := by split at hp <;> omega
  have HP64 : Hid (p < 18446744073709551616) := Lib.hid (by omega)
  have HR64 : Hid (p + r < 18446744073709551616) := Lib.hid (by omega)
  have HPR : Hid (((p : Int) + r) = ((p + r : Nat) : Int)) := Lib.hid (by omega)
  have B0 := Below.refl w.heap.size w
  by_cases hbig : 9223372036854775808 < n
  case' pos =>
    rw [if_pos hbig] at hp
    have hnp : n = (p : Int) + 9223372036854775808 := by omega
  case' neg =>
    rw [if_neg hbig] at hp
    have hnp : n = (p : Int) := by omega
  all_goals
    clear hp
    subst hnp
    go_enter Tryd.func5, Tryd.ntmps5
    go_wp2_with (go_at_call 13; refine (of_any2 _ HP64.out _ (tab_below HTAB.out (by assumption))).mono ?_; rintro e w1 ⟨rfl, hb1⟩; have B1 := below_step (by assumption) hb1; clear hb1)
    go_loopw [5, 6] (fun s i wr => ∃ k : Nat, k ≤ r ∧ s = .string (mkB (Lib.decDigits (p + k))) ∧ i = .int .i64 k ∧ Below w.heap.size w wr) (fun _ i _ => r - (intOf i).toNat)
    case atStart => exact ⟨0, Nat.zero_le _, rfl, rfl, by assumption⟩
    case round =>
      obtain ⟨k, hk, rfl, rfl, hbel⟩ := hrel
      by_cases hlt : k < r
      · have ds := dd_len (p + k) (by omega)
        obtain ⟨D, hD⟩ : ∃ D, D = mkB (Lib.decDigits (p + k)) := ⟨_, rfl⟩
        obtain ⟨E, hE⟩ : ∃ D, D = mkB (Lib.decDigits (p + (k + 1))) := ⟨_, rfl⟩
        rw [← hD]
        have dl : D.data.toList = Lib.decDigits (p + k) := by rw [hD, mkB_list]
        have el : E.data.toList = Lib.decDigits (p + (k + 1)) := by rw [hE, mkB_list]
        have hds : D.size ≤ 20 := by rw [Lib.size_eq, dl]; exact ds
        have hes : E.size ≤ 21 := by
          rw [Lib.size_eq, el, show p + (k + 1) = p + k + 1 by omega, ← next_dd]; have := next_len (Lib.decDigits (p + k)); omega
        have hN : nextE D.data.toList = (E, 0) := by rw [nextE_ok (by rw [dl]; exact dd_may _), dl, next_dd, hE]; rfl
        have hC : cmpE D.data.toList E.data.toList = (-1, 0) := by
          rw [cmpE_ok (by rw [dl]; exact dd_may _) (by rw [el]; exact dd_may _), dl, el]
          rcases cmpN_val (Lib.decDigits (p + k)) (Lib.decDigits (p + (k + 1))) (dd_may _) (dd_may _) with h | h | h
          · rw [h.1]
          · have := congrArg valL h.2; rw [dd_val, dd_val] at this; omega
          · rw [dd_val, dd_val] at h; omega
        have HDM : Hid (D.size ≤ maxLen) := Lib.hid (by unfold maxLen; omega)
        have HEM : Hid (E.size ≤ maxLen) := Lib.hid (by unfold maxLen; omega)
        have HD9 : Hid (D.size ≤ 1000000000) := Lib.hid (by omega)
        have HN := Lib.hid hN; have HC := Lib.hid hC; have HE := Lib.hid hE
        clear ds hD hE dl el hds hes hN hC
        go_wp2_with (first
          | (go_at_call 10; refine (next_any _ _ (by first | exact HD9.out)).mono ?_; rintro e w1 ⟨rfl, hb1⟩; have B1 := below_step (by assumption) hb1; clear hb1; first | rw [HN.out])
          | (go_at_call 7; refine (cmpnum_any _ _ _ (by first | exact HDM.out | exact HEM.out) (by first | exact HDM.out | exact HEM.out)).mono ?_; rintro e w1 ⟨rfl, hb1⟩; have B1 := below_step (by assumption) hb1; clear hb1; first | rw [HC.out]))
        go_roundw
        case rel => exact ⟨k + 1, by omega, by rw [HE.out], by go_num, by assumption⟩
        case measure => simp [intOf]; omega
      · have hkr : k = r := by omega
        subst hkr
        go_wp2_with (first
          | (go_at_call 13; rw [HPR.out]; refine (of_any2 _ HR64.out _ (tab_below HTAB.out (by assumption))).mono ?_; rintro e w1 ⟨rfl, hb1⟩; have B1 := below_step (by assumption) hb1; clear hb1)
          | (go_at_call 15; refine (awake2_any _).mono ?_; rintro e w1 ⟨rfl, hb1⟩; have B1 := below_step (by assumption) hb1; clear hb1))
        go_ret
        exact ⟨rfl, by assumption⟩

theorem own : ownKnob Tryd.prog.godebug = none := by kernel_rfl
theorem laidOut : laidOutB Tryd.prog = true := by kernel_rfl

set_option maxRecDepth 100000 in
theorem lifted (os : Os) (started : os.Started) (H : Type) (enc : TypeId × Value → H) :
    ReturnsInHanded {} Tryd.checked os 5 .any (fun w args => (Rows.numberStepsSpec.pre enc Tryd.prog Tryd.f5 [] false w args ∧ laidMetH Tryd.prog Rows.numberStepsRow.laid w) ∧ sizedMet enc Tryd.prog Tryd.f5 (OpenSpec.ofChange Rows.numberStepsSpec) false w args) (Rows.numberStepsSpec.post enc Tryd.prog Tryd.f5 false true false false) := by
  refine returnsInHanded_of_change_and (C := Tryd.checked) (X := fun w _ => laidMetH Tryd.prog Rows.numberStepsRow.laid w) (fun _ _ _ hh h => h.of_heap hh) own started (by kernel_rfl) Tryd.func5
    (ChangeSpec.witness_shaped (enc := enc) (C := Tryd.checked) (os := os) (X := fun w _ => laidMetH Tryd.prog Rows.numberStepsRow.laid w) false (World.doorLaid Tryd.prog 400 os) #[.int .u64 0, .int .u8 0] 8 rfl (World.shaped_of_RefB (by kernel_rfl) (by kernel_rfl)) (by kernel_rfl) (by kernel_rfl) (by kernel_rfl) (laid_met os _)) ?_
  intro W base args ds gs before hval0 hW _ _ hL _
  have htab := tab_of hL
  have hval : ∀ (j : Nat) t v, Tryd.f5.params[j]? = some t → args[j]? = some v → Value.okWide Tryd.prog W .any base t v := hval0
  have hW' := hW
  obtain ⟨p, q, hA0, hV, rfl, hfz, hnd⟩ := hW
  have hA : DataW.TrodAll enc Tryd.prog W 0 (fun _ => true) true Tryd.f5.params.toList args.toList ds p := hA0
  rw [Tryd.params5] at hA hval
  obtain ⟨v0, vs0, d0, ds0, p0, q0, hargs, rfl, rfl, h0, r0⟩ := trodAll_cons hA
  obtain ⟨v1, vs1, d1, ds1, p1, q1, rfl, rfl, rfl, h1, r1⟩ := trodAll_cons r0
  obtain ⟨rfl, rfl, rfl⟩ := trodAll_nil r1
  obtain rfl : args = #[v0, v1] := by cases args; simp_all
  obtain ⟨rfl, rfl⟩ := trodVars_none hV
  obtain ⟨a0, rfl, rfl, rfl, w0⟩ := open_int Tryd.underlying22 (hval 0 22 v0 rfl rfl) h0
  obtain ⟨a1, rfl, rfl, rfl, w1⟩ := open_int Tryd.underlying5 (hval 1 5 v1 rfl rfl) h1
  clear hA0 hval0
  refine (walk a0 a1 W w0 w1 htab).mono fun e W' ⟨he, bel⟩ => ?_
  subst he
  exact ⟨_, rfl, _, _, _, [], _, [], hW', trodAll_mk1 (shut_bool Tryd.underlying4 _), (trodAll_cons_mk (shut_int Tryd.underlying22 w0) (trodAll_cons_mk (shut_int Tryd.underlying5 w1) trodAll_mk0)), rfl, bel.frame _, fun h => by cases h⟩

-- the row
theorem holds : Rows.NumberStepsSaid :=
  OpenClaim.holds_of_wide 5 Tryd.f5 rfl rfl rfl rfl rfl rfl rfl ⟨rfl, rfl, rfl, rfl, rfl⟩ rfl rfl rfl rfl rfl (by kernel_rfl) Tryd.func5 (by kernel_rfl)
    (of_decide_eq_true (by kernel_rfl)) (by unfold Func.isWrapper; first | (rw [if_pos (by decide +kernel)]; kernel_rfl) | (rw [if_neg (by decide +kernel)]; exact ⟨rfl, rfl⟩))
    (fun os started H enc _ => lifted os started H enc)
-- the given statement: the tied card
theorem proved : Rows.NumberStepsCardSaid :=
  Claim7.holds_tied_plain_at .later [] [.data, .data, .data] true Rows.numberStepsCard.stood.harness false
    holds (fun _ h => by cases h) (by kernel_rfl) (fun _ h => by cases h) numberSteps_row_tie rfl ⟨rfl, rfl⟩ (by kernel_rfl) rfl
    (fun f fn hf hfn => by
      obtain rfl : f = 5 := Option.some.inj ((show Tryd.prog.funcNamed Rows.numberStepsRow.func = some 5 by kernel_rfl).symm.trans hf) |>.symm
      obtain rfl : fn = Tryd.f5 := (Option.some.inj (Tryd.func5.symm.trans hfn)).symm
      exact ⟨by kernel_rfl, fun j t ht => by
        have hall : (Tryd.f5.params.toList.all fun u => !Tryd.prog.wantsStandIn u) = true := by kernel_rfl
        have hm : t ∈ Tryd.f5.params.toList := Array.mem_toList_iff.2 (Array.mem_of_getElem? ht)
        exact (show Tryd.prog.wantsStandIn t = false by simpa using List.all_eq_true.1 hall t hm)⟩)
    (by kernel_rfl)
end Go.Proofs.YtflaopmlmecdcaaDoor.numberSteps
