/- For every kind and every text: how much of the text lives, and whether it is a word, is what the document says; of a kind that there is not, -1 and no; word's table of rests is as the program's text lays it (tied). -/
import Derived.Test.YtjlnajokkhdhnaaDoorRows
import Derived.Test.YtjlnajokkhdhnaaDoorWorN
import Derived.Test.YtjlnajokkhdhnaaDoorCards
import Derived.Test.YtjlnajokkhdhnaaDoorTie
import Derived.SevenTiedAt
import Derived.LaidMore
import Derived.Stop.Joined
import Derived.ProofKit
import Derived.OpenShut
import Derived.ShutString
import Derived.ChangeOld
namespace Go.Proofs.YtjlnajokkhdhnaaDoor.wordTells
open Go.ChangeShapes Go.WideShapes Go.ChangeAt Go.RowKit
open Go.ChangeMaps (open_string shut_string)
set_option maxRecDepth 100000
set_option linter.unusedVariables false

set_option maxHeartbeats 1600000 in
set_option maxRecDepth 100000 in
theorem walk (k : Int) (a : ByteArray) (w : World) (wk : (Lit.int .i64 k).wf = true) (ha : a.size ≤ maxLen) (hR : RestIs w) :
    Calls Tryd.prog 3 #[.int .i64 k, .string a] w fun e w' => e = .returned (.bool true) ∧ Below w.heap.size w w' := by
  have HA := Lib.hid ha; clear ha wk
  have hlx := few6_le a.data.toList
  obtain ⟨x, hx⟩ : ∃ x, few6 a.data.toList = x := ⟨_, rfl⟩
  rw [hx] at hlx
  have SX : Hid (x.length ≤ 1000000000) := Lib.hid (by omega)
  have SY : Hid (x.length ≤ 1000000) := Lib.hid (by omega)
  have HX := Lib.hid hx; clear hx
  have B := Lib.hid (Below.refl w.heap.size w)
  by_cases hk : 0 ≤ k ∧ k < 3
  · obtain ⟨k', rfl⟩ : ∃ k' : Nat, k = k' := ⟨k.toNat, by omega⟩
    have hk3 : k' < 3 := by omega
    have hl := liveZ_nat hk3 x
    obtain ⟨n, hn⟩ : ∃ n, liveN k' 0 x = n := ⟨_, rfl⟩
    rw [hn] at hl
    obtain ⟨b, hb⟩ : ∃ b, wholeZ k' x = b := ⟨_, rfl⟩
    have HL := Lib.hid hl; have HN := Lib.hid hn; have HB := Lib.hid hb; have HK := Lib.hid hk3
    clear hl hn hb hk3
    cases b
    all_goals
      go_enter Tryd.func3, Tryd.ntmps3
      go_wp2_with (first
        | (go_at_call 9; refine (few6_any _ _ (by first | exact HA.out)).mono ?_; rintro e w' ⟨rfl, rfl⟩; rw [HX.out])
        | (go_at_call 10; refine (live_m _ _ _ SX.out).mono ?_; rintro e w1 ⟨rfl, hb1⟩; rw [HL.out]; replace B := Lib.hid (below_step B.out hb1); clear hb1)
        | (go_at_call 13; refine (reflive_any _ HK.out _ _ SY.out).mono ?_; rintro e w1 ⟨rfl, hb1⟩; rw [HN.out]; replace B := Lib.hid (below_step B.out hb1); clear hb1)
        | (go_at_call 11; refine (whole_m _ _ _ SX.out (hR.below B.out)).mono ?_; rintro e w1 ⟨rfl, hb1⟩; rw [HB.out]; replace B := Lib.hid (below_step B.out hb1); clear hb1)
        | (go_at_call 14; refine (refwhole_m _ _ _ SX.out).mono ?_; rintro e w1 ⟨rfl, hb1⟩; rw [HB.out]; replace B := Lib.hid (below_step B.out hb1); clear hb1)
        | (go_at_call 12; refine (awake6_any _ (hR.below B.out)).mono ?_; rintro e w1 ⟨rfl, hb1⟩; replace B := Lib.hid (below_step B.out hb1); clear hb1))
      go_ret
      exact ⟨rfl, B.out⟩
  · have HL := Lib.hid (show liveZ k x = -1 by unfold liveZ; rw [if_neg hk])
    have HB := Lib.hid (show wholeZ k x = false by unfold wholeZ; rw [if_neg hk])
    have hq : k < 0 ∨ (0 ≤ k ∧ 2 < k) := by omega
    clear hk
    rcases hq with h1 | ⟨h1, h2⟩
    all_goals
      go_enter Tryd.func3, Tryd.ntmps3
      go_wp2_with (first
        | (go_at_call 9; refine (few6_any _ _ (by first | exact HA.out)).mono ?_; rintro e w' ⟨rfl, rfl⟩; rw [HX.out])
        | (go_at_call 10; refine (live_m _ _ _ SX.out).mono ?_; rintro e w1 ⟨rfl, hb1⟩; rw [HL.out]; replace B := Lib.hid (below_step B.out hb1); clear hb1)
        | (go_at_call 11; refine (whole_m _ _ _ SX.out (hR.below B.out)).mono ?_; rintro e w1 ⟨rfl, hb1⟩; rw [HB.out]; replace B := Lib.hid (below_step B.out hb1); clear hb1)
        | (go_at_call 12; refine (awake6_any _ (hR.below B.out)).mono ?_; rintro e w1 ⟨rfl, hb1⟩; replace B := Lib.hid (below_step B.out hb1); clear hb1))
      go_ret
      exact ⟨rfl, B.out⟩

theorem own : ownKnob Tryd.prog.godebug = none := by kernel_rfl
theorem laidOut : laidOutB Tryd.prog = true := by kernel_rfl

set_option maxRecDepth 100000 in
theorem lifted (os : Os) (started : os.Started) (H : Type) (enc : TypeId × Value → H) :
    ReturnsInHanded {} Tryd.checked os 3 .any (fun w args => (Rows.wordTellsSpec.pre enc Tryd.prog Tryd.f3 [] false w args ∧ laidMetH Tryd.prog Rows.wordTellsRow.laid w) ∧ sizedMet enc Tryd.prog Tryd.f3 (OpenSpec.ofChange Rows.wordTellsSpec) false w args) (Rows.wordTellsSpec.post enc Tryd.prog Tryd.f3 false true false false) := by
  refine returnsInHanded_of_change_and (C := Tryd.checked) (X := fun w _ => laidMetH Tryd.prog Rows.wordTellsRow.laid w) (fun _ _ _ hh h => h.of_heap hh) own started (by kernel_rfl) Tryd.func3
    (ChangeSpec.witness_shaped (enc := enc) (C := Tryd.checked) (os := os) (X := fun w _ => laidMetH Tryd.prog Rows.wordTellsRow.laid w) false (World.doorLaid Tryd.prog 400 os) #[.int .i64 0, .string ByteArray.empty] 8 rfl (World.shaped_of_RefB (by kernel_rfl) (by kernel_rfl)) (by kernel_rfl) (by kernel_rfl) (by kernel_rfl) (laid_met os _)) ?_
  intro W base args ds gs before hval0 hW _ _ hL _
  have htab := tab_of hL
  have hval : ∀ (j : Nat) t v, Tryd.f3.params[j]? = some t → args[j]? = some v → Value.okWide Tryd.prog W .any base t v := hval0
  have hW' := hW
  obtain ⟨p, q, hA0, hV, rfl, hfz, hnd⟩ := hW
  have hA : DataW.TrodAll enc Tryd.prog W 0 (fun _ => true) true Tryd.f3.params.toList args.toList ds p := hA0
  rw [Tryd.params3] at hA hval
  obtain ⟨v0, vs0, d0, ds0, p0, q0, hargs, rfl, rfl, h0, r0⟩ := trodAll_cons hA
  obtain ⟨v1, vs1, d1, ds1, p1, q1, rfl, rfl, rfl, h1, r1⟩ := trodAll_cons r0
  obtain ⟨rfl, rfl, rfl⟩ := trodAll_nil r1
  obtain rfl : args = #[v0, v1] := by cases args; simp_all
  obtain ⟨rfl, rfl⟩ := trodVars_none hV
  obtain ⟨a0, rfl, rfl, rfl, w0⟩ := open_int Tryd.underlying3 (hval 0 3 v0 rfl rfl) h0
  obtain ⟨a1, rfl, rfl, rfl, w1⟩ := open_string Tryd.underlying9 (hval 1 9 v1 rfl rfl) h1
  clear hA0 hval0
  refine (walk a0 a1 W w0 w1 htab).mono fun e W' ⟨he, bel⟩ => ?_
  subst he
  exact ⟨_, rfl, _, _, _, [], _, [], hW', trodAll_mk1 (shut_bool Tryd.underlying4 _), (trodAll_cons_mk (shut_int Tryd.underlying3 w0) (trodAll_cons_mk (shut_string Tryd.underlying9 w1) trodAll_mk0)), rfl, bel.frame _, fun h => by cases h⟩

-- the row
theorem holds : Rows.WordTellsSaid :=
  OpenClaim.holds_of_wide 3 Tryd.f3 rfl rfl rfl rfl rfl rfl rfl ⟨rfl, rfl, rfl, rfl, rfl⟩ rfl rfl rfl rfl rfl (by kernel_rfl) Tryd.func3 (by kernel_rfl)
    (of_decide_eq_true (by kernel_rfl)) (by unfold Func.isWrapper; first | (rw [if_pos (by decide +kernel)]; kernel_rfl) | (rw [if_neg (by decide +kernel)]; exact ⟨rfl, rfl⟩))
    (fun os started H enc _ => lifted os started H enc)
-- the given statement: the tied card
theorem proved : Rows.WordTellsCardSaid :=
  Claim7.holds_tied_plain_at .later [] [.data] true Rows.wordTellsCard.stood.harness false
    holds (fun _ h => by cases h) (by kernel_rfl) (fun _ h => by cases h) wordTells_row_tie rfl ⟨rfl, rfl⟩ (by kernel_rfl) rfl
    (fun f fn hf hfn => by
      obtain rfl : f = 3 := Option.some.inj ((show Tryd.prog.funcNamed Rows.wordTellsRow.func = some 3 by kernel_rfl).symm.trans hf) |>.symm
      obtain rfl : fn = Tryd.f3 := (Option.some.inj (Tryd.func3.symm.trans hfn)).symm
      exact ⟨by kernel_rfl, fun j t ht => by
        have hall : (Tryd.f3.params.toList.all fun u => !Tryd.prog.wantsStandIn u) = true := by kernel_rfl
        have hm : t ∈ Tryd.f3.params.toList := Array.mem_toList_iff.2 (Array.mem_of_getElem? ht)
        exact (show Tryd.prog.wantsStandIn t = false by simpa using List.all_eq_true.1 hall t hm)⟩)
    (by kernel_rfl)
end Go.Proofs.YtjlnajokkhdhnaaDoor.wordTells
