/- For every text: no version is a go's number, neither is empty, and each version, and each go's number, is a path, too; word's table of rests is as the program's text lays it (tied). -/
import Derived.Test.YtjlnajokkhdhnaaDoorRows
import Derived.Test.YtjlnajokkhdhnaaDoorWorN
import Derived.Test.YtjlnajokkhdhnaaDoorCards
import Derived.Test.YtjlnajokkhdhnaaDoorTie
import Derived.SevenTiedAt
import Derived.LaidMore
import Derived.Stop.Joined
import Derived.ProofKit
import Derived.OpenShut
import Derived.ShutString
import Derived.ChangeOld
namespace Go.Proofs.YtjlnajokkhdhnaaDoor.wordKinds
open Go.ChangeShapes Go.WideShapes Go.ChangeAt Go.RowKit
open Go.ChangeMaps (open_string shut_string)
set_option maxRecDepth 100000
set_option linter.unusedVariables false

set_option maxHeartbeats 1600000 in
set_option maxRecDepth 100000 in
theorem walk (a : ByteArray) (w : World) (ha : a.size ≤ maxLen) (hR : RestIs w) :
    Calls Tryd.prog 8 #[.string a] w fun e w' => e = .returned (.bool true) ∧ Below w.heap.size w w' := by
  have HA := Lib.hid ha; clear ha
  have hlx := few6_le a.data.toList
  obtain ⟨x, hx⟩ : ∃ x, few6 a.data.toList = x := ⟨_, rfl⟩
  rw [hx] at hlx
  have SX : Hid (x.length ≤ 1000000000) := Lib.hid (by omega)
  have HX := Lib.hid hx; clear hx
  have B := Lib.hid (Below.refl w.heap.size w)
  obtain ⟨p, hp⟩ : ∃ p, wholeZ 0 x = p := ⟨_, rfl⟩
  obtain ⟨v, hv⟩ : ∃ p, wholeZ 1 x = p := ⟨_, rfl⟩
  obtain ⟨g, hg⟩ : ∃ p, wholeZ 2 x = p := ⟨_, rfl⟩
  have hp' : pathB x = p := hp
  have hv' : okV x = v := hv
  have hg' : goB x = g := hg
  have f1 : v = true → g = false := fun h => by rw [← hg']; exact ver_nogo (hv'.trans h)
  have f2 : v = true → p = true := fun h => by rw [← hp']; exact ver_path (hv'.trans h)
  have f3 : g = true → p = true := fun h => by rw [← hp']; exact go_path (hg'.trans h)
  have f4 : x = [] → p = false ∧ v = false ∧ g = false := fun h => by subst h; exact ⟨hp'.symm.trans kinds_nil.1, hv'.symm.trans kinds_nil.2.1, hg'.symm.trans kinds_nil.2.2⟩
  have HP := Lib.hid hp; have HV := Lib.hid hv; have HG := Lib.hid hg
  clear hp hv hg hp' hv' hg'
  obtain ⟨ne, hne⟩ : ∃ b, decide (x = []) = b := ⟨_, rfl⟩
  have f5 : ne = true → p = false ∧ v = false ∧ g = false := fun h => f4 (by rw [h] at hne; simpa using hne)
  have hmb : ((mkB x).toList.isEmpty = ne) ∧ (ne = false → ¬ (mkB x).toList = []) ∧ (ne = true → (mkB x).toList = []) := by
    have e : (mkB x).toList = x := by rw [Lib.toList_data, mkB_list]
    rw [e, ← hne]
    cases x <;> simp
  have hq : (v = true ∧ g = false ∧ p = true ∧ ne = false) ∨ (v = false ∧ g = true ∧ p = true ∧ ne = false) ∨ (v = false ∧ g = false ∧ p = true ∧ ne = false) ∨ (v = false ∧ g = false ∧ p = false ∧ ne = false) ∨ (v = false ∧ g = false ∧ p = false ∧ ne = true) := by
    revert f1 f2 f3 f5; cases p <;> cases v <;> cases g <;> cases ne <;> simp
  have HQ := Lib.hid hq
  have HMB := Lib.hid hmb
  clear f1 f2 f3 f4 f5 hq hne hmb
  go_enter Tryd.func8, Tryd.ntmps8
  go_upto_region 3 with (first
    | (go_at_call 9; refine (few6_any _ _ (by first | exact HA.out)).mono ?_; rintro e w' ⟨rfl, rfl⟩; rw [HX.out])
    | (go_at_call 11; refine (whole_m _ _ _ SX.out (hR.below B.out)).mono ?_; rintro e w1 ⟨rfl, hb1⟩; (first | rw [HP.out] | rw [HV.out] | rw [HG.out]); replace B := Lib.hid (below_step B.out hb1); clear hb1))
  rcases HQ.out with ⟨rfl, rfl, rfl, rfl⟩ | ⟨rfl, rfl, rfl, rfl⟩ | ⟨rfl, rfl, rfl, rfl⟩ | ⟨rfl, rfl, rfl, rfl⟩ | ⟨rfl, rfl, rfl, rfl⟩
  all_goals
    have hm1 := HMB.out.1
    first | have hm2 := HMB.out.2.1 rfl | have hm2 := HMB.out.2.2 rfl
    go_wp2_with (go_at_call 12; refine (awake6_any _ (hR.below B.out)).mono ?_; rintro e w1 ⟨rfl, hb1⟩; replace B := Lib.hid (below_step B.out hb1); clear hb1)
    go_ret
    exact ⟨rfl, B.out⟩

theorem own : ownKnob Tryd.prog.godebug = none := by kernel_rfl
theorem laidOut : laidOutB Tryd.prog = true := by kernel_rfl

set_option maxRecDepth 100000 in
theorem lifted (os : Os) (started : os.Started) (H : Type) (enc : TypeId × Value → H) :
    ReturnsInHanded {} Tryd.checked os 8 .any (fun w args => (Rows.wordKindsSpec.pre enc Tryd.prog Tryd.f8 [] false w args ∧ laidMetH Tryd.prog Rows.wordKindsRow.laid w) ∧ sizedMet enc Tryd.prog Tryd.f8 (OpenSpec.ofChange Rows.wordKindsSpec) false w args) (Rows.wordKindsSpec.post enc Tryd.prog Tryd.f8 false true false false) := by
  refine returnsInHanded_of_change_and (C := Tryd.checked) (X := fun w _ => laidMetH Tryd.prog Rows.wordKindsRow.laid w) (fun _ _ _ hh h => h.of_heap hh) own started (by kernel_rfl) Tryd.func8
    (ChangeSpec.witness_shaped (enc := enc) (C := Tryd.checked) (os := os) (X := fun w _ => laidMetH Tryd.prog Rows.wordKindsRow.laid w) false (World.doorLaid Tryd.prog 400 os) #[.string ByteArray.empty] 8 rfl (World.shaped_of_RefB (by kernel_rfl) (by kernel_rfl)) (by kernel_rfl) (by kernel_rfl) (by kernel_rfl) (laid_met os _)) ?_
  intro W base args ds gs before hval0 hW _ _ hL _
  have htab := tab_of hL
  have hval : ∀ (j : Nat) t v, Tryd.f8.params[j]? = some t → args[j]? = some v → Value.okWide Tryd.prog W .any base t v := hval0
  have hW' := hW
  obtain ⟨p, q, hA0, hV, rfl, hfz, hnd⟩ := hW
  have hA : DataW.TrodAll enc Tryd.prog W 0 (fun _ => true) true Tryd.f8.params.toList args.toList ds p := hA0
  rw [Tryd.params8] at hA hval
  obtain ⟨v0, vs0, d0, ds0, p0, q0, hargs, rfl, rfl, h0, r0⟩ := trodAll_cons hA
  obtain ⟨rfl, rfl, rfl⟩ := trodAll_nil r0
  obtain rfl : args = #[v0] := by cases args; simp_all
  obtain ⟨rfl, rfl⟩ := trodVars_none hV
  obtain ⟨a0, rfl, rfl, rfl, w0⟩ := open_string Tryd.underlying9 (hval 0 9 v0 rfl rfl) h0
  clear hA0 hval0
  refine (walk a0 W w0 htab).mono fun e W' ⟨he, bel⟩ => ?_
  subst he
  exact ⟨_, rfl, _, _, _, [], _, [], hW', trodAll_mk1 (shut_bool Tryd.underlying4 _), (trodAll_cons_mk (shut_string Tryd.underlying9 w0) trodAll_mk0), rfl, bel.frame _, fun h => by cases h⟩

-- the row
theorem holds : Rows.WordKindsSaid :=
  OpenClaim.holds_of_wide 8 Tryd.f8 rfl rfl rfl rfl rfl rfl rfl ⟨rfl, rfl, rfl, rfl, rfl⟩ rfl rfl rfl rfl rfl (by kernel_rfl) Tryd.func8 (by kernel_rfl)
    (of_decide_eq_true (by kernel_rfl)) (by unfold Func.isWrapper; first | (rw [if_pos (by decide +kernel)]; kernel_rfl) | (rw [if_neg (by decide +kernel)]; exact ⟨rfl, rfl⟩))
    (fun os started H enc _ => lifted os started H enc)
-- the given statement: the tied card
theorem proved : Rows.WordKindsCardSaid :=
  Claim7.holds_tied_plain_at .later [] [.data] true Rows.wordKindsCard.stood.harness false
    holds (fun _ h => by cases h) (by kernel_rfl) (fun _ h => by cases h) wordKinds_row_tie rfl ⟨rfl, rfl⟩ (by kernel_rfl) rfl
    (fun f fn hf hfn => by
      obtain rfl : f = 8 := Option.some.inj ((show Tryd.prog.funcNamed Rows.wordKindsRow.func = some 8 by kernel_rfl).symm.trans hf) |>.symm
      obtain rfl : fn = Tryd.f8 := (Option.some.inj (Tryd.func8.symm.trans hfn)).symm
      exact ⟨by kernel_rfl, fun j t ht => by
        have hall : (Tryd.f8.params.toList.all fun u => !Tryd.prog.wantsStandIn u) = true := by kernel_rfl
        have hm : t ∈ Tryd.f8.params.toList := Array.mem_toList_iff.2 (Array.mem_of_getElem? ht)
        exact (show Tryd.prog.wantsStandIn t = false by simpa using List.all_eq_true.1 hall t hm)⟩)
    (by kernel_rfl)
end Go.Proofs.YtjlnajokkhdhnaaDoor.wordKinds
