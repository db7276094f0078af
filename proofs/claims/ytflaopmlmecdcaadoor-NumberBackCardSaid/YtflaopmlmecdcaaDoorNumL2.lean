/- For every two numbers: the text of each is a number's and tells it; order, and being the same, are those of the numbers; the next one's text is that of one more, or, of the last number of 64 bits, one that is too large; the library's table of powers of ten is as the program's text lays it (tied). -/
import Derived.Test.YtflaopmlmecdcaaDoorRows
import Derived.Test.YtflaopmlmecdcaaDoorNumR
import Derived.Test.YtflaopmlmecdcaaDoorCards
import Derived.Test.YtflaopmlmecdcaaDoorTie
import Derived.SevenTiedAt
import Derived.LaidMore
import Derived.Stop.Joined
import Derived.ProofKit
import Derived.OpenShut
import Derived.ShutString
import Derived.ChangeOld
namespace Go.Proofs.YtflaopmlmecdcaaDoor.numberBack
open Go.ChangeShapes Go.WideShapes Go.ChangeAt Go.RowKit
open Go.ChangeMaps (open_string shut_string)
set_option linter.unusedVariables false

theorem lastText : Lib.decDigits 18446744073709551616 = [49, 56, 52, 52, 54, 55, 52, 52, 48, 55, 51, 55, 48, 57, 53, 53, 49, 54, 49, 54] := by decide +kernel

set_option maxRecDepth 100000 in
set_option maxHeartbeats 6400000 in
theorem walk (n m : Int) (w : World) (wn : (Lit.int .u64 n).wf = true) (wm : (Lit.int .u64 m).wf = true) (htab : Lib.TabIs Tryd.prog w "internal/strconv.uint64pow10" .u64 Lib.pow10Tab) :
    Calls Tryd.prog 4 #[.int .u64 n, .int .u64 m] w fun e w' => e = .returned (.bool true) ∧ Below w.heap.size w w' := by
  have HTAB := Lib.hid htab; clear htab
  obtain ⟨hn0, hn1⟩ := bounds_u64 wn
  obtain ⟨hm0, hm1⟩ := bounds_u64 wm
  clear wn wm
  obtain ⟨p, rfl⟩ : ∃ p : Nat, n = p := ⟨n.toNat, by omega⟩
  obtain ⟨q, rfl⟩ : ∃ p : Nat, m = p := ⟨m.toNat, by omega⟩
  have HNB : Hid (p < 18446744073709551616) := Lib.hid (by omega)
  have HMB : Hid (q < 18446744073709551616) := Lib.hid (by omega)
  obtain ⟨s, hs⟩ : ∃ D, D = mkB (Lib.decDigits p) := ⟨_, rfl⟩
  obtain ⟨t, ht⟩ : ∃ D, D = mkB (Lib.decDigits q) := ⟨_, rfl⟩
  obtain ⟨u, hu⟩ : ∃ D, D = mkB (Lib.decDigits (p + 1)) := ⟨_, rfl⟩
  have sl : s.data.toList = Lib.decDigits p := by rw [hs, mkB_list]
  have tl : t.data.toList = Lib.decDigits q := by rw [ht, mkB_list]
  have ul : u.data.toList = Lib.decDigits (p + 1) := by rw [hu, mkB_list]
  have ss := dd_len p (by omega)
  have ts := dd_len q (by omega)
  have hss : s.size ≤ 20 := by rw [Lib.size_eq, sl]; exact ss
  have hts : t.size ≤ 20 := by rw [Lib.size_eq, tl]; exact ts
  have hus : u.size ≤ 21 := by
    rw [Lib.size_eq, ul, ← next_dd]; have := next_len (Lib.decDigits p); omega
  obtain ⟨c, hc⟩ : ∃ c, cmpN s.data.toList t.data.toList = c := ⟨_, rfl⟩
  have hE : cmpE s.data.toList t.data.toList = (c, 0) := by rw [cmpE_ok (by rw [sl]; exact dd_may p) (by rw [tl]; exact dd_may q), hc]
  have hcv := cmpN_val s.data.toList t.data.toList (by rw [sl]; exact dd_may p) (by rw [tl]; exact dd_may q)
  rw [hc, sl, tl, dd_val, dd_val] at hcv
  have hV : valE s.data.toList = (((p : Nat) : Int), 0) := by rw [valE_ok (by rw [sl]; exact dd_may p) (by rw [sl, dd_val]; omega), sl, dd_val]
  have hN : nextE s.data.toList = (u, 0) := by rw [nextE_ok (by rw [sl]; exact dd_may p), sl, next_dd, hu]
  have hM : mayL s.data.toList = true := by rw [sl]; exact dd_may p
  have HVU : Hid (p = 18446744073709551615 → valE u.data.toList = (0, 4)) := Lib.hid (fun h => by rw [valE_big (by rw [ul]; exact dd_may _) (by rw [ul, dd_val]; omega)])
  have heq : (s.toList == t.toList) = decide (p = q) := by
    rw [Lib.toList_data, Lib.toList_data, sl, tl, Bool.eq_iff_iff, beq_iff_eq, decide_eq_true_eq]
    exact ⟨fun h => by have := congrArg valL h; rwa [dd_val, dd_val] at this, fun h => by rw [h]⟩
  have hul : p = 18446744073709551615 → u.data.toList = [49, 56, 52, 52, 54, 55, 52, 52, 48, 55, 51, 55, 48, 57, 53, 53, 49, 54, 49, 54] := fun h => by rw [ul, h]; exact lastText
  have hq3 : (p < q ∧ c = -1 ∧ (s.toList == t.toList) = false) ∨ (p = q ∧ c = 0 ∧ (s.toList == t.toList) = true) ∨ (q < p ∧ c = 1 ∧ (s.toList == t.toList) = false) := by
    rw [heq]
    rcases hcv with ⟨h1, h2⟩ | ⟨h1, h2⟩ | ⟨h1, h2⟩
    · exact .inl ⟨h2, h1, decide_eq_false (by omega)⟩
    · have h3 : p = q := by have := congrArg valL h2; rwa [dd_val, dd_val] at this
      exact .inr (.inl ⟨h3, h1, decide_eq_true h3⟩)
    · exact .inr (.inr ⟨h2, h1, decide_eq_false (by omega)⟩)
  clear heq
  have HSM : Hid (s.size ≤ maxLen) := Lib.hid (by unfold maxLen; omega)
  have HTM : Hid (t.size ≤ maxLen) := Lib.hid (by unfold maxLen; omega)
  have HS9 : Hid (s.size ≤ 1000000000) := Lib.hid (by omega)
  have HU9 : Hid (u.size ≤ 1000000000) := Lib.hid (by omega)
  have HS := Lib.hid hs; have HT := Lib.hid ht; have HU := Lib.hid hu; have HE := Lib.hid hE; have HVS := Lib.hid hV; have HNX := Lib.hid hN; have HMS := Lib.hid hM; have HUL := Lib.hid hul
  clear hs ht hu sl tl ul ss ts hss hts hus hc hE hcv hV hN hM hul
  have B0 := Below.refl w.heap.size w
  rcases hq3 with ⟨k1, k2, k3⟩ | ⟨k1, k2, k3⟩ | ⟨k1, k2, k3⟩
  case' inr.inl =>
    subst k1
    obtain rfl : t = s := by rw [HS.out, HT.out]
  all_goals
    subst k2
    by_cases hlast : p = 18446744073709551615
    · have hul := HUL.out hlast
      have hut : u.toList = [49, 56, 52, 52, 54, 55, 52, 52, 48, 55, 51, 55, 48, 57, 53, 53, 49, 54, 49, 54] := by rw [Lib.toList_data, hul]
      have HVU2 := Lib.hid (HVU.out hlast)
      have hlb : ((p : Int) == 18446744073709551615) = true := by rw [hlast]; rfl
      clear hul hlast
      go_enter Tryd.func4, Tryd.ntmps4
      go_wp2_with (first
        | (go_at_call 13; refine (of_any2 _ (by first | exact HNB.out | exact HMB.out) _ (tab_below HTAB.out (by assumption))).mono ?_; rintro e w1 ⟨rfl, hb1⟩; have B1 := below_step (by assumption) hb1; clear hb1; first | rw [← HS.out] | rw [← HT.out])
        | (go_at_call 8; refine (value_any _ _ (by first | exact HS9.out | exact HU9.out)).mono ?_; rintro e w1 ⟨rfl, hb1⟩; have B1 := below_step (by assumption) hb1; clear hb1; first | rw [HVS.out] | rw [HVU2.out])
        | (go_at_call 7; refine (cmpnum_any _ _ _ (by first | exact HSM.out | exact HTM.out) (by first | exact HSM.out | exact HTM.out)).mono ?_; rintro e w1 ⟨rfl, hb1⟩; have B1 := below_step (by assumption) hb1; clear hb1; first | rw [HE.out])
        | (go_at_call 10; refine (next_any _ _ (by first | exact HS9.out)).mono ?_; rintro e w1 ⟨rfl, hb1⟩; have B1 := below_step (by assumption) hb1; clear hb1; first | rw [HNX.out])
        | (go_at_call 11; refine (may_any _ _ (by first | exact HSM.out)).mono ?_; rintro e w1 ⟨rfl, hb1⟩; have B1 := below_step (by assumption) hb1; clear hb1; first | rw [HMS.out])
        | (go_at_call 15; refine (awake2_any _).mono ?_; rintro e w1 ⟨rfl, hb1⟩; have B1 := below_step (by assumption) hb1; clear hb1))
      all_goals
        go_ret
        first | exact ⟨rfl, by assumption⟩ | (exfalso; omega) | (exfalso; simp only [beq_iff_eq] at *; omega)
    · have HN1 : Hid (p + 1 < 18446744073709551616) := Lib.hid (by omega)
      have hlb : ((p : Int) == 18446744073709551615) = false := by simp; omega
      have HP1 : Hid (((p : Int) + 1) = ((p + 1 : Nat) : Int)) := Lib.hid (by omega)
      go_enter Tryd.func4, Tryd.ntmps4
      go_wp2_with (first
        | (go_at_call 13; refine (of_any2 _ (by first | exact HNB.out | exact HMB.out) _ (tab_below HTAB.out (by assumption))).mono ?_; rintro e w1 ⟨rfl, hb1⟩; have B1 := below_step (by assumption) hb1; clear hb1; first | rw [← HS.out] | rw [← HT.out])
        | (go_at_call 13; rw [HP1.out]; refine (of_any2 _ (by first | exact HN1.out) _ (tab_below HTAB.out (by assumption))).mono ?_; rintro e w1 ⟨rfl, hb1⟩; have B1 := below_step (by assumption) hb1; clear hb1; first | rw [← HU.out])
        | (go_at_call 8; refine (value_any _ _ (by first | exact HS9.out)).mono ?_; rintro e w1 ⟨rfl, hb1⟩; have B1 := below_step (by assumption) hb1; clear hb1; first | rw [HVS.out])
        | (go_at_call 7; refine (cmpnum_any _ _ _ (by first | exact HSM.out | exact HTM.out) (by first | exact HSM.out | exact HTM.out)).mono ?_; rintro e w1 ⟨rfl, hb1⟩; have B1 := below_step (by assumption) hb1; clear hb1; first | rw [HE.out])
        | (go_at_call 10; refine (next_any _ _ (by first | exact HS9.out)).mono ?_; rintro e w1 ⟨rfl, hb1⟩; have B1 := below_step (by assumption) hb1; clear hb1; first | rw [HNX.out])
        | (go_at_call 11; refine (may_any _ _ (by first | exact HSM.out)).mono ?_; rintro e w1 ⟨rfl, hb1⟩; have B1 := below_step (by assumption) hb1; clear hb1; first | rw [HMS.out])
        | (go_at_call 15; refine (awake2_any _).mono ?_; rintro e w1 ⟨rfl, hb1⟩; have B1 := below_step (by assumption) hb1; clear hb1))
      all_goals
        go_ret
        first | exact ⟨rfl, by assumption⟩ | (exfalso; omega) | (exfalso; simp only [beq_iff_eq] at *; omega)

theorem own : ownKnob Tryd.prog.godebug = none := by kernel_rfl
theorem laidOut : laidOutB Tryd.prog = true := by kernel_rfl

set_option maxRecDepth 100000 in
theorem lifted (os : Os) (started : os.Started) (H : Type) (enc : TypeId × Value → H) :
    ReturnsInHanded {} Tryd.checked os 4 .any (fun w args => (Rows.numberBackSpec.pre enc Tryd.prog Tryd.f4 [] false w args ∧ laidMetH Tryd.prog Rows.numberBackRow.laid w) ∧ sizedMet enc Tryd.prog Tryd.f4 (OpenSpec.ofChange Rows.numberBackSpec) false w args) (Rows.numberBackSpec.post enc Tryd.prog Tryd.f4 false true false false) := by
  refine returnsInHanded_of_change_and (C := Tryd.checked) (X := fun w _ => laidMetH Tryd.prog Rows.numberBackRow.laid w) (fun _ _ _ hh h => h.of_heap hh) own started (by kernel_rfl) Tryd.func4
    (ChangeSpec.witness_shaped (enc := enc) (C := Tryd.checked) (os := os) (X := fun w _ => laidMetH Tryd.prog Rows.numberBackRow.laid w) false (World.doorLaid Tryd.prog 400 os) #[.int .u64 0, .int .u64 0] 8 rfl (World.shaped_of_RefB (by kernel_rfl) (by kernel_rfl)) (by kernel_rfl) (by kernel_rfl) (by kernel_rfl) (laid_met os _)) ?_
  intro W base args ds gs before hval0 hW _ _ hL _
  have htab := tab_of hL
  have hval : ∀ (j : Nat) t v, Tryd.f4.params[j]? = some t → args[j]? = some v → Value.okWide Tryd.prog W .any base t v := hval0
  have hW' := hW
  obtain ⟨p, q, hA0, hV, rfl, hfz, hnd⟩ := hW
  have hA : DataW.TrodAll enc Tryd.prog W 0 (fun _ => true) true Tryd.f4.params.toList args.toList ds p := hA0
  rw [Tryd.params4] at hA hval
  obtain ⟨v0, vs0, d0, ds0, p0, q0, hargs, rfl, rfl, h0, r0⟩ := trodAll_cons hA
  obtain ⟨v1, vs1, d1, ds1, p1, q1, rfl, rfl, rfl, h1, r1⟩ := trodAll_cons r0
  obtain ⟨rfl, rfl, rfl⟩ := trodAll_nil r1
  obtain rfl : args = #[v0, v1] := by cases args; simp_all
  obtain ⟨rfl, rfl⟩ := trodVars_none hV
  obtain ⟨a0, rfl, rfl, rfl, w0⟩ := open_int Tryd.underlying22 (hval 0 22 v0 rfl rfl) h0
  obtain ⟨a1, rfl, rfl, rfl, w1⟩ := open_int Tryd.underlying22 (hval 1 22 v1 rfl rfl) h1
  clear hA0 hval0
  refine (walk a0 a1 W w0 w1 htab).mono fun e W' ⟨he, bel⟩ => ?_
  subst he
  exact ⟨_, rfl, _, _, _, [], _, [], hW', trodAll_mk1 (shut_bool Tryd.underlying4 _), (trodAll_cons_mk (shut_int Tryd.underlying22 w0) (trodAll_cons_mk (shut_int Tryd.underlying22 w1) trodAll_mk0)), rfl, bel.frame _, fun h => by cases h⟩

-- the row
theorem holds : Rows.NumberBackSaid :=
  OpenClaim.holds_of_wide 4 Tryd.f4 rfl rfl rfl rfl rfl rfl rfl ⟨rfl, rfl, rfl, rfl, rfl⟩ rfl rfl rfl rfl rfl (by kernel_rfl) Tryd.func4 (by kernel_rfl)
    (of_decide_eq_true (by kernel_rfl)) (by unfold Func.isWrapper; first | (rw [if_pos (by decide +kernel)]; kernel_rfl) | (rw [if_neg (by decide +kernel)]; exact ⟨rfl, rfl⟩))
    (fun os started H enc _ => lifted os started H enc)
-- the given statement: the tied card
theorem proved : Rows.NumberBackCardSaid :=
  Claim7.holds_tied_plain_at .later [] [.data, .data, .data] true Rows.numberBackCard.stood.harness false
    holds (fun _ h => by cases h) (by kernel_rfl) (fun _ h => by cases h) numberBack_row_tie rfl ⟨rfl, rfl⟩ (by kernel_rfl) rfl
    (fun f fn hf hfn => by
      obtain rfl : f = 4 := Option.some.inj ((show Tryd.prog.funcNamed Rows.numberBackRow.func = some 4 by kernel_rfl).symm.trans hf) |>.symm
      obtain rfl : fn = Tryd.f4 := (Option.some.inj (Tryd.func4.symm.trans hfn)).symm
      exact ⟨by kernel_rfl, fun j t ht => by
        have hall : (Tryd.f4.params.toList.all fun u => !Tryd.prog.wantsStandIn u) = true := by kernel_rfl
        have hm : t ∈ Tryd.f4.params.toList := Array.mem_toList_iff.2 (Array.mem_of_getElem? ht)
        exact (show Tryd.prog.wantsStandIn t = false by simpa using List.all_eq_true.1 hall t hm)⟩)
    (by kernel_rfl)
end Go.Proofs.YtflaopmlmecdcaaDoor.numberBack
