/- For every text: of a path a dot ahead of it, or behind it, makes none; one within an element does; no condition. -/
import Derived.Test.YtekdgjllnlkfmaaRows
import Derived.Test.YtekdgjllnlkfmaaPatN
import Derived.ProofKit
import Derived.OpenShut
import Derived.ShutString
import Derived.ChangeOld
namespace Go.Proofs.Ytekdgjllnlkfmaa.pathDots
open Go.ChangeShapes Go.WideShapes Go.ChangeAt Go.RowKit
open Go.ChangeMaps (open_string shut_string)
set_option linter.unusedVariables false

set_option maxHeartbeats 1600000 in
set_option maxRecDepth 100000 in
theorem walk (a : ByteArray) (w : World) (ha : a.size ≤ maxLen) :
    Calls Try.prog 8 #[.string a] w fun e w' => e = .returned (.bool true) ∧ Below w.heap.size w w' := by
  have HA := Lib.hid ha; clear ha
  have hlx := fewL_le a.data.toList
  obtain ⟨x, hx⟩ : ∃ x, fewL a.data.toList = x := ⟨_, rfl⟩
  rw [hx] at hlx
  have SX : Hid (x.length ≤ 1000000000) := Lib.hid (by omega)
  have HX := Lib.hid hx; clear hx
  have B := Lib.hid (Below.refl w.heap.size w)
  cases hp : pathB x
  · have he := elsL_no hp
    have hk := pathE_no hp
    have HE := Lib.hid he; have HK := Lib.hid hk; clear hp he hk
    go_enter Try.func8, Try.ntmps8
    go_wp2_with (first
      | (go_at_call 9; refine (few_ml _ _ (by first | exact HA.out)).mono ?_; rintro e w' ⟨rfl, rfl⟩; first | rw [HX.out])
      | (go_at_call 10; refine (elements_m x _ SX.out).mono ?_; rintro e w1 ⟨a1, c1, rfl, hst, hb1⟩; rw [HE.out, HK.out]; clear hst; replace B := Lib.hid (below_step B.out hb1); clear hb1)
      | (go_at_call 15; refine (awake4_any _).mono ?_; rintro e w1 ⟨rfl, hb1⟩; replace B := Lib.hid (below_step B.out hb1); clear hb1))
    go_ret
    exact ⟨rfl, B.out⟩
  · have he := elsL_ok hp
    have hk := pathE_ok hp
    have hl1 := splitL_len 47 x
    have hle := split_le 47 x
    have hn0 : 0 < (splitL 47 x).length := List.length_pos_iff.2 (splitL_ne 47 x)
    have d1 := dot_ahead x
    have d2 := dot_behind x
    have d3 := dot_last hp (l := (splitL 47 x).getLastD []) rfl
    have d4 := dots_head hp (l := (splitL 47 x).getLastD []) rfl
    have hlm := hle _ (last_mem (splitL_ne 47 x))
    have hla := last_at (splitL 47 x)
    obtain ⟨es, hes⟩ : ∃ l, splitL 47 x = l := ⟨_, rfl⟩
    rw [hes] at he hl1 hn0 d3 d4 hlm hla
    obtain ⟨l, hl⟩ : ∃ l, es.getLastD [] = l := ⟨_, rfl⟩
    rw [hl] at d3 d4 hlm hla
    obtain ⟨n, hn⟩ : ∃ n, es.length = n := ⟨_, rfl⟩
    rw [hn] at hl1 hn0 hla
    have bx : (mkB x).size ≤ 400 := by rw [mkB_size]; omega
    have bl : (mkB l).size ≤ 400 := by rw [mkB_size]; omega
    have S1 : Hid ((46 :: x).length ≤ 1000000000) := Lib.hid (by simp; omega)
    have S2 : Hid ((x ++ [46]).length ≤ 1000000000) := Lib.hid (by simp; omega)
    have S3 : Hid ((x ++ 46 :: l).length ≤ 1000000000) := Lib.hid (by simp; omega)
    have S4 : Hid ((l ++ [46, 46] ++ x).length ≤ 1000000000) := Lib.hid (by simp; omega)
    have HE := Lib.hid he; have HK := Lib.hid hk; have HN := Lib.hid hn; have D1 := Lib.hid d1; have D2 := Lib.hid d2; have D3 := Lib.hid d3; have D4 := Lib.hid d4; have LA := Lib.hid (hla : l = _)
    have T1 := Lib.hid (dot_a_txt x); have T2 := Lib.hid (dot_b_txt x); have T3 := Lib.hid (dot_l_txt x l); have T4 := Lib.hid (dots_txt x l)
    clear hp he hk hle d1 d2 d3 d4 hes hl hn hla hlm
    go_enter Try.func8, Try.ntmps8
    go_wp2_with (first
      | (go_at_call 9; refine (few_ml _ _ (by first | exact HA.out)).mono ?_; rintro e w' ⟨rfl, rfl⟩; first | rw [HX.out])
      | (go_at_call 10; refine (elements_m x _ SX.out).mono ?_; rintro e w1 ⟨a1, c1, rfl, hst, hb1⟩; rw [HE.out, HN.out] at hst; rw [HE.out, HK.out, HN.out]; have ST := Lib.hid hst; clear hst; obtain ⟨bk, off, rfl, hlt, hcl⟩ := ST.out.last HN.out hn0 LA.out; replace B := Lib.hid (below_step B.out hb1); clear hb1)
      | (go_at_call 11; (first | rw [T1.out] | rw [T4.out] | rw [T3.out] | rw [T2.out]); refine (pmay_m _ _ (by first | exact S1.out | exact S2.out | exact S3.out | exact S4.out)).mono ?_; rintro e w1 ⟨rfl, hb1⟩; (first | rw [D1.out] | rw [D2.out] | rw [D3.out] | rw [D4.out]); replace B := Lib.hid (below_step B.out hb1); clear hb1)
      | (go_at_call 15; refine (awake4_any _).mono ?_; rintro e w1 ⟨rfl, hb1⟩; replace B := Lib.hid (below_step B.out hb1); clear hb1))
    go_ret
    exact ⟨rfl, B.out⟩

theorem own : ownKnob Try.prog.godebug = none := by kernel_rfl
theorem laidOut : laidOutB Try.prog = true := by kernel_rfl

set_option maxRecDepth 100000 in
theorem lifted (os : Os) (started : os.Started) (H : Type) (enc : TypeId × Value → H) :
    ReturnsInHanded {} Try.checked os 8 .any (Rows.pathDotsSpec.pre6 enc Try.prog Try.f8 Rows.pathDotsRow.domain false) (Rows.pathDotsSpec.post enc Try.prog Try.f8 false true false false) := by
  refine returnsInHanded_of_change (C := Try.checked) own started (by kernel_rfl) Try.func8
    (ChangeSpec.witness6 (enc := enc) (C := Try.checked) false ⟨#[], #[.string ByteArray.empty], []⟩ 8 (by kernel_rfl) (by kernel_rfl) (by kernel_rfl) (by kernel_rfl)) ?_
  intro W base args ds gs before hval0 hW hcnd _
  have hval : ∀ (j : Nat) t v, Try.f8.params[j]? = some t → args[j]? = some v → Value.okWide Try.prog W .any base t v := hval0
  have hW' := hW
  obtain ⟨p, q, hA0, hV, rfl, hfz, hnd⟩ := hW
  have hA : DataW.TrodAll enc Try.prog W 0 (fun _ => true) true Try.f8.params.toList args.toList ds p := hA0
  rw [Try.params8] at hA hval
  obtain ⟨v0, vs0, d0, ds0, p0, q0, hargs, rfl, rfl, h0, r0⟩ := trodAll_cons hA
  obtain ⟨rfl, rfl, rfl⟩ := trodAll_nil r0
  obtain rfl : args = #[v0] := by cases args; simp_all
  obtain ⟨rfl, rfl⟩ := trodVars_none hV
  obtain ⟨a0, rfl, rfl, rfl, w0⟩ := open_string Try.underlying9 (hval 0 9 v0 rfl rfl) h0
  clear hA0 hval0
  refine (walk a0 W w0).mono fun e W' ⟨he, bel⟩ => ?_
  subst he
  exact ⟨_, rfl, _, _, _, [], _, [], hW', trodAll_mk1 (shut_bool Try.underlying4 _), (trodAll_cons_mk (shut_string Try.underlying9 w0) trodAll_mk0), rfl, bel.frame _, fun h => by cases h⟩

-- the given statement
theorem proved : Rows.PathDotsSaid :=
  OpenClaim.holds_of_wide 8 Try.f8 rfl rfl rfl rfl rfl rfl rfl ⟨rfl, rfl, rfl, rfl, rfl⟩ rfl rfl rfl rfl rfl (by kernel_rfl) Try.func8 (by kernel_rfl)
    (of_decide_eq_true (by kernel_rfl)) (by unfold Func.isWrapper; first | (rw [if_pos (by decide +kernel)]; kernel_rfl) | (rw [if_neg (by decide +kernel)]; exact ⟨rfl, rfl⟩))
    (fun os started H enc _ => lifted os started H enc)
end Go.Proofs.Ytekdgjllnlkfmaa.pathDots
