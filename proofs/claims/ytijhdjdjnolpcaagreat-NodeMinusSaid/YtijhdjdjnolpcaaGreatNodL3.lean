/- Of every two lists of nodes (no more, and none longer, than is looked at): a set without another one's nodes, or why not, as the document says; no condition. -/
import Derived.Test.YtijhdjdjnolpcaaGreatRows
import Derived.Test.YtijhdjdjnolpcaaGreatNodR
import Derived.Test.YtijhdjdjnolpcaaGreatNodQ
import Derived.ProofKit
import Derived.OpenShut
import Derived.ShutString
import Derived.ChangeOld
namespace Go.Proofs.YtijhdjdjnolpcaaGreat.nodeMinus
open Go.ChangeShapes Go.WideShapes Go.ChangeAt Go.RowKit
open Go.ChangeMaps (open_string shut_string)
set_option maxRecDepth 100000
set_option linter.unusedVariables false

set_option maxRecDepth 100000 in
set_option maxHeartbeats 3200000 in
theorem walk (U : Value) (l : List Nd) (V : Value) (m : List Nd) (w : World) (hU : Nds w U l ∧ ∀ n ∈ l, fitsN n) (hV : Nds w V m ∧ ∀ n ∈ m, fitsN n) :
    Calls Tryz.prog 4 #[U, V] w fun e w' => e = .returned (.bool true) ∧ Below w.heap.size w w' := by
  obtain ⟨hU, fU⟩ := hU
  obtain ⟨hV, fV⟩ := hV
  obtain ⟨a, c, rfl, -⟩ := hU.ex
  obtain ⟨a', c', rfl, -⟩ := hV.ex
  have slx := fewNs_len l; have sly := fewNs_len m
  have smx := fewNs_small l; have smy := fewNs_small m
  have h1 := fun U w h => nfew_any U l w h fU
  have h2 := fun U w h => nfew_any U m w h fV
  obtain ⟨x, hx⟩ : ∃ x, fewNs l = x := ⟨_, rfl⟩
  obtain ⟨y, hy⟩ : ∃ y, fewNs m = y := ⟨_, rfl⟩
  rw [hx] at slx smx h1; rw [hy] at sly smy h2
  have SU := Lib.hid hU; have SV := Lib.hid hV; have SX := Lib.hid smx; have SY := Lib.hid smy; have LX := Lib.hid slx; have LY := Lib.hid sly
  have B := Lib.hid (Below.refl w.heap.size w)
  clear hU hV hx hy fU fV smx smy slx sly
  have h3 := fun U V w hu hv => nminus_any U V x y w hu hv SX.out SY.out (by have := LX.out; omega) (by have := LY.out; omega)
  have h4 := fun U w hu => refncheck_any U x w hu SX.out
  have h5 := fun U w hu => refncheck_any U y w hu SY.out
  have h6 := fun U V w hu hv => refnminus_any U V x y w hu hv (by have := LX.out; omega)
  obtain ⟨ox, hox⟩ : ∃ o, checkN x = o := ⟨_, rfl⟩
  obtain ⟨oy, hoy⟩ : ∃ o, checkN y = o := ⟨_, rfl⟩
  rw [hox] at h4; rw [hoy] at h5
  by_cases hall : ox = true ∧ oy = true
  · obtain ⟨rfl, rfl⟩ := hall
    rw [minusNE_yes hox hoy] at h3
    obtain ⟨z, hz⟩ : ∃ z, minusN x y = z := ⟨_, rfl⟩
    rw [hz] at h3 h6
    clear hox hoy hz
    have h7 := fun U V w hu hv => nsame_any U V z z w hu hv
    have hzz : decide (z = z) = true := decide_eq_true rfl
    rw [hzz] at h7
    clear hzz
    go_enter Tryz.func4, Tryz.ntmps4
    go_wp2_with (first
      | (go_at_call 5; refine (h1 _ _ SU.out).mono ?_; rintro e w1 ⟨a1, c1, rfl, hn1, hb1⟩; have S1 := Lib.hid hn1; replace B := Lib.hid (below_step B.out hb1); replace SV := Lib.hid (SV.out.below hb1); clear hb1 hn1 h1 SU)
      | (go_at_call 5; refine (h2 _ _ SV.out).mono ?_; rintro e w2 ⟨a2, c2, rfl, hn2, hb1⟩; have S2 := Lib.hid hn2; replace B := Lib.hid (below_step B.out hb1); replace S1 := Lib.hid (S1.out.below hb1); clear hb1 hn2 h2 SV)
      | (go_at_call 20; refine (h3 _ _ _ S1.out S2.out).mono ?_; rintro e w3 ⟨a3, c3, rfl, hn3, hb1⟩; have S3 := Lib.hid hn3; replace B := Lib.hid (below_step B.out hb1); replace S1 := Lib.hid (S1.out.below hb1); replace S2 := Lib.hid (S2.out.below hb1); clear hb1 hn3 h3)
      | (go_at_call 10; refine (h4 _ _ S1.out).mono ?_; rintro e w4 ⟨rfl, hb1⟩; replace B := Lib.hid (below_step B.out hb1); replace S1 := Lib.hid (S1.out.below hb1); replace S2 := Lib.hid (S2.out.below hb1); replace S3 := Lib.hid (S3.out.below hb1); clear hb1 h4)
      | (go_at_call 10; refine (h5 _ _ S2.out).mono ?_; rintro e w5 ⟨rfl, hb1⟩; replace B := Lib.hid (below_step B.out hb1); replace S1 := Lib.hid (S1.out.below hb1); replace S2 := Lib.hid (S2.out.below hb1); replace S3 := Lib.hid (S3.out.below hb1); clear hb1 h5)
      | (go_at_call 19; refine (h6 _ _ _ S1.out S2.out).mono ?_; rintro e w6 ⟨a6, c6, rfl, hn6, hb1⟩; have S6 := Lib.hid hn6; replace B := Lib.hid (below_step B.out hb1); replace S3 := Lib.hid (S3.out.below hb1); clear hb1 hn6 h6)
      | (go_at_call 11; refine (h7 _ _ _ S3.out S6.out).mono ?_; rintro e w7 ⟨rfl, hb1⟩; replace B := Lib.hid (below_step B.out hb1); clear hb1 h7)
      | (go_at_call 16; refine (nawake_any _).mono ?_; rintro e w1 ⟨rfl, hb1⟩; replace B := Lib.hid (below_step B.out hb1); clear hb1))
    go_ret
    exact ⟨rfl, B.out⟩
  · rw [minusNE_no (by rw [hox, hoy]; cases ox <;> cases oy <;> simp_all)] at h3
    have hcv : (ox = false ∧ oy = false) ∨ (ox = false ∧ oy = true) ∨ (ox = true ∧ oy = false) := by cases ox <;> cases oy <;> simp_all
    clear hox hoy hall
    rcases hcv with ⟨rfl, rfl⟩ | ⟨rfl, rfl⟩ | ⟨rfl, rfl⟩
    all_goals
      go_enter Tryz.func4, Tryz.ntmps4
      go_wp2_with (first
        | (go_at_call 5; refine (h1 _ _ SU.out).mono ?_; rintro e w1 ⟨a1, c1, rfl, hn1, hb1⟩; have S1 := Lib.hid hn1; replace B := Lib.hid (below_step B.out hb1); replace SV := Lib.hid (SV.out.below hb1); clear hb1 hn1 h1 SU)
        | (go_at_call 5; refine (h2 _ _ SV.out).mono ?_; rintro e w2 ⟨a2, c2, rfl, hn2, hb1⟩; have S2 := Lib.hid hn2; replace B := Lib.hid (below_step B.out hb1); replace S1 := Lib.hid (S1.out.below hb1); clear hb1 hn2 h2 SV)
        | (go_at_call 20; refine (h3 _ _ _ S1.out S2.out).mono ?_; rintro e w3 ⟨a3, c3, rfl, -, hb1⟩; replace B := Lib.hid (below_step B.out hb1); replace S1 := Lib.hid (S1.out.below hb1); replace S2 := Lib.hid (S2.out.below hb1); clear hb1 h3)
        | (go_at_call 10; refine (h4 _ _ S1.out).mono ?_; rintro e w4 ⟨rfl, hb1⟩; replace B := Lib.hid (below_step B.out hb1); replace S1 := Lib.hid (S1.out.below hb1); replace S2 := Lib.hid (S2.out.below hb1); clear hb1 h4)
        | (go_at_call 10; refine (h5 _ _ S2.out).mono ?_; rintro e w5 ⟨rfl, hb1⟩; replace B := Lib.hid (below_step B.out hb1); replace S1 := Lib.hid (S1.out.below hb1); replace S2 := Lib.hid (S2.out.below hb1); clear hb1 h5)
        | (go_at_call 16; refine (nawake_any _).mono ?_; rintro e w1 ⟨rfl, hb1⟩; replace B := Lib.hid (below_step B.out hb1); clear hb1))
      go_ret
      exact ⟨rfl, B.out⟩

theorem own : ownKnob Tryz.prog.godebug = none := by kernel_rfl
theorem laidOut : laidOutB Tryz.prog = true := by kernel_rfl

set_option maxRecDepth 100000 in
theorem lifted (os : Os) (started : os.Started) (H : Type) (enc : TypeId × Value → H) :
    ReturnsInHanded {} Tryz.checked os 4 .any (Rows.nodeMinusSpec.pre6 enc Tryz.prog Tryz.f4 Rows.nodeMinusRow.domain false) (Rows.nodeMinusSpec.post enc Tryz.prog Tryz.f4 false true false false) := by
  refine returnsInHanded_of_change (C := Tryz.checked) own started (by kernel_rfl) Tryz.func4
    (ChangeSpec.witness6 (enc := enc) (C := Tryz.checked) false ⟨#[], #[.slice none 0 0, .slice none 0 0], []⟩ 8 (by kernel_rfl) (by kernel_rfl) (by kernel_rfl) (by kernel_rfl)) ?_
  intro W base args ds gs before hval0 hW hcnd _
  have hval : ∀ (j : Nat) t v, Tryz.f4.params[j]? = some t → args[j]? = some v → Value.okWide Tryz.prog W .any base t v := hval0
  have hW' := hW
  obtain ⟨p, q, hA0, hV, rfl, hfz, hnd⟩ := hW
  have hA : DataW.TrodAll enc Tryz.prog W 0 (fun _ => true) true Tryz.f4.params.toList args.toList ds p := hA0
  rw [Tryz.params4] at hA hval
  obtain ⟨v0, vs0, d0, ds0, p0, q0, hargs, rfl, rfl, h0, r0⟩ := trodAll_cons hA
  obtain ⟨v1, vs1, d1, ds1, p1, q1, rfl, rfl, rfl, h1, r1⟩ := trodAll_cons r0
  obtain ⟨rfl, rfl, rfl⟩ := trodAll_nil r1
  obtain rfl : args = #[v0, v1] := by cases args; simp_all
  obtain ⟨rfl, rfl⟩ := trodVars_none hV
  obtain ⟨a0, len0, cap0, rfl⟩ := okWide_slice Tryz.underlying22 (hval 0 22 v0 rfl rfl)
  have k0 := h0
  have lt0 : ∀ x ∈ p0, x.block < W.heap.size := by obtain ⟨m, hm⟩ := k0; exact DataW.trod_lt m _ _ _ hm
  obtain ⟨z0, w0⟩ : ∃ zs, Nds W (.slice a0 len0 cap0) zs ∧ ∀ n ∈ zs, fitsN n := by
    obtain ⟨fuel, hf⟩ := h0
    exact nds_open (by simpa [Value.cells] using hf)
  obtain ⟨a1, len1, cap1, rfl⟩ := okWide_slice Tryz.underlying22 (hval 1 22 v1 rfl rfl)
  have k1 := h1
  have lt1 : ∀ x ∈ p1, x.block < W.heap.size := by obtain ⟨m, hm⟩ := k1; exact DataW.trod_lt m _ _ _ hm
  obtain ⟨z1, w1⟩ : ∃ zs, Nds W (.slice a1 len1 cap1) zs ∧ ∀ n ∈ zs, fitsN n := by
    obtain ⟨fuel, hf⟩ := h1
    exact nds_open (by simpa [Value.cells] using hf)
  clear hA0 hval0
  refine (walk _ z0 _ z1 W w0 w1).mono fun e W' ⟨he, bel⟩ => ?_
  subst he
  exact ⟨_, rfl, _, _, _, [], _, [], hW', trodAll_mk1 (shut_bool Tryz.underlying4 _), (trodAll_cons_mk (Below.trod laidOut (by kernel_rfl) (of_decide_eq_true (by kernel_rfl)) k0 bel lt0) (trodAll_cons_mk (Below.trod laidOut (by kernel_rfl) (of_decide_eq_true (by kernel_rfl)) k1 bel lt1) trodAll_mk0)), rfl, bel.frame _, fun h => by cases h⟩

-- the given statement
theorem proved : Rows.NodeMinusSaid :=
  OpenClaim.holds_of_wide 4 Tryz.f4 rfl rfl rfl rfl rfl rfl rfl ⟨rfl, rfl, rfl, rfl, rfl⟩ rfl rfl rfl rfl rfl (by kernel_rfl) Tryz.func4 (by kernel_rfl)
    (of_decide_eq_true (by kernel_rfl)) (by unfold Func.isWrapper; first | (rw [if_pos (by decide +kernel)]; kernel_rfl) | (rw [if_neg (by decide +kernel)]; exact ⟨rfl, rfl⟩))
    (fun os started H enc _ => lifted os started H enc)
end Go.Proofs.YtijhdjdjnolpcaaGreat.nodeMinus
