/- Of every names (no more, and no longer, than are looked at): all numbers' nodes are the names; told anew, in that order, they have the same numbers; no condition. -/
import Derived.Test.YthmnoepdedjhjaaRows
import Derived.Test.YthmnoepdedjhjaaItnR
import Derived.ProofKit
import Derived.OpenShut
import Derived.ShutString
import Derived.ChangeOld
namespace Go.Proofs.Ythmnoepdedjhjaa.internBack
open Go.ChangeShapes Go.WideShapes Go.ChangeAt Go.RowKit
open Go.ChangeMaps (open_string shut_string)
set_option maxRecDepth 100000
set_option linter.unusedVariables false

set_option maxRecDepth 100000 in
set_option maxHeartbeats 3200000 in
theorem walk (M : Value) (m : List Nd) (w : World) (hM : (∃ V, M = .agg #[V] ∧ Nds w V m) ∧ ∀ n ∈ m, fitsN n) :
    Calls Try.prog 7 #[M] w fun e w' => e = .returned (.bool true) ∧ Below w.heap.size w w' := by
  obtain ⟨⟨V, rfl, hV⟩, fM⟩ := hM
  obtain ⟨va, vc, rfl, -⟩ := hV.ex
  obtain ⟨ml, hml⟩ : ∃ ml, m.length = ml := ⟨_, rfl⟩
  rw [hml] at hV ⊢
  obtain ⟨W, g, hW, hg, hrow, hb⟩ : ∃ W g, w.alloc (.cells #[.slice va ml vc] 24) = W ∧ w.heap.size = g ∧ W.heap[g]? = some (.cells #[.slice va ml vc] 24 (0, 0)) ∧ Below w.heap.size w W := ⟨_, _, rfl, rfl, heap_alloc_new _ _, (Below.refl _ _).alloc (Nat.le_refl _) _⟩
  obtain ⟨d0, -⟩ := row1 hrow
  have k0 := fun U w h => ifew_any U m w h fM
  have slx := fewNs_len m
  have smx := fewNs_small m
  obtain ⟨x, hx⟩ : ∃ x, fewNs m = x := ⟨_, rfl⟩
  rw [hx] at k0 slx smx
  obtain ⟨k, hk⟩ : ∃ k, x.length = k := ⟨_, rfl⟩
  rw [hk] at k0 slx
  have HK := Lib.hid hk; have SM := Lib.hid smx; have B := Lib.hid hb; have SV := Lib.hid (hV.below hb); have HROW := Lib.hid hrow; have HG := Lib.hid hg; have HW := Lib.hid hW
  clear hk smx hb hV hrow hg hW hx hml fM
  have k1 := fun U w h => icheck_any U x w h SM.out
  have k2 := fun U U' w h h' => iat_any U U' x ((List.range k).map fun j : Nat => (j : Int)) w h h' SM.out (by simp; omega)
  have k3 := fun U w h => iall_any (.slice none 0 0) U [] x w (nds_none w) h (fun n hn => by cases hn) SM.out (by simp) (by rw [HK.out]; omega)
  obtain ⟨om, hom⟩ : ∃ o, okM x = o := ⟨_, rfl⟩
  rw [chkM_of hom] at k1
  cases om
  · simp only [Bool.false_eq_true, if_false] at k1
    clear hom
    go_enter Try.func7, Try.ntmps7
    go_upto_region 1 with fail
    rw [HW.out, HG.out]
    go_upto_region 2 with (go_at_call 8; refine (k0 _ _ SV.out).mono ?_; rintro e w1 ⟨vn, rfl, hown, hb1⟩; obtain ⟨aN, cN, rfl, -⟩ := ndsO (by rw [HK.out]; exact hown); rw [HK.out] at hown ⊢; have HOWN := Lib.hid hown; replace B := Lib.hid (below_step B.out hb1); have hrow := row_keepB HROW.out hb1; obtain ⟨q0, f0⟩ := row1 hrow; have HROW1 := Lib.hid hrow; clear hown hb1 hrow k0)
    obtain ⟨W2, hW2, d2, hN2, hb2⟩ := box_set (Nat.le_of_eq HG.out) (Array.getElem?_eq_some_iff.1 HROW.out).1 HOWN.out HK.out HROW1.out B.out
    rw [hW2]
    have SX := Lib.hid hN2
    replace B := Lib.hid hb2
    clear hW2 hN2 hb2 q0 f0 HOWN HROW1 HROW HG HW SV d0
    go_wp2_with (first
      | (go_at_call 13; refine (k1 _ _ SX.out).mono ?_; rintro e w2 ⟨rfl, hb2⟩; replace SX := Lib.hid (SX.out.below hb2); replace d2 := cell_keep d2 hb2; replace B := Lib.hid (below_step B.out hb2); clear hb2 k1)
      | (go_at_call 16; refine (iawake_any _).mono ?_; rintro e w9 ⟨rfl, hb9⟩; replace B := Lib.hid (below_step B.out hb9); clear hb9))
    go_ret
    exact ⟨rfl, B.out⟩
  · simp only [if_true] at k1
    have ha := at_all hom
    have hn := all_new hom
    rw [HK.out] at ha hn
    rw [ha] at k2
    rw [hn] at k3
    simp only [List.length_range, HK.out] at k2 k3
    have ks := fun U V w hu hv => nsame_any U V x x w hu hv
    have ki := fun U V w hu hv => isame_any U V x x w hu hv
    rw [decide_eq_true rfl] at ks ki
    clear hom ha hn
    go_enter Try.func7, Try.ntmps7
    go_upto_region 1 with fail
    rw [HW.out, HG.out]
    go_upto_region 2 with (go_at_call 8; refine (k0 _ _ SV.out).mono ?_; rintro e w1 ⟨vn, rfl, hown, hb1⟩; obtain ⟨aN, cN, rfl, -⟩ := ndsO (by rw [HK.out]; exact hown); rw [HK.out] at hown ⊢; have HOWN := Lib.hid hown; replace B := Lib.hid (below_step B.out hb1); have hrow := row_keepB HROW.out hb1; obtain ⟨q0, f0⟩ := row1 hrow; have HROW1 := Lib.hid hrow; clear hown hb1 hrow k0)
    obtain ⟨W2, hW2, d2, hN2, hb2⟩ := box_set (Nat.le_of_eq HG.out) (Array.getElem?_eq_some_iff.1 HROW.out).1 HOWN.out HK.out HROW1.out B.out
    rw [hW2]
    have SX := Lib.hid hN2
    replace B := Lib.hid hb2
    clear hW2 hN2 hb2 q0 f0 HOWN HROW1 HROW HG HW SV d0
    go_wp2_with (go_at_call 13; refine (k1 _ _ SX.out).mono ?_; rintro e w2 ⟨rfl, hb2⟩; replace SX := Lib.hid (SX.out.below hb2); replace d2 := cell_keep d2 hb2; replace B := Lib.hid (below_step B.out hb2); clear hb2 k1)
    go_loopw [3, 4] (fun v3 i wr => ∃ (j : Nat) (aI : Option Addr) (cI : Nat), j ≤ k ∧ v3 = .slice aI j cI ∧ i = .int .i64 j ∧ Hid (wr.ownsRow w2.heap.size 3 1 (.slice aI j cI) j (intC (List.range j))) ∧ Hid (Below w2.heap.size w2 wr)) (fun _ i _ => k - (intOf i).toNat)
    case atStart => exact ⟨0, none, 0, Nat.zero_le _, rfl, rfl, Lib.hid (World.ownsRow_nil _ _ _ _), Lib.hid (Below.refl _ _)⟩
    case round =>
      obtain ⟨j, aI, cI, hj, rfl, rfl, HR, HB⟩ := hrel
      have d3 := cell_keep d2 HB.out
      by_cases hlt : j < k
      · go_wp2_with (at_builtin; refine wpList_push_int rfl _ _ rfl w2.heap.size _ (List.range j) j List.length_range rfl HR.out j _ (by simp) rfl (by omega) HB.out.size ?_; intro aI' cI' w7 hr7 hg7 hl7; have HR2 := Lib.hid hr7; have HB2 := Lib.hid (HB.out.grown hg7 HB.out.size (fun _ e => (own_lt HR.out e).1)); clear hr7 hg7 hl7)
        go_roundw
        case rel => exact ⟨j + 1, aI', cI', by omega, rfl, by go_num, Lib.hid (by rw [List.range_succ]; exact HR2.out), HB2⟩
        case measure => simp [intOf]; omega
      · have ej : j = k := by omega
        subst ej
        replace B := Lib.hid (below_step B.out HB.out)
        replace SX := Lib.hid (SX.out.below HB.out)
        have HI : Hid (Ints wr (.slice aI j cI) ((List.range j).map fun t : Nat => (t : Int))) := Lib.hid (Ints.ownedN (by rw [List.length_range]; exact HR.out))
        clear HR HB d2
        go_upto_region 10 with (go_at_call 12; refine (k2 _ _ _ SX.out HI.out).mono ?_; rintro e W4 ⟨vl, rfl, hown, hb4⟩; obtain ⟨aL, cL, rfl, hL⟩ := ndsO (by rw [HK.out]; exact hown); rw [HK.out] at hL ⊢; have SL := Lib.hid hL; replace SX := Lib.hid (SX.out.below hb4); replace d3 := cell_keep d3 hb4; replace B := Lib.hid (below_step B.out hb4); clear hb4 hL hown k2 HI)
        go_upto_region 11 with (go_at_call 22; refine (k3 _ _ SL.out).mono ?_; rintro e w5 ⟨vi, vn, rfl, hri, hrn, hb5⟩; obtain ⟨aJ, cJ, rfl, hI5⟩ := intsO (by rw [List.length_range]; exact hri); obtain ⟨aX, cX, rfl, hX5⟩ := ndsO (by rw [HK.out]; exact hrn); rw [HK.out] at hX5 ⊢; rw [List.length_range] at hI5 ⊢; replace SX := Lib.hid (SX.out.below hb5); replace SL := Lib.hid (SL.out.below hb5); replace d3 := cell_keep d3 hb5; replace B := Lib.hid (below_step B.out hb5); clear hb5 hri hrn k3)
        obtain ⟨W6, g6, hW6, hg6, e0, hb6⟩ := boxM w5 (.slice aX j cX) 24
        rw [hW6, hg6]
        have SX5 := Lib.hid (hX5.below hb6)
        have SI5 := Lib.hid (ints_belowB hI5 hb6)
        replace SX := Lib.hid (SX.out.below hb6); replace SL := Lib.hid (SL.out.below hb6); replace d3 := cell_keep d3 hb6; replace B := Lib.hid (below_step B.out hb6)
        clear hW6 hg6 hb6 hX5 hI5
        go_wp2_with (first
          | (go_at_call 17; refine (ks _ _ _ SL.out SX.out).mono ?_; rintro e W7 ⟨rfl, hb7⟩; replace SX := Lib.hid (SX.out.below hb7); replace SX5 := Lib.hid (SX5.out.below hb7); replace SI5 := Lib.hid (ints_belowB SI5.out hb7); replace d3 := cell_keep d3 hb7; replace e0 := cell_keep e0 hb7; replace B := Lib.hid (below_step B.out hb7); clear hb7 ks SL)
          | (go_at_call 15; refine (ki _ _ _ SX5.out SX.out).mono ?_; rintro e W8 ⟨rfl, hb8⟩; replace SI5 := Lib.hid (ints_belowB SI5.out hb8); replace B := Lib.hid (below_step B.out hb8); clear hb8 ki SX5 SX))
        go_loopw [10] (fun i wr => ∃ t q : Nat, t ≤ j ∧ i = .int .i64 t ∧ wr = W8.drewN q) (fun i _ => j - (intOf i).toNat)
        case atStart => exact ⟨0, 0, Nat.zero_le _, rfl, rfl⟩
        case round =>
          obtain ⟨t, q, ht, rfl, rfl⟩ := hrel
          by_cases hlt2 : t < j
          · obtain ⟨bI, oI, rfl⟩ := SI5.out.some (by omega)
            have hc := SI5.out.cell t hlt2
            rw [range_getD hlt2] at hc
            go_wp2
            go_roundw
            case rel => exact ⟨t + 1, q, by omega, by go_num, rfl⟩
            case measure => simp [intOf]; omega
          · replace B := Lib.hid (below_step B.out (below_q ⟨q, rfl⟩))
            go_wp2_with (go_at_call 16; refine (iawake_any _).mono ?_; rintro e w9 ⟨rfl, hb9⟩; replace B := Lib.hid (below_step B.out hb9); clear hb9)
            go_ret
            exact ⟨rfl, B.out⟩

theorem own : ownKnob Try.prog.godebug = none := by kernel_rfl
theorem laidOut : laidOutB Try.prog = true := by kernel_rfl

set_option maxRecDepth 100000 in
theorem lifted (os : Os) (started : os.Started) (H : Type) (enc : TypeId × Value → H) :
    ReturnsInHanded {} Try.checked os 7 .any (Rows.internBackSpec.pre6 enc Try.prog Try.f7 Rows.internBackRow.domain false) (Rows.internBackSpec.post enc Try.prog Try.f7 false true false false) := by
  refine returnsInHanded_of_change (C := Try.checked) own started (by kernel_rfl) Try.func7
    (ChangeSpec.witness6 (enc := enc) (C := Try.checked) false ⟨#[], #[.agg #[.slice none 0 0]], []⟩ 8 (by kernel_rfl) (by kernel_rfl) (by kernel_rfl) (by kernel_rfl)) ?_
  intro W base args ds gs before hval0 hW hcnd _
  have hval : ∀ (j : Nat) t v, Try.f7.params[j]? = some t → args[j]? = some v → Value.okWide Try.prog W .any base t v := hval0
  have hW' := hW
  obtain ⟨p, q, hA0, hV, rfl, hfz, hnd⟩ := hW
  have hA : DataW.TrodAll enc Try.prog W 0 (fun _ => true) true Try.f7.params.toList args.toList ds p := hA0
  rw [Try.params7] at hA hval
  obtain ⟨v0, vs0, d0, ds0, p0, q0, hargs, rfl, rfl, h0, r0⟩ := trodAll_cons hA
  obtain ⟨rfl, rfl, rfl⟩ := trodAll_nil r0
  obtain rfl : args = #[v0] := by cases args; simp_all
  obtain ⟨rfl, rfl⟩ := trodVars_none hV
  have k0 := h0
  have lt0 : ∀ x ∈ p0, x.block < W.heap.size := by obtain ⟨m, hm⟩ := k0; exact DataW.trod_lt m _ _ _ hm
  obtain ⟨z0, w0⟩ := names_open (hval 0 24 v0 rfl rfl) h0
  clear hA0 hval0
  refine (walk _ z0 W w0).mono fun e W' ⟨he, bel⟩ => ?_
  subst he
  exact ⟨_, rfl, _, _, _, [], _, [], hW', trodAll_mk1 (shut_bool Try.underlying4 _), (trodAll_cons_mk (Below.trod laidOut (by kernel_rfl) (of_decide_eq_true (by kernel_rfl)) k0 bel lt0) trodAll_mk0), rfl, bel.frame _, fun h => by cases h⟩

-- the given statement
theorem proved : Rows.InternBackSaid :=
  OpenClaim.holds_of_wide 7 Try.f7 rfl rfl rfl rfl rfl rfl rfl ⟨rfl, rfl, rfl, rfl, rfl⟩ rfl rfl rfl rfl rfl (by kernel_rfl) Try.func7 (by kernel_rfl)
    (of_decide_eq_true (by kernel_rfl)) (by unfold Func.isWrapper; first | (rw [if_pos (by decide +kernel)]; kernel_rfl) | (rw [if_neg (by decide +kernel)]; exact ⟨rfl, rfl⟩))
    (fun os started H enc _ => lifted os started H enc)
end Go.Proofs.Ythmnoepdedjhjaa.internBack
