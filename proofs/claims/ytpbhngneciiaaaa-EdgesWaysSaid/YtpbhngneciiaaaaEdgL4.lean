/- Of every edges (no more than are looked at): a pair is Next of the one just if it is Back of the other one, and just if it is there; both lists rise; no condition. -/
import Derived.Test.YtpbhngneciiaaaaRows
import Derived.Test.YtpbhngneciiaaaaEdgN
import Derived.ProofKit
import Derived.OpenShut
import Derived.ShutString
import Derived.ChangeOld
namespace Go.Proofs.Ytpbhngneciiaaaa.edgesWays
open Go.ChangeShapes Go.WideShapes Go.ChangeAt Go.RowKit
open Go.ChangeMaps (open_string shut_string)
set_option maxRecDepth 100000
set_option linter.unusedVariables false

theorem pair_getD {l : List Int} (h : l.Pairwise (· < ·)) (i j : Nat) (hij : i < j) (hj : j < l.length) : l.getD i 0 < l.getD j 0 := by
  have := List.pairwise_iff_getElem.1 h i j (by omega) hj hij
  simpa [List.getD_eq_getElem?_getD, List.getElem?_eq_getElem hj, List.getElem?_eq_getElem (show i < l.length by omega)] using this
set_option maxRecDepth 100000 in
set_option maxHeartbeats 3200000 in
theorem walk (U : Value) (l : List Ed) (a c : Int) (w : World) (hU : Eds w U l ∧ ∀ e ∈ l, fitE e) (hf : (Lit.int .u8 a).wf = true) (ht : (Lit.int .u8 c).wf = true) :
    Calls Try.prog 6 #[U, .int .u8 a, .int .u8 c] w fun e w' => e = .returned (.bool true) ∧ Below w.heap.size w w' := by
  obtain ⟨hU, fU⟩ := hU
  obtain ⟨ua, uc, rfl, -⟩ := hU.ex
  have k0 := fun V w h => efew_any V l w h
  have hx40 := fewE_len l
  obtain ⟨x, hx⟩ : ∃ x, fewE l = x := ⟨_, rfl⟩
  have fX : ∀ e ∈ x, fitE e := by rw [← hx]; exact fun e he => fU e (List.mem_of_mem_take he)
  obtain ⟨n, hn⟩ : ∃ n, x.length = n := ⟨_, rfl⟩
  rw [hx] at k0 hx40
  rw [hn] at k0 hx40
  obtain ⟨ln, hln⟩ : ∃ ln, l.length = ln := ⟨_, rfl⟩
  rw [hln] at hU ⊢
  have hsm : x.length ≤ 1000000 := by rw [hn]; omega
  have SU := Lib.hid hU; have HN := Lib.hid hn; have B := Lib.hid (Below.refl w.heap.size w); have FX := Lib.hid fX; have HSM := Lib.hid hsm
  clear hU hx hn hln fU fX hsm
  obtain ⟨f0, f1⟩ := bounds_u8 hf
  obtain ⟨t0, t1⟩ := bounds_u8 ht
  have k1 := fun V w h => check_any V x w h
  unfold chkE at k1
  clear hf ht
  go_enter Try.func6, Try.ntmps6
  go_upto_region 2 with (go_at_call 9; refine (k0 _ _ SU.out).mono ?_; rintro e w1 ⟨a1, c1, rfl, hN, rfl⟩; have SX := Lib.hid hN; clear hN k0)
  obtain ⟨o, ho⟩ : ∃ o, okE x = o := ⟨_, rfl⟩
  rw [ho] at k1
  cases o
  · simp only [Bool.false_eq_true, if_false] at k1
    clear ho
    go_wp2_with (first
      | (go_at_call 14; refine (k1 _ _ SX.out).mono ?_; rintro e w2 ⟨rfl, hb2⟩; replace SX := Lib.hid (SX.out.below hb2); replace B := Lib.hid (below_step B.out hb2); clear hb2 k1)
      | (go_at_call 16; refine (eawake_any _).mono ?_; rintro e w9 ⟨rfl, hb9⟩; replace B := Lib.hid (below_step B.out hb9); clear hb9))
    go_ret
    exact ⟨rfl, B.out⟩
  · simp only [if_true] at k1
    go_upto_region 4 with (go_at_call 14; refine (k1 _ _ SX.out).mono ?_; rintro e w2 ⟨rfl, hb2⟩; replace SX := Lib.hid (SX.out.below hb2); replace B := Lib.hid (below_step B.out hb2); clear hb2 k1)
    go_upto_region 5 with fail
    obtain ⟨f, hf⟩ : ∃ f, a % 9 - 1 = f := ⟨_, rfl⟩
    obtain ⟨t, ht⟩ : ∃ t, c % 9 = t := ⟨_, rfl⟩
    rw [hf, ht]
    have hf0 : -1 ≤ f := by omega
    have ht0 : 0 ≤ t := by omega
    have hm1 : mayE x f 0 = true := mayE_of ho hf0 (by decide)
    have hm2 : mayE x (-1) t = true := mayE_of ho (by decide) ht0
    have hm3 : mayE x f t = true := mayE_of ho hf0 ht0
    have k2 := fun V w h => next_any V x f w h HSM.out
    have k3 := fun V w h => back_any V x t w h HSM.out
    have k4 := fun V w h => many_any V x f t w h HSM.out
    have e1 : nextL x f = nextE x f := by unfold nextL; rw [hm1]; rfl
    have e2 : nextK x f = 0 := by unfold nextK; rw [hm1]; rfl
    have e3 : backL x t = backE x t := by unfold backL; rw [hm2]; rfl
    have e4 : backK x t = 0 := by unfold backK; rw [hm2]; rfl
    have e5 : manyV x f t = manyE x f t := by unfold manyV; rw [hm3]; rfl
    have e6 : manyK x f t = 0 := by unfold manyK; rw [hm3]; rfl
    have l1 := nextE_len x f
    have l2 := backE_len x t
    have g1 := pair_getD (next_rises ho f)
    have g2 := pair_getD (back_rises ho t)
    have p1 := has_next ho f t
    have p2 := has_back ho f t
    rw [e1, e2] at k2
    rw [e3, e4] at k3
    rw [e5, e6] at k4
    rw [HN.out] at l1 l2
    obtain ⟨Nx, hNx⟩ : ∃ z, nextE x f = z := ⟨_, rfl⟩
    obtain ⟨Bk, hBk⟩ : ∃ z, backE x t = z := ⟨_, rfl⟩
    obtain ⟨M, hM⟩ : ∃ z, manyE x f t = z := ⟨_, rfl⟩
    rw [hNx] at k2 l1 g1 p1
    rw [hBk] at k3 l2 g2 p2
    rw [hM] at k4 p1 p2
    obtain ⟨mn, hmn⟩ : ∃ z, Nx.length = z := ⟨_, rfl⟩
    obtain ⟨mb, hmb⟩ : ∃ z, Bk.length = z := ⟨_, rfl⟩
    rw [hmn] at k2 l1 g1
    rw [hmb] at k3 l2 g2
    have HMN := Lib.hid hmn; have HMB := Lib.hid hmb; have G1 := Lib.hid g1; have G2 := Lib.hid g2; have P1 := Lib.hid p1; have P2 := Lib.hid p2
    clear hm1 hm2 hm3 e1 e2 e3 e4 e5 e6 hNx hBk hM hmn hmb g1 g2 p1 p2 ho hf ht f0 f1 t0 t1
    go_upto_region 6 with (go_at_call 11; refine (k2 _ _ SX.out).mono ?_; rintro e w3 ⟨v3, rfl, hown, hb3⟩; obtain ⟨a3, c3, rfl, hE⟩ := intsZ (by rw [HMN.out]; exact hown); rw [HMN.out] at hE ⊢; have I3 := Lib.hid hE; replace SX := Lib.hid (SX.out.below hb3); replace B := Lib.hid (below_step B.out hb3); clear hown hb3 hE k2)
    go_upto_region 7 with (go_at_call 12; refine (k3 _ _ SX.out).mono ?_; rintro e w4 ⟨v4, rfl, hown, hb4⟩; obtain ⟨a4, c4, rfl, hE⟩ := intsZ (by rw [HMB.out]; exact hown); rw [HMB.out] at hE ⊢; have I4 := Lib.hid hE; replace SX := Lib.hid (SX.out.below hb4); replace I3 := Lib.hid (I3.out.belowB hb4); replace B := Lib.hid (below_step B.out hb4); clear hown hb4 hE k3)
    go_upto_region 8 with (go_at_call 10; refine (k4 _ _ SX.out).mono ?_; rintro e w5 ⟨rfl, hb5⟩; replace I3 := Lib.hid (I3.out.belowB hb5); replace I4 := Lib.hid (I4.out.belowB hb5); replace B := Lib.hid (below_step B.out hb5); clear hb5 k4)
    go_wp2
    go_loopw [15] (fun i wr => ∃ k q : Nat, 1 ≤ k ∧ k ≤ mn + 1 ∧ i = .int .i64 k ∧ wr = w5.drewN q) (fun i _ => mn + 1 - (intOf i).toNat)
    case atStart => exact ⟨1, 0, Nat.le_refl _, by omega, rfl, rfl⟩
    case round =>
      obtain ⟨k, q, hk, hk2, rfl, rfl⟩ := hrel
      by_cases hlt : k < mn
      · obtain ⟨b, off, rfl⟩ := I3.out.some (by omega)
        obtain ⟨j, hj⟩ : ∃ j, k - 1 = j := ⟨_, rfl⟩
        have hwr : IntKind.i64.wrap ((k : Int) - 1) = (j : Int) := by rw [IntKind.wrap_i64]; omega
        have hjn : j < mn := by omega
        have hjb : (j : Int) < (mn : Int) := by omega
        have hkb : (k : Int) < (mn : Int) := by omega
        obtain ⟨Wq, hWq⟩ : ∃ Wq, w5.drewN q = Wq := ⟨_, rfl⟩
        have hbq : Below w5.heap.size w5 Wq := by rw [← hWq]; exact below_q ⟨q, rfl⟩
        have hc0 := cell_keep (I3.out.cell k hlt) hbq
        have hc1 := cell_keep (I3.out.cell j hjn) hbq
        have hr := G1.out j k (by omega) hlt
        obtain ⟨p, hp⟩ : ∃ z, Nx.getD k 0 = z := ⟨_, rfl⟩
        obtain ⟨r, hr2⟩ : ∃ z, Nx.getD j 0 = z := ⟨_, rfl⟩
        rw [hp] at hc0 hr
        rw [hr2] at hc1 hr
        have hd : decide (p ≤ r) = false := by simp; omega
        rw [hWq]
        have HWq := Lib.hid hWq
        clear hp hr2 hr hbq hWq hj
        go_wp2_with fail
        go_quiet (fail)
        go_wp2
        go_roundw
        case rel => exact ⟨k + 1, q + nq, by omega, by omega, by go_num, by rw [← HWq.out, World.drewN_drewN]⟩
        case measure => simp [intOf]; omega
      · obtain ⟨W6, hW6⟩ : ∃ z, w5.drewN q = z := ⟨_, rfl⟩
        have hb6 : Below w5.heap.size w5 W6 := by rw [← hW6]; exact below_q ⟨q, rfl⟩
        rw [hW6]
        replace I3 := Lib.hid (I3.out.belowB hb6); replace I4 := Lib.hid (I4.out.belowB hb6); replace B := Lib.hid (below_step B.out hb6)
        clear hW6 hb6 hk hk2
        go_upto_region 13 with fail
        go_wp2
        go_loopw [16] (fun i wr => ∃ k q : Nat, 1 ≤ k ∧ k ≤ mb + 1 ∧ i = .int .i64 k ∧ wr = W6.drewN q) (fun i _ => mb + 1 - (intOf i).toNat)
        case atStart => exact ⟨1, 0, Nat.le_refl _, by omega, rfl, rfl⟩
        case round =>
          obtain ⟨k, q, hk, hk2, rfl, rfl⟩ := hrel
          by_cases hlt : k < mb
          · obtain ⟨b, off, rfl⟩ := I4.out.some (by omega)
            obtain ⟨j, hj⟩ : ∃ j, k - 1 = j := ⟨_, rfl⟩
            have hwr : IntKind.i64.wrap ((k : Int) - 1) = (j : Int) := by rw [IntKind.wrap_i64]; omega
            have hjn : j < mb := by omega
            have hjb : (j : Int) < (mb : Int) := by omega
            have hkb : (k : Int) < (mb : Int) := by omega
            obtain ⟨Wq, hWq⟩ : ∃ Wq, W6.drewN q = Wq := ⟨_, rfl⟩
            have hbq : Below W6.heap.size W6 Wq := by rw [← hWq]; exact below_q ⟨q, rfl⟩
            have hc0 := cell_keep (I4.out.cell k hlt) hbq
            have hc1 := cell_keep (I4.out.cell j hjn) hbq
            have hr := G2.out j k (by omega) hlt
            obtain ⟨p, hp⟩ : ∃ z, Bk.getD k 0 = z := ⟨_, rfl⟩
            obtain ⟨r, hr2⟩ : ∃ z, Bk.getD j 0 = z := ⟨_, rfl⟩
            rw [hp] at hc0 hr
            rw [hr2] at hc1 hr
            have hd : decide (p ≤ r) = false := by simp; omega
            rw [hWq]
            have HWq := Lib.hid hWq
            clear hp hr2 hr hbq hWq hj
            go_wp2_with fail
            go_quiet (fail)
            go_wp2
            go_roundw
            case rel => exact ⟨k + 1, q + nq, by omega, by omega, by go_num, by rw [← HWq.out, World.drewN_drewN]⟩
            case measure => simp [intOf]; omega
          · obtain ⟨W7, hW7⟩ : ∃ z, W6.drewN q = z := ⟨_, rfl⟩
            have hb7 : Below W6.heap.size W6 W7 := by rw [← hW7]; exact below_q ⟨q, rfl⟩
            rw [hW7]
            replace I3 := Lib.hid (I3.out.belowB hb7); replace I4 := Lib.hid (I4.out.belowB hb7); replace B := Lib.hid (below_step B.out hb7)
            clear hW7 hb7 hk hk2
            obtain ⟨o, ho⟩ : ∃ o, decide (0 < M) = o := ⟨_, rfl⟩
            have P3 := Lib.hid (P1.out.trans ho); have P4 := Lib.hid (P2.out.trans ho)
            clear P1 P2
            cases o
            all_goals
              go_wp2_with (first
                | (go_at_call 26; refine (refhasz_any _ _ _ _ (by first | exact I3.out | exact I4.out)).mono ?_; rintro e w8 ⟨rfl, rfl⟩; (first | rw [P3.out] | rw [P4.out]))
                | (go_at_call 16; refine (eawake_any _).mono ?_; rintro e w9 ⟨rfl, hb9⟩; replace B := Lib.hid (below_step B.out hb9); clear hb9))
              go_ret
              exact ⟨rfl, B.out⟩

theorem own : ownKnob Try.prog.godebug = none := by kernel_rfl
theorem laidOut : laidOutB Try.prog = true := by kernel_rfl

set_option maxRecDepth 100000 in
theorem lifted (os : Os) (started : os.Started) (H : Type) (enc : TypeId × Value → H) :
    ReturnsInHanded {} Try.checked os 6 .any (Rows.edgesWaysSpec.pre6 enc Try.prog Try.f6 Rows.edgesWaysRow.domain false) (Rows.edgesWaysSpec.post enc Try.prog Try.f6 false true false false) := by
  refine returnsInHanded_of_change (C := Try.checked) own started (by kernel_rfl) Try.func6
    (ChangeSpec.witness6 (enc := enc) (C := Try.checked) false ⟨#[], #[.slice none 0 0, .int .u8 0, .int .u8 0], []⟩ 8 (by kernel_rfl) (by kernel_rfl) (by kernel_rfl) (by kernel_rfl)) ?_
  intro W base args ds gs before hval0 hW hcnd _
  have hval : ∀ (j : Nat) t v, Try.f6.params[j]? = some t → args[j]? = some v → Value.okWide Try.prog W .any base t v := hval0
  have hW' := hW
  obtain ⟨p, q, hA0, hV, rfl, hfz, hnd⟩ := hW
  have hA : DataW.TrodAll enc Try.prog W 0 (fun _ => true) true Try.f6.params.toList args.toList ds p := hA0
  rw [Try.params6] at hA hval
  obtain ⟨v0, vs0, d0, ds0, p0, q0, hargs, rfl, rfl, h0, r0⟩ := trodAll_cons hA
  obtain ⟨v1, vs1, d1, ds1, p1, q1, rfl, rfl, rfl, h1, r1⟩ := trodAll_cons r0
  obtain ⟨v2, vs2, d2, ds2, p2, q2, rfl, rfl, rfl, h2, r2⟩ := trodAll_cons r1
  obtain ⟨rfl, rfl, rfl⟩ := trodAll_nil r2
  obtain rfl : args = #[v0, v1, v2] := by cases args; simp_all
  obtain ⟨rfl, rfl⟩ := trodVars_none hV
  obtain ⟨a0, len0, cap0, rfl⟩ := okWide_slice Try.underlying22 (hval 0 22 v0 rfl rfl)
  have k0 := h0
  have lt0 : ∀ x ∈ p0, x.block < W.heap.size := by obtain ⟨m, hm⟩ := k0; exact DataW.trod_lt m _ _ _ hm
  obtain ⟨z0, w0⟩ : ∃ zs, Eds W (.slice a0 len0 cap0) zs ∧ ∀ e ∈ zs, fitE e := by
    obtain ⟨fuel, hf⟩ := h0
    exact eds_open (by simpa [Value.cells] using hf)
  obtain ⟨a1, rfl, rfl, rfl, w1⟩ := open_int Try.underlying5 (hval 1 5 v1 rfl rfl) h1
  obtain ⟨a2, rfl, rfl, rfl, w2⟩ := open_int Try.underlying5 (hval 2 5 v2 rfl rfl) h2
  clear hA0 hval0
  refine (walk _ z0 a1 a2 W w0 w1 w2).mono fun e W' ⟨he, bel⟩ => ?_
  subst he
  exact ⟨_, rfl, _, _, _, [], _, [], hW', trodAll_mk1 (shut_bool Try.underlying4 _), (trodAll_cons_mk (Below.trod laidOut (by kernel_rfl) (of_decide_eq_true (by kernel_rfl)) k0 bel lt0) (trodAll_cons_mk (shut_int Try.underlying5 w1) (trodAll_cons_mk (shut_int Try.underlying5 w2) trodAll_mk0))), rfl, bel.frame _, fun h => by cases h⟩

-- the given statement
theorem proved : Rows.EdgesWaysSaid :=
  OpenClaim.holds_of_wide 6 Try.f6 rfl rfl rfl rfl rfl rfl rfl ⟨rfl, rfl, rfl, rfl, rfl⟩ rfl rfl rfl rfl rfl (by kernel_rfl) Try.func6 (by kernel_rfl)
    (of_decide_eq_true (by kernel_rfl)) (by unfold Func.isWrapper; first | (rw [if_pos (by decide +kernel)]; kernel_rfl) | (rw [if_neg (by decide +kernel)]; exact ⟨rfl, rfl⟩))
    (fun os started H enc _ => lifted os started H enc)
end Go.Proofs.Ytpbhngneciiaaaa.edgesWays
