/- Of every edges (no more than are looked at): a pair more is one more of all together, a pair less one less; no other pair is there otherwise; no condition. -/
import Derived.Test.YtpbhngneciiaaaaRows
import Derived.Test.YtpbhngneciiaaaaEdgN
import Derived.ProofKit
import Derived.OpenShut
import Derived.ShutString
import Derived.ChangeOld
namespace Go.Proofs.Ytpbhngneciiaaaa.edgesSums
open Go.ChangeShapes Go.WideShapes Go.ChangeAt Go.RowKit
open Go.ChangeMaps (open_string shut_string)
set_option maxRecDepth 100000
set_option linter.unusedVariables false

theorem sums_at {x : List Ed} {f t : Int} (hx : okE x = true) (hf : -1 ≤ f) (ht : 0 ≤ t) (hM : manyE x f t < topE) :
    okE (withE x (f, t, manyE x f t + 1)) = true ∧ okE (withE (withE x (f, t, manyE x f t + 1)) (f, t, manyE x f t)) = true ∧
    ∀ X Y, manyE (withE x (f, t, manyE x f t + 1)) X Y = manyE x X Y + (if X = f ∧ Y = t then 1 else 0) ∧ manyE (withE (withE x (f, t, manyE x f t + 1)) (f, t, manyE x f t)) X Y = manyE x X Y := by
  have h0 := (many_bd hx f t).1
  have o1 : okE (withE x (f, t, manyE x f t + 1)) = true := with_ok hx hf ht (by show manyE x f t + 1 ≤ topE; omega)
  refine ⟨o1, with_ok o1 hf ht (by show manyE x f t ≤ topE; omega), fun X Y => ?_⟩
  have e1 := with_many (l := x) (x := (f, t, manyE x f t + 1)) (by show 0 ≤ manyE x f t + 1; omega) X Y
  have e2 := with_many (l := withE x (f, t, manyE x f t + 1)) (x := (f, t, manyE x f t)) h0 X Y
  by_cases h : X = f ∧ Y = t
  · obtain ⟨rfl, rfl⟩ := h
    have p : ∀ n, isP X Y (X, Y, n) = true := fun n => isP_iff.2 ⟨rfl, rfl⟩
    rw [p] at e1 e2
    simp only [if_true] at e1 e2
    rw [e1, e2]; simp
  · have p : ∀ n, isP X Y (f, t, n) = false := fun n => by
      cases k : isP X Y (f, t, n)
      · rfl
      · have := isP_iff.1 k; exact absurd ⟨this.1.symm, this.2.symm⟩ h
    rw [p] at e1 e2
    simp only [Bool.false_eq_true, if_false] at e1 e2
    rw [e2, e1, if_neg h]; simp
set_option maxRecDepth 100000 in
set_option maxHeartbeats 6400000 in
theorem walk (U : Value) (l : List Ed) (a c : Int) (w : World) (hU : Eds w U l ∧ ∀ e ∈ l, fitE e) (hf : (Lit.int .u8 a).wf = true) (ht : (Lit.int .u8 c).wf = true) :
    Calls Try.prog 7 #[U, .int .u8 a, .int .u8 c] w fun e w' => e = .returned (.bool true) ∧ Below w.heap.size w w' := by
  obtain ⟨hU, fU⟩ := hU
  obtain ⟨ua, uc, rfl, -⟩ := hU.ex
  have k0 := fun V w h => efew_any V l w h
  have hx40 := fewE_len l
  obtain ⟨x, hx⟩ : ∃ x, fewE l = x := ⟨_, rfl⟩
  have fX : ∀ e ∈ x, fitE e := by rw [← hx]; exact fun e he => fU e (List.mem_of_mem_take he)
  obtain ⟨n, hn⟩ : ∃ n, x.length = n := ⟨_, rfl⟩
  rw [hx] at k0 hx40
  rw [hn] at k0 hx40
  obtain ⟨ln, hln⟩ : ∃ ln, l.length = ln := ⟨_, rfl⟩
  rw [hln] at hU ⊢
  have hsm : x.length ≤ 1000000 := by rw [hn]; omega
  have SU := Lib.hid hU; have HN := Lib.hid hn; have B := Lib.hid (Below.refl w.heap.size w); have FX := Lib.hid fX; have HSM := Lib.hid hsm
  clear hU hx hn hln fU fX hsm
  obtain ⟨f0, f1⟩ := bounds_u8 hf
  obtain ⟨t0, t1⟩ := bounds_u8 ht
  clear hf ht
  go_enter Try.func7, Try.ntmps7
  go_upto_region 2 with (go_at_call 9; refine (k0 _ _ SU.out).mono ?_; rintro e w1 ⟨a1, c1, rfl, hN, rfl⟩; have SX := Lib.hid hN; clear hN k0)
  go_upto_region 3 with fail
  obtain ⟨f, hf⟩ : ∃ f, a % 9 - 1 = f := ⟨_, rfl⟩
  obtain ⟨t, ht⟩ : ∃ t, c % 9 = t := ⟨_, rfl⟩
  rw [hf, ht]
  have hf0 : -1 ≤ f := by omega
  have ht0 : 0 ≤ t := by omega
  clear hf ht f0 f1 t0 t1
  have k1 := fun V w h => add_any V x f t w h HSM.out
  have hla := addL_len x f t
  rw [HN.out] at hla
  obtain ⟨A, hA⟩ : ∃ z, addL x f t = z := ⟨_, rfl⟩
  obtain ⟨KA, hKA⟩ : ∃ z, addK x f t = z := ⟨_, rfl⟩
  rw [hA] at k1 hla
  rw [hKA] at k1
  obtain ⟨ma, hma⟩ : ∃ z, A.length = z := ⟨_, rfl⟩
  rw [hma] at k1 hla
  have HMA := Lib.hid hma; have HA := Lib.hid hA; have HKA := Lib.hid hKA
  clear hma hA hKA
  go_upto_region 4 with (go_at_call 22; refine (k1 _ _ SX.out).mono ?_; rintro e w2 ⟨v2, rfl, hown, hb2⟩; obtain ⟨a2, c2, rfl, hE⟩ := edsO (by rw [HMA.out]; exact hown); rw [HMA.out] at hE ⊢; have S2 := Lib.hid hE; replace SX := Lib.hid (SX.out.below hb2); replace B := Lib.hid (below_step B.out hb2); clear hown hb2 hE k1)
  by_cases hk : KA = 0
  · have hm : mayE x f t = true := by
      cases hm : mayE x f t
      · have := HKA.out; unfold addK at this; rw [hm] at this; simp at this; omega
      · rfl
    have hok := (mayE_ok hm).1
    have hT : manyE x f t < topE := by
      have h1 := (many_bd hok f t).2
      have h2 : ¬ manyE x f t = topE := fun e => by have := HKA.out; unfold addK at this; rw [hm, e] at this; simp at this; omega
      omega
    have hA := HA.out
    unfold addL at hA
    rw [HKA.out, if_pos hk] at hA
    obtain ⟨oA, oD, hS⟩ := sums_at hok hf0 ht0 hT
    have hbd := many_bd hok
    have hK2 : dropK A f t = 0 := by
      unfold dropK; rw [mayE_of (by rw [← hA]; exact oA) hf0 ht0]
      have h1 := (hS f t).1
      have h2 := (hbd f t).1
      rw [hA] at h1
      rw [h1]; simp; omega
    have hD : dropL A f t = withE A (f, t, manyE x f t) := by
      unfold dropL; rw [if_pos hK2]
      have h1 := (hS f t).1
      rw [hA] at h1
      rw [h1]; simp
    rw [hA] at oA oD hS
    have hsa : A.length ≤ 1000000 := by rw [HMA.out]; omega
    have k2 := fun V w h => drop_any V A f t w h hsa
    have hld := dropL_len A f t
    rw [HMA.out] at hld
    rw [hD] at k2 hld
    rw [hK2] at k2
    obtain ⟨D, hD0⟩ : ∃ z, withE A (f, t, manyE x f t) = z := ⟨_, rfl⟩
    rw [hD0] at k2 hld oD hS
    obtain ⟨md, hmd⟩ : ∃ z, D.length = z := ⟨_, rfl⟩
    rw [hmd] at k2 hld
    have HMD := Lib.hid hmd
    have hsd : D.length ≤ 1000000 := by rw [hmd]; omega
    have kX : ∀ X Y : Int, -1 ≤ X → 0 ≤ Y → ∀ V w, Eds w V x → Calls Try.prog 10 #[V, .int .i64 X, .int .i64 Y] w fun e w' => e = .returned (.tuple #[.int .i64 (manyE x X Y), .int .i64 0]) ∧ Below w.heap.size w w' := fun X Y h1 h2 V w h => by
      have := many_any V x X Y w h HSM.out
      unfold manyV manyK at this; rw [mayE_of hok h1 h2] at this; exact this
    have kA : ∀ X Y : Int, -1 ≤ X → 0 ≤ Y → ∀ V w, Eds w V A → Calls Try.prog 10 #[V, .int .i64 X, .int .i64 Y] w fun e w' => e = .returned (.tuple #[.int .i64 (manyE A X Y), .int .i64 0]) ∧ Below w.heap.size w w' := fun X Y h1 h2 V w h => by
      have := many_any V A X Y w h hsa
      unfold manyV manyK at this; rw [mayE_of oA h1 h2] at this; exact this
    have kD : ∀ X Y : Int, -1 ≤ X → 0 ≤ Y → ∀ V w, Eds w V D → Calls Try.prog 10 #[V, .int .i64 X, .int .i64 Y] w fun e w' => e = .returned (.tuple #[.int .i64 (manyE D X Y), .int .i64 0]) ∧ Below w.heap.size w w' := fun X Y h1 h2 V w h => by
      have := many_any V D X Y w h hsd
      unfold manyV manyK at this; rw [mayE_of oD h1 h2] at this; exact this
    have KX := Lib.hid kX; have KA2 := Lib.hid kA; have KD2 := Lib.hid kD; have HS := Lib.hid hS; have HBD := Lib.hid hbd
    clear hm hok hT hA oA oD hS hbd hK2 hD hsa hD0 hmd hsd kX kA kD hla hld
    subst hk
    go_upto_region 7 with (go_at_call 23; refine (k2 _ _ S2.out).mono ?_; rintro e w3 ⟨v3, rfl, hown, hb3⟩; obtain ⟨a3, c3, rfl, hE⟩ := edsO (by rw [HMD.out]; exact hown); rw [HMD.out] at hE ⊢; have S3 := Lib.hid hE; replace SX := Lib.hid (SX.out.below hb3); replace S2 := Lib.hid (S2.out.below hb3); replace B := Lib.hid (below_step B.out hb3); clear hown hb3 hE k2)
    go_wp2
    go_loopw [13] (fun i wr => ∃ X : Int, -1 ≤ X ∧ X ≤ 8 ∧ i = .int .i64 X ∧ Hid (Below w3.heap.size w3 wr)) (fun i _ => (8 - intOf i).toNat)
    case atStart => exact ⟨-1, by omega, by omega, rfl, Lib.hid (Below.refl _ _)⟩
    case round =>
      obtain ⟨X, hX0, hX1, rfl, HB⟩ := hrel
      by_cases hlt : X < 8
      · go_wp2
        go_loopw [14] (fun i wr => ∃ Y : Int, 0 ≤ Y ∧ Y ≤ 8 ∧ i = .int .i64 Y ∧ Hid (Below w3.heap.size w3 wr)) (fun i _ => (8 - intOf i).toNat)
        case atStart => exact ⟨0, by omega, by omega, rfl, HB⟩
        case round =>
          obtain ⟨Y, hY0, hY1, rfl, HB2⟩ := hrel
          by_cases hly : Y < 8
          · have q1 := KX.out X Y hX0 hY0
            have q2 := KA2.out X Y hX0 hY0
            have q3 := KD2.out X Y hX0 hY0
            obtain ⟨s1, s2⟩ := HS.out X Y
            obtain ⟨b1, b2⟩ := HBD.out X Y
            rw [s1] at q2
            rw [s2] at q3
            obtain ⟨P, hP⟩ : ∃ z, manyE x X Y = z := ⟨_, rfl⟩
            rw [hP] at q1 q2 q3 b1 b2
            have b3 : P ≤ 1099511627776 := b2
            clear s1 s2 hP b2
            by_cases hp : X = f ∧ Y = t
            · rw [if_pos hp] at q2
              have d1 : (X == f) = true := by simp [hp.1]
              have d2 : (Y == t) = true := by simp [hp.2]
              clear hp
              go_upto_region 14 with (go_at_call 10; refine (q1 _ _ (SX.out.below HB2.out)).mono ?_; rintro e w4 ⟨rfl, hb4⟩; replace HB2 := Lib.hid (below_step HB2.out hb4); clear hb4)
              go_upto_region 15 with (go_at_call 10; refine (q2 _ _ (S2.out.below HB2.out)).mono ?_; rintro e w4 ⟨rfl, hb4⟩; replace HB2 := Lib.hid (below_step HB2.out hb4); clear hb4)
              go_upto_region 16 with (go_at_call 10; refine (q3 _ _ (S3.out.below HB2.out)).mono ?_; rintro e w4 ⟨rfl, hb4⟩; replace HB2 := Lib.hid (below_step HB2.out hb4); clear hb4)
              go_wp2
              go_roundw
              case rel => exact ⟨Y + 1, by omega, by omega, by go_num, HB2⟩
              case measure => simp [intOf]; omega
            · rw [if_neg hp, Int.add_zero] at q2
              by_cases hpx : X = f
              · have d1 : (X == f) = true := by simp [hpx]
                have d2 : (Y == t) = false := by simp; exact fun e => hp ⟨hpx, e⟩
                clear hp hpx
                go_upto_region 14 with (go_at_call 10; refine (q1 _ _ (SX.out.below HB2.out)).mono ?_; rintro e w4 ⟨rfl, hb4⟩; replace HB2 := Lib.hid (below_step HB2.out hb4); clear hb4)
                go_upto_region 15 with (go_at_call 10; refine (q2 _ _ (S2.out.below HB2.out)).mono ?_; rintro e w4 ⟨rfl, hb4⟩; replace HB2 := Lib.hid (below_step HB2.out hb4); clear hb4)
                go_upto_region 16 with (go_at_call 10; refine (q3 _ _ (S3.out.below HB2.out)).mono ?_; rintro e w4 ⟨rfl, hb4⟩; replace HB2 := Lib.hid (below_step HB2.out hb4); clear hb4)
                go_wp2
                go_roundw
                case rel => exact ⟨Y + 1, by omega, by omega, by go_num, HB2⟩
                case measure => simp [intOf]; omega
              · have d1 : (X == f) = false := by simp [hpx]
                clear hp hpx
                go_upto_region 14 with (go_at_call 10; refine (q1 _ _ (SX.out.below HB2.out)).mono ?_; rintro e w4 ⟨rfl, hb4⟩; replace HB2 := Lib.hid (below_step HB2.out hb4); clear hb4)
                go_upto_region 15 with (go_at_call 10; refine (q2 _ _ (S2.out.below HB2.out)).mono ?_; rintro e w4 ⟨rfl, hb4⟩; replace HB2 := Lib.hid (below_step HB2.out hb4); clear hb4)
                go_upto_region 16 with (go_at_call 10; refine (q3 _ _ (S3.out.below HB2.out)).mono ?_; rintro e w4 ⟨rfl, hb4⟩; replace HB2 := Lib.hid (below_step HB2.out hb4); clear hb4)
                go_wp2
                go_roundw
                case rel => exact ⟨Y + 1, by omega, by omega, by go_num, HB2⟩
                case measure => simp [intOf]; omega
          · go_wp2
            go_roundw
            case rel => exact ⟨X + 1, by omega, by omega, by go_num, HB2⟩
            case measure => simp [intOf]; omega
      · replace B := Lib.hid (below_step B.out HB.out)
        go_wp2_with (go_at_call 16; refine (eawake_any _).mono ?_; rintro e w9 ⟨rfl, hb9⟩; replace B := Lib.hid (below_step B.out hb9); clear hb9)
        go_ret
        exact ⟨rfl, B.out⟩
  · have dk : (KA != 0) = true := by simp [hk]
    clear hk
    go_wp2_with (go_at_call 16; refine (eawake_any _).mono ?_; rintro e w9 ⟨rfl, hb9⟩; replace B := Lib.hid (below_step B.out hb9); clear hb9)
    go_ret
    exact ⟨rfl, B.out⟩

theorem own : ownKnob Try.prog.godebug = none := by kernel_rfl
theorem laidOut : laidOutB Try.prog = true := by kernel_rfl

set_option maxRecDepth 100000 in
theorem lifted (os : Os) (started : os.Started) (H : Type) (enc : TypeId × Value → H) :
    ReturnsInHanded {} Try.checked os 7 .any (Rows.edgesSumsSpec.pre6 enc Try.prog Try.f7 Rows.edgesSumsRow.domain false) (Rows.edgesSumsSpec.post enc Try.prog Try.f7 false true false false) := by
  refine returnsInHanded_of_change (C := Try.checked) own started (by kernel_rfl) Try.func7
    (ChangeSpec.witness6 (enc := enc) (C := Try.checked) false ⟨#[], #[.slice none 0 0, .int .u8 0, .int .u8 0], []⟩ 8 (by kernel_rfl) (by kernel_rfl) (by kernel_rfl) (by kernel_rfl)) ?_
  intro W base args ds gs before hval0 hW hcnd _
  have hval : ∀ (j : Nat) t v, Try.f7.params[j]? = some t → args[j]? = some v → Value.okWide Try.prog W .any base t v := hval0
  have hW' := hW
  obtain ⟨p, q, hA0, hV, rfl, hfz, hnd⟩ := hW
  have hA : DataW.TrodAll enc Try.prog W 0 (fun _ => true) true Try.f7.params.toList args.toList ds p := hA0
  rw [Try.params7] at hA hval
  obtain ⟨v0, vs0, d0, ds0, p0, q0, hargs, rfl, rfl, h0, r0⟩ := trodAll_cons hA
  obtain ⟨v1, vs1, d1, ds1, p1, q1, rfl, rfl, rfl, h1, r1⟩ := trodAll_cons r0
  obtain ⟨v2, vs2, d2, ds2, p2, q2, rfl, rfl, rfl, h2, r2⟩ := trodAll_cons r1
  obtain ⟨rfl, rfl, rfl⟩ := trodAll_nil r2
  obtain rfl : args = #[v0, v1, v2] := by cases args; simp_all
  obtain ⟨rfl, rfl⟩ := trodVars_none hV
  obtain ⟨a0, len0, cap0, rfl⟩ := okWide_slice Try.underlying22 (hval 0 22 v0 rfl rfl)
  have k0 := h0
  have lt0 : ∀ x ∈ p0, x.block < W.heap.size := by obtain ⟨m, hm⟩ := k0; exact DataW.trod_lt m _ _ _ hm
  obtain ⟨z0, w0⟩ : ∃ zs, Eds W (.slice a0 len0 cap0) zs ∧ ∀ e ∈ zs, fitE e := by
    obtain ⟨fuel, hf⟩ := h0
    exact eds_open (by simpa [Value.cells] using hf)
  obtain ⟨a1, rfl, rfl, rfl, w1⟩ := open_int Try.underlying5 (hval 1 5 v1 rfl rfl) h1
  obtain ⟨a2, rfl, rfl, rfl, w2⟩ := open_int Try.underlying5 (hval 2 5 v2 rfl rfl) h2
  clear hA0 hval0
  refine (walk _ z0 a1 a2 W w0 w1 w2).mono fun e W' ⟨he, bel⟩ => ?_
  subst he
  exact ⟨_, rfl, _, _, _, [], _, [], hW', trodAll_mk1 (shut_bool Try.underlying4 _), (trodAll_cons_mk (Below.trod laidOut (by kernel_rfl) (of_decide_eq_true (by kernel_rfl)) k0 bel lt0) (trodAll_cons_mk (shut_int Try.underlying5 w1) (trodAll_cons_mk (shut_int Try.underlying5 w2) trodAll_mk0))), rfl, bel.frame _, fun h => by cases h⟩

-- the given statement
theorem proved : Rows.EdgesSumsSaid :=
  OpenClaim.holds_of_wide 7 Try.f7 rfl rfl rfl rfl rfl rfl rfl ⟨rfl, rfl, rfl, rfl, rfl⟩ rfl rfl rfl rfl rfl (by kernel_rfl) Try.func7 (by kernel_rfl)
    (of_decide_eq_true (by kernel_rfl)) (by unfold Func.isWrapper; first | (rw [if_pos (by decide +kernel)]; kernel_rfl) | (rw [if_neg (by decide +kernel)]; exact ⟨rfl, rfl⟩))
    (fun os started H enc _ => lifted os started H enc)
end Go.Proofs.Ytpbhngneciiaaaa.edgesSums
