/- Of every edges (no more than are looked at) and every pair: Add and Drop answer as the document says, errors too; no condition. -/
import Derived.Test.YtpbhngneciiaaaaRows
import Derived.Test.YtpbhngneciiaaaaEdgN
import Derived.ProofKit
import Derived.OpenShut
import Derived.ShutString
import Derived.ChangeOld
namespace Go.Proofs.Ytpbhngneciiaaaa.edgesChange
open Go.ChangeShapes Go.WideShapes Go.ChangeAt Go.RowKit
open Go.ChangeMaps (open_string shut_string)
set_option maxRecDepth 100000
set_option linter.unusedVariables false

theorem with_eq {l : List Ed} {f t n : Int} : decide (withE l (f, t, n) = withE l (f, t, n)) = true := decide_eq_true rfl
set_option maxRecDepth 100000 in
set_option maxHeartbeats 3200000 in
theorem walk (U : Value) (l : List Ed) (f t : Int) (w : World) (hU : Eds w U l ∧ ∀ e ∈ l, fitE e) (hf : (Lit.int .i64 f).wf = true) (ht : (Lit.int .i64 t).wf = true) :
    Calls Try.prog 4 #[U, .int .i64 f, .int .i64 t] w fun e w' => e = .returned (.bool true) ∧ Below w.heap.size w w' := by
  obtain ⟨hU, fU⟩ := hU
  obtain ⟨ua, uc, rfl, -⟩ := hU.ex
  have k0 := fun V w h => efew_any V l w h
  have hx40 := fewE_len l
  obtain ⟨x, hx⟩ : ∃ x, fewE l = x := ⟨_, rfl⟩
  have fX : ∀ e ∈ x, fitE e := by rw [← hx]; exact fun e he => fU e (List.mem_of_mem_take he)
  obtain ⟨n, hn⟩ : ∃ n, x.length = n := ⟨_, rfl⟩
  rw [hx] at k0 hx40
  rw [hn] at k0 hx40
  obtain ⟨ln, hln⟩ : ∃ ln, l.length = ln := ⟨_, rfl⟩
  rw [hln] at hU ⊢
  have hsm : x.length ≤ 1000000 := by rw [hn]; omega
  have SU := Lib.hid hU; have HN := Lib.hid hn; have B := Lib.hid (Below.refl w.heap.size w); have FX := Lib.hid fX; have HSM := Lib.hid hsm
  clear hU hx hn hln fU fX hsm
  have k1 := fun V w h => add_any V x f t w h HSM.out
  have k2 := fun V w h => drop_any V x f t w h HSM.out
  have k3 := fun V w h => refmay_any V x w h
  obtain ⟨A, hA⟩ : ∃ z, addL x f t = z := ⟨_, rfl⟩
  rw [hA] at k1
  obtain ⟨KA, hKA⟩ : ∃ z, addK x f t = z := ⟨_, rfl⟩
  rw [hKA] at k1
  obtain ⟨ma, hma⟩ : ∃ z, A.length = z := ⟨_, rfl⟩
  rw [hma] at k1
  obtain ⟨D, hD⟩ : ∃ z, dropL x f t = z := ⟨_, rfl⟩
  rw [hD] at k2
  obtain ⟨KD, hKD⟩ : ∃ z, dropK x f t = z := ⟨_, rfl⟩
  rw [hKD] at k2
  obtain ⟨md, hmd⟩ : ∃ z, D.length = z := ⟨_, rfl⟩
  rw [hmd] at k2
  have HA := Lib.hid hA; have HKA := Lib.hid hKA; have HMA := Lib.hid hma; have HD := Lib.hid hD; have HKD := Lib.hid hKD; have HMD := Lib.hid hmd
  clear hA hKA hma hD hKD hmd hf ht
  go_enter Try.func4, Try.ntmps4
  go_upto_region 2 with (go_at_call 9; refine (k0 _ _ SU.out).mono ?_; rintro e w1 ⟨a1, c1, rfl, hN, rfl⟩; have SX := Lib.hid hN; clear hN k0)
  go_upto_region 3 with (go_at_call 22; refine (k1 _ _ SX.out).mono ?_; rintro e w2 ⟨v2, rfl, hown, hb2⟩; obtain ⟨a2, c2, rfl, hE⟩ := edsO (by rw [HMA.out]; exact hown); rw [HMA.out] at hE ⊢; have S2 := Lib.hid hE; replace SX := Lib.hid (SX.out.below hb2); replace B := Lib.hid (below_step B.out hb2); clear hown hb2 hE k1)
  go_upto_region 4 with (go_at_call 23; refine (k2 _ _ SX.out).mono ?_; rintro e w3 ⟨v3, rfl, hown, hb3⟩; obtain ⟨a3, c3, rfl, hE⟩ := edsO (by rw [HMD.out]; exact hown); rw [HMD.out] at hE ⊢; have S3 := Lib.hid hE; replace SX := Lib.hid (SX.out.below hb3); replace S2 := Lib.hid (S2.out.below hb3); replace B := Lib.hid (below_step B.out hb3); clear hown hb3 hE k2)
  obtain ⟨o, ho⟩ : ∃ o, okE x = o := ⟨_, rfl⟩
  rw [ho] at k3
  cases o
  · have hm : mayE x f t = false := by unfold mayE ableE; rw [ho]; simp
    have e1 : KA = 1 := by rw [← HKA.out]; unfold addK; rw [hm]; rfl
    have e2 : KD = 1 := by rw [← HKD.out]; unfold dropK; rw [hm]; rfl
    have e3 : ma = 0 := by rw [← HMA.out, ← HA.out]; unfold addL; rw [HKA.out, e1]; rfl
    have e4 : md = 0 := by rw [← HMD.out, ← HD.out]; unfold dropL; rw [HKD.out, e2]; rfl
    clear hm
    subst e1 e2 e3 e4
    clear ho
    go_wp2_with (first
      | (go_at_call 15; refine (k3 _ _ SX.out).mono ?_; rintro e w8 ⟨rfl, hb8⟩; replace SX := Lib.hid (SX.out.below hb8); replace S2 := Lib.hid (S2.out.below hb8); replace S3 := Lib.hid (S3.out.below hb8); replace B := Lib.hid (below_step B.out hb8); clear hb8)
      | (go_at_call 16; refine (eawake_any _).mono ?_; rintro e w9 ⟨rfl, hb9⟩; replace B := Lib.hid (below_step B.out hb9); clear hb9))
    go_ret
    exact ⟨rfl, B.out⟩
  · by_cases h1 : f < -1
    · have d1 : decide (f < -1) = true := by simp [h1]
      have h1' : decide (-1 ≤ f) = false := by simp; omega
      have hm : mayE x f t = false := by unfold mayE ableE; rw [h1']; simp
      have e1 : KA = 1 := by rw [← HKA.out]; unfold addK; rw [hm]; rfl
      have e2 : KD = 1 := by rw [← HKD.out]; unfold dropK; rw [hm]; rfl
      have e3 : ma = 0 := by rw [← HMA.out, ← HA.out]; unfold addL; rw [HKA.out, e1]; rfl
      have e4 : md = 0 := by rw [← HMD.out, ← HD.out]; unfold dropL; rw [HKD.out, e2]; rfl
      clear hm
      subst e1 e2 e3 e4
      clear ho h1 h1'
      go_wp2_with (first
        | (go_at_call 15; refine (k3 _ _ SX.out).mono ?_; rintro e w8 ⟨rfl, hb8⟩; replace SX := Lib.hid (SX.out.below hb8); replace S2 := Lib.hid (S2.out.below hb8); replace S3 := Lib.hid (S3.out.below hb8); replace B := Lib.hid (below_step B.out hb8); clear hb8)
        | (go_at_call 16; refine (eawake_any _).mono ?_; rintro e w9 ⟨rfl, hb9⟩; replace B := Lib.hid (below_step B.out hb9); clear hb9))
      go_ret
      exact ⟨rfl, B.out⟩
    · have d1 : decide (f < -1) = false := by simp [h1]
      by_cases h2 : t < 0
      · have d2 : decide (t < 0) = true := by simp [h2]
        have h2' : decide (0 ≤ t) = false := by simp; omega
        have hm : mayE x f t = false := by unfold mayE ableE; rw [h2']; simp
        have e1 : KA = 1 := by rw [← HKA.out]; unfold addK; rw [hm]; rfl
        have e2 : KD = 1 := by rw [← HKD.out]; unfold dropK; rw [hm]; rfl
        have e3 : ma = 0 := by rw [← HMA.out, ← HA.out]; unfold addL; rw [HKA.out, e1]; rfl
        have e4 : md = 0 := by rw [← HMD.out, ← HD.out]; unfold dropL; rw [HKD.out, e2]; rfl
        clear hm
        subst e1 e2 e3 e4
        clear ho h1 h2 h2'
        go_wp2_with (first
          | (go_at_call 15; refine (k3 _ _ SX.out).mono ?_; rintro e w8 ⟨rfl, hb8⟩; replace SX := Lib.hid (SX.out.below hb8); replace S2 := Lib.hid (S2.out.below hb8); replace S3 := Lib.hid (S3.out.below hb8); replace B := Lib.hid (below_step B.out hb8); clear hb8)
          | (go_at_call 16; refine (eawake_any _).mono ?_; rintro e w9 ⟨rfl, hb9⟩; replace B := Lib.hid (below_step B.out hb9); clear hb9))
        go_ret
        exact ⟨rfl, B.out⟩
      · have d2 : decide (t < 0) = false := by simp [h2]
        have hm : mayE x f t = true := mayE_of ho (by omega) (by omega)
        have hbd := many_bd ho f t
        have k4 := fun V w h => refmany_any V x f t w h ho
        have hka : KA = if manyE x f t = topE then 4 else 0 := by rw [← HKA.out]; unfold addK; rw [hm]; rfl
        have hkd : KD = if manyE x f t = 0 then 2 else 0 := by rw [← HKD.out]; unfold dropK; rw [hm]; rfl
        have hal : KA = 0 → A = withE x (f, t, manyE x f t + 1) := fun e => by rw [← HA.out]; unfold addL; rw [HKA.out, if_pos e]
        have hdl : KD = 0 → D = withE x (f, t, manyE x f t - 1) := fun e => by rw [← HD.out]; unfold dropL; rw [HKD.out, if_pos e]
        have han : KA ≠ 0 → ma = 0 := fun e => by rw [← HMA.out, ← HA.out]; unfold addL; rw [HKA.out, if_neg e]; rfl
        have hdn : KD ≠ 0 → md = 0 := fun e => by rw [← HMD.out, ← HD.out]; unfold dropL; rw [HKD.out, if_neg e]; rfl
        obtain ⟨M, hM⟩ : ∃ M, manyE x f t = M := ⟨_, rfl⟩
        rw [hM] at hbd k4 hka hkd hal hdl
        have k5 := fun V w h => refwith_any V x f t (M + 1) w h HSM.out
        have k6 := fun V w h => refwith_any V x f t (M - 1) w h HSM.out
        have hb0 : 0 ≤ M := hbd.1
        have hb1 : M ≤ 1099511627776 := hbd.2
        clear hbd ho h1 h2 hm hM
        by_cases hT : M = 1099511627776
        · have e1 : KA = 4 := by rw [hka, if_pos (by exact hT)]
          have e2 : KD = 0 := by rw [hkd, if_neg (by omega)]
          have e3 : ma = 0 := han (by rw [e1]; decide)
          have e4 := hdl e2
          subst e1 e2 e3 e4
          have dT : (M == 1099511627776) = true := by simp [hT]
          have dL : decide (M < 1099511627776) = false := by simp; omega
          have dZ : (M == 0) = false := by simp; omega
          clear hka hkd hal hdl han hdn k5 hT
          obtain ⟨W5, hW5⟩ : ∃ z, withE x (f, t, M - 1) = z := ⟨_, rfl⟩
          rw [hW5] at k6 S3 HMD
          have HMD2 := Lib.hid HMD.out
          rw [HMD.out] at k6
          go_wp2_with (first
            | (go_at_call 15; refine (k3 _ _ SX.out).mono ?_; rintro e w8 ⟨rfl, hb8⟩; replace SX := Lib.hid (SX.out.below hb8); replace S2 := Lib.hid (S2.out.below hb8); replace S3 := Lib.hid (S3.out.below hb8); replace B := Lib.hid (below_step B.out hb8); clear hb8)
            | (go_at_call 20; refine (k4 _ _ SX.out).mono ?_; rintro e w4 ⟨rfl, rfl⟩)
            | (go_at_call 25; refine (k6 _ _ SX.out).mono ?_; rintro e w5 ⟨v5, rfl, hown, hb5⟩; obtain ⟨a5, c5, rfl, hE⟩ := edsO (by rw [HMD2.out]; exact hown); rw [HMD2.out] at hE ⊢; have S5 := Lib.hid hE; replace SX := Lib.hid (SX.out.below hb5); replace S2 := Lib.hid (S2.out.below hb5); replace S3 := Lib.hid (S3.out.below hb5); replace B := Lib.hid (below_step B.out hb5); clear hown hb5 hE)
            | (go_at_call 24; refine (refsame_any _ _ _ _ _ S3.out S5.out).mono ?_; rintro e w6 ⟨rfl, hb6⟩; rw [decide_eq_true rfl]; replace SX := Lib.hid (SX.out.below hb6); replace B := Lib.hid (below_step B.out hb6); clear hb6)
            | (go_at_call 16; refine (eawake_any _).mono ?_; rintro e w9 ⟨rfl, hb9⟩; replace B := Lib.hid (below_step B.out hb9); clear hb9))
          go_ret
          exact ⟨rfl, B.out⟩
        · have e1 : KA = 0 := by rw [hka, if_neg (by exact hT)]
          have e3 := hal e1
          subst e1 e3
          have dT : (M == 1099511627776) = false := by simp [hT]
          have dL : M < 1099511627776 := by omega
          clear hka hal han hT
          obtain ⟨W4, hW4⟩ : ∃ z, withE x (f, t, M + 1) = z := ⟨_, rfl⟩
          rw [hW4] at k5 S2 HMA
          rw [HMA.out] at k5
          by_cases hZ : M = 0
          · have e2 : KD = 2 := by rw [hkd, if_pos hZ]
            have e4 : md = 0 := hdn (by rw [e2]; decide)
            subst e2 e4
            have dZ : (M == 0) = true := by simp [hZ]
            clear hkd hdl hdn hZ k6
            go_wp2_with (first
              | (go_at_call 15; refine (k3 _ _ SX.out).mono ?_; rintro e w8 ⟨rfl, hb8⟩; replace SX := Lib.hid (SX.out.below hb8); replace S2 := Lib.hid (S2.out.below hb8); replace S3 := Lib.hid (S3.out.below hb8); replace B := Lib.hid (below_step B.out hb8); clear hb8)
              | (go_at_call 20; refine (k4 _ _ SX.out).mono ?_; rintro e w4 ⟨rfl, rfl⟩)
              | (go_at_call 25; refine (k5 _ _ SX.out).mono ?_; rintro e w5 ⟨v5, rfl, hown, hb5⟩; obtain ⟨a5, c5, rfl, hE⟩ := edsO (by rw [HMA.out]; exact hown); rw [HMA.out] at hE ⊢; have S5 := Lib.hid hE; replace SX := Lib.hid (SX.out.below hb5); replace S2 := Lib.hid (S2.out.below hb5); replace S3 := Lib.hid (S3.out.below hb5); replace B := Lib.hid (below_step B.out hb5); clear hown hb5 hE)
              | (go_at_call 24; refine (refsame_any _ _ _ _ _ S2.out S5.out).mono ?_; rintro e w6 ⟨rfl, hb6⟩; rw [decide_eq_true rfl]; replace SX := Lib.hid (SX.out.below hb6); replace S3 := Lib.hid (S3.out.below hb6); replace B := Lib.hid (below_step B.out hb6); clear hb6)
              | (go_at_call 16; refine (eawake_any _).mono ?_; rintro e w9 ⟨rfl, hb9⟩; replace B := Lib.hid (below_step B.out hb9); clear hb9))
            go_ret
            exact ⟨rfl, B.out⟩
          · have e2 : KD = 0 := by rw [hkd, if_neg hZ]
            have e4 := hdl e2
            subst e2 e4
            have dZ : (M == 0) = false := by simp [hZ]
            clear hkd hdl hdn hZ
            obtain ⟨W5, hW5⟩ : ∃ z, withE x (f, t, M - 1) = z := ⟨_, rfl⟩
            rw [hW5] at k6 S3 HMD
            rw [HMD.out] at k6
            go_upto_region 9 with (first
              | (go_at_call 15; refine (k3 _ _ SX.out).mono ?_; rintro e w8 ⟨rfl, hb8⟩; replace SX := Lib.hid (SX.out.below hb8); replace S2 := Lib.hid (S2.out.below hb8); replace S3 := Lib.hid (S3.out.below hb8); replace B := Lib.hid (below_step B.out hb8); clear hb8)
              | (go_at_call 20; refine (k4 _ _ SX.out).mono ?_; rintro e w4 ⟨rfl, rfl⟩)
              | (go_at_call 25; refine (k5 _ _ SX.out).mono ?_; rintro e w5 ⟨v5, rfl, hown, hb5⟩; obtain ⟨a5, c5, rfl, hE⟩ := edsO (by rw [HMA.out]; exact hown); rw [HMA.out] at hE ⊢; have S5 := Lib.hid hE; replace SX := Lib.hid (SX.out.below hb5); replace S2 := Lib.hid (S2.out.below hb5); replace S3 := Lib.hid (S3.out.below hb5); replace B := Lib.hid (below_step B.out hb5); clear hown hb5 hE)
              | (go_at_call 24; refine (refsame_any _ _ _ _ _ S2.out S5.out).mono ?_; rintro e w6 ⟨rfl, hb6⟩; rw [decide_eq_true rfl]; replace SX := Lib.hid (SX.out.below hb6); replace S3 := Lib.hid (S3.out.below hb6); replace B := Lib.hid (below_step B.out hb6); clear hb6))
            clear S5
            go_wp2_with (first
              | (go_at_call 25; refine (k6 _ _ SX.out).mono ?_; rintro e w5 ⟨v5, rfl, hown, hb5⟩; obtain ⟨a5, c5, rfl, hE⟩ := edsO (by rw [HMD.out]; exact hown); rw [HMD.out] at hE ⊢; have S5 := Lib.hid hE; replace SX := Lib.hid (SX.out.below hb5); replace S3 := Lib.hid (S3.out.below hb5); replace B := Lib.hid (below_step B.out hb5); clear hown hb5 hE)
              | (go_at_call 24; refine (refsame_any _ _ _ _ _ S3.out S5.out).mono ?_; rintro e w6 ⟨rfl, hb6⟩; rw [decide_eq_true rfl]; replace SX := Lib.hid (SX.out.below hb6); replace B := Lib.hid (below_step B.out hb6); clear hb6)
              | (go_at_call 16; refine (eawake_any _).mono ?_; rintro e w9 ⟨rfl, hb9⟩; replace B := Lib.hid (below_step B.out hb9); clear hb9))
            go_ret
            exact ⟨rfl, B.out⟩

theorem own : ownKnob Try.prog.godebug = none := by kernel_rfl
theorem laidOut : laidOutB Try.prog = true := by kernel_rfl

set_option maxRecDepth 100000 in
theorem lifted (os : Os) (started : os.Started) (H : Type) (enc : TypeId × Value → H) :
    ReturnsInHanded {} Try.checked os 4 .any (Rows.edgesChangeSpec.pre6 enc Try.prog Try.f4 Rows.edgesChangeRow.domain false) (Rows.edgesChangeSpec.post enc Try.prog Try.f4 false true false false) := by
  refine returnsInHanded_of_change (C := Try.checked) own started (by kernel_rfl) Try.func4
    (ChangeSpec.witness6 (enc := enc) (C := Try.checked) false ⟨#[], #[.slice none 0 0, .int .i64 0, .int .i64 0], []⟩ 8 (by kernel_rfl) (by kernel_rfl) (by kernel_rfl) (by kernel_rfl)) ?_
  intro W base args ds gs before hval0 hW hcnd _
  have hval : ∀ (j : Nat) t v, Try.f4.params[j]? = some t → args[j]? = some v → Value.okWide Try.prog W .any base t v := hval0
  have hW' := hW
  obtain ⟨p, q, hA0, hV, rfl, hfz, hnd⟩ := hW
  have hA : DataW.TrodAll enc Try.prog W 0 (fun _ => true) true Try.f4.params.toList args.toList ds p := hA0
  rw [Try.params4] at hA hval
  obtain ⟨v0, vs0, d0, ds0, p0, q0, hargs, rfl, rfl, h0, r0⟩ := trodAll_cons hA
  obtain ⟨v1, vs1, d1, ds1, p1, q1, rfl, rfl, rfl, h1, r1⟩ := trodAll_cons r0
  obtain ⟨v2, vs2, d2, ds2, p2, q2, rfl, rfl, rfl, h2, r2⟩ := trodAll_cons r1
  obtain ⟨rfl, rfl, rfl⟩ := trodAll_nil r2
  obtain rfl : args = #[v0, v1, v2] := by cases args; simp_all
  obtain ⟨rfl, rfl⟩ := trodVars_none hV
  obtain ⟨a0, len0, cap0, rfl⟩ := okWide_slice Try.underlying22 (hval 0 22 v0 rfl rfl)
  have k0 := h0
  have lt0 : ∀ x ∈ p0, x.block < W.heap.size := by obtain ⟨m, hm⟩ := k0; exact DataW.trod_lt m _ _ _ hm
  obtain ⟨z0, w0⟩ : ∃ zs, Eds W (.slice a0 len0 cap0) zs ∧ ∀ e ∈ zs, fitE e := by
    obtain ⟨fuel, hf⟩ := h0
    exact eds_open (by simpa [Value.cells] using hf)
  obtain ⟨a1, rfl, rfl, rfl, w1⟩ := open_int Try.underlying3 (hval 1 3 v1 rfl rfl) h1
  obtain ⟨a2, rfl, rfl, rfl, w2⟩ := open_int Try.underlying3 (hval 2 3 v2 rfl rfl) h2
  clear hA0 hval0
  refine (walk _ z0 a1 a2 W w0 w1 w2).mono fun e W' ⟨he, bel⟩ => ?_
  subst he
  exact ⟨_, rfl, _, _, _, [], _, [], hW', trodAll_mk1 (shut_bool Try.underlying4 _), (trodAll_cons_mk (Below.trod laidOut (by kernel_rfl) (of_decide_eq_true (by kernel_rfl)) k0 bel lt0) (trodAll_cons_mk (shut_int Try.underlying3 w1) (trodAll_cons_mk (shut_int Try.underlying3 w2) trodAll_mk0))), rfl, bel.frame _, fun h => by cases h⟩

-- the given statement
theorem proved : Rows.EdgesChangeSaid :=
  OpenClaim.holds_of_wide 4 Try.f4 rfl rfl rfl rfl rfl rfl rfl ⟨rfl, rfl, rfl, rfl, rfl⟩ rfl rfl rfl rfl rfl (by kernel_rfl) Try.func4 (by kernel_rfl)
    (of_decide_eq_true (by kernel_rfl)) (by unfold Func.isWrapper; first | (rw [if_pos (by decide +kernel)]; kernel_rfl) | (rw [if_neg (by decide +kernel)]; exact ⟨rfl, rfl⟩))
    (fun os started H enc _ => lifted os started H enc)
end Go.Proofs.Ytpbhngneciiaaaa.edgesChange
