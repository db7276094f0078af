/- Of every edges (no more than are looked at) and every pair: Check, Many, Next, Back and Ends answer as the document says, errors too; no condition. -/
import Derived.Test.YtpbhngneciiaaaaRows
import Derived.Test.YtpbhngneciiaaaaEdgN
import Derived.ProofKit
import Derived.OpenShut
import Derived.ShutString
import Derived.ChangeOld
namespace Go.Proofs.Ytpbhngneciiaaaa.edgesTells
open Go.ChangeShapes Go.WideShapes Go.ChangeAt Go.RowKit
open Go.ChangeMaps (open_string shut_string)
set_option maxRecDepth 100000
set_option linter.unusedVariables false

set_option maxRecDepth 100000 in
set_option maxHeartbeats 6400000 in
theorem walk (U : Value) (l : List Ed) (f t : Int) (w : World) (hU : Eds w U l ∧ ∀ e ∈ l, fitE e) (hf : (Lit.int .i64 f).wf = true) (ht : (Lit.int .i64 t).wf = true) :
    Calls Try.prog 3 #[U, .int .i64 f, .int .i64 t] w fun e w' => e = .returned (.bool true) ∧ Below w.heap.size w w' := by
  obtain ⟨hU, fU⟩ := hU
  obtain ⟨ua, uc, rfl, -⟩ := hU.ex
  have k0 := fun V w h => efew_any V l w h
  have hx40 := fewE_len l
  obtain ⟨x, hx⟩ : ∃ x, fewE l = x := ⟨_, rfl⟩
  have fX : ∀ e ∈ x, fitE e := by rw [← hx]; exact fun e he => fU e (List.mem_of_mem_take he)
  obtain ⟨n, hn⟩ : ∃ n, x.length = n := ⟨_, rfl⟩
  rw [hx] at k0 hx40
  rw [hn] at k0 hx40
  obtain ⟨ln, hln⟩ : ∃ ln, l.length = ln := ⟨_, rfl⟩
  rw [hln] at hU ⊢
  have hsm : x.length ≤ 1000000 := by rw [hn]; omega
  have SU := Lib.hid hU; have HN := Lib.hid hn; have B := Lib.hid (Below.refl w.heap.size w); have FX := Lib.hid fX; have HSM := Lib.hid hsm
  clear hU hx hn hln fU fX hsm
  have k1 := fun V w h => many_any V x f t w h HSM.out
  have k2 := fun V w h => next_any V x f w h HSM.out
  have k3 := fun V w h => back_any V x t w h HSM.out
  have k4 := fun V w h => ends_any V x w h HSM.out FX.out
  have k5 := fun V w h => check_any V x w h
  have k6 := fun V w h => refmay_any V x w h
  obtain ⟨M, hM⟩ : ∃ z, manyV x f t = z := ⟨_, rfl⟩
  rw [hM] at k1
  obtain ⟨KM, hKM⟩ : ∃ z, manyK x f t = z := ⟨_, rfl⟩
  rw [hKM] at k1
  obtain ⟨Nx, hNx⟩ : ∃ z, nextL x f = z := ⟨_, rfl⟩
  rw [hNx] at k2
  obtain ⟨KN, hKN⟩ : ∃ z, nextK x f = z := ⟨_, rfl⟩
  rw [hKN] at k2
  obtain ⟨mn, hmn⟩ : ∃ z, Nx.length = z := ⟨_, rfl⟩
  rw [hmn] at k2
  obtain ⟨Bk, hBk⟩ : ∃ z, backL x t = z := ⟨_, rfl⟩
  rw [hBk] at k3
  obtain ⟨KB, hKB⟩ : ∃ z, backK x t = z := ⟨_, rfl⟩
  rw [hKB] at k3
  obtain ⟨mb, hmb⟩ : ∃ z, Bk.length = z := ⟨_, rfl⟩
  rw [hmb] at k3
  obtain ⟨EV, hEV⟩ : ∃ z, endsV x = z := ⟨_, rfl⟩
  rw [hEV] at k4
  obtain ⟨KC, hKC⟩ : ∃ z, chkE x = z := ⟨_, rfl⟩
  rw [hKC] at k4 k5
  have ln1 := nextL_len x f
  have ln2 := backL_len x t
  rw [hNx, hmn, HN.out] at ln1
  rw [hBk, hmb, HN.out] at ln2
  have HMN := Lib.hid hmn; have HMB := Lib.hid hmb
  clear hf ht
  go_enter Try.func3, Try.ntmps3
  go_upto_region 2 with (go_at_call 9; refine (k0 _ _ SU.out).mono ?_; rintro e w1 ⟨a1, c1, rfl, hN, rfl⟩; have SX := Lib.hid hN; clear hN k0)
  go_upto_region 3 with (go_at_call 10; refine (k1 _ _ SX.out).mono ?_; rintro e w2 ⟨rfl, hb2⟩; replace SX := Lib.hid (SX.out.below hb2); replace B := Lib.hid (below_step B.out hb2); clear hb2 k1)
  go_upto_region 4 with (go_at_call 11; refine (k2 _ _ SX.out).mono ?_; rintro e w3 ⟨v3, rfl, hown, hb3⟩; obtain ⟨a3, c3, rfl, hE⟩ := intsZ (by rw [HMN.out]; exact hown); rw [HMN.out] at hE ⊢; have I3 := Lib.hid hE; replace SX := Lib.hid (SX.out.below hb3); replace B := Lib.hid (below_step B.out hb3); clear hown hb3 hE k2)
  go_upto_region 5 with (go_at_call 12; refine (k3 _ _ SX.out).mono ?_; rintro e w4 ⟨v4, rfl, hown, hb4⟩; obtain ⟨a4, c4, rfl, hE⟩ := intsZ (by rw [HMB.out]; exact hown); rw [HMB.out] at hE ⊢; have I4 := Lib.hid hE; replace SX := Lib.hid (SX.out.below hb4); replace I3 := Lib.hid (I3.out.belowB hb4); replace B := Lib.hid (below_step B.out hb4); clear hown hb4 hE k3)
  go_upto_region 6 with (go_at_call 13; refine (k4 _ _ SX.out).mono ?_; rintro e w5 ⟨rfl, hb5⟩; replace SX := Lib.hid (SX.out.below hb5); replace I3 := Lib.hid (I3.out.belowB hb5); replace I4 := Lib.hid (I4.out.belowB hb5); replace B := Lib.hid (below_step B.out hb5); clear hb5 k4)
  obtain ⟨o, ho⟩ : ∃ o, okE x = o := ⟨_, rfl⟩
  rw [ho] at k6
  cases o
  · have m1 : mayE x f t = false := by unfold mayE; rw [ho]; simp
    have m2 : mayE x f 0 = false := by unfold mayE; rw [ho]; simp
    have m3 : mayE x (-1) t = false := by unfold mayE; rw [ho]; simp
    have e1 : M = 0 := by rw [← hM]; unfold manyV; rw [m1]; rfl
    have e2 : KM = 1 := by rw [← hKM]; unfold manyK; rw [m1]; rfl
    have e3 : KN = 1 := by rw [← hKN]; unfold nextK; rw [m2]; rfl
    have e4 : KB = 1 := by rw [← hKB]; unfold backK; rw [m3]; rfl
    have e5 : mn = 0 := by rw [← hmn, ← hNx]; unfold nextL; rw [m2]; rfl
    have e6 : mb = 0 := by rw [← hmb, ← hBk]; unfold backL; rw [m3]; rfl
    have e7 : EV = 0 := by rw [← hEV]; unfold endsV; rw [ho]; rfl
    have e8 : KC = 1 := by rw [← hKC]; unfold chkE; rw [ho]; rfl
    clear hM hKM hNx hKN hmn hBk hKB hmb hEV hKC m1 m2 m3 ho
    subst e1 e2 e3 e4 e5 e6 e7 e8
    go_upto_region 8 with (first
      | (go_at_call 14; refine (k5 _ _ SX.out).mono ?_; rintro e w6 ⟨rfl, hb6⟩; replace SX := Lib.hid (SX.out.below hb6); replace I3 := Lib.hid (I3.out.belowB hb6); replace I4 := Lib.hid (I4.out.belowB hb6); replace B := Lib.hid (below_step B.out hb6); clear hb6)
      | (go_at_call 15; refine (k6 _ _ SX.out).mono ?_; rintro e w7 ⟨rfl, hb7⟩; replace SX := Lib.hid (SX.out.below hb7); replace I3 := Lib.hid (I3.out.belowB hb7); replace I4 := Lib.hid (I4.out.belowB hb7); replace B := Lib.hid (below_step B.out hb7); clear hb7))
    go_wp2_with (first
      | (go_at_call 15; refine (k6 _ _ SX.out).mono ?_; rintro e w7 ⟨rfl, hb7⟩; replace SX := Lib.hid (SX.out.below hb7); replace I3 := Lib.hid (I3.out.belowB hb7); replace I4 := Lib.hid (I4.out.belowB hb7); replace B := Lib.hid (below_step B.out hb7); clear hb7)
      | (go_at_call 16; refine (eawake_any _).mono ?_; rintro e w9 ⟨rfl, hb9⟩; replace B := Lib.hid (below_step B.out hb9); clear hb9))
    go_ret
    exact ⟨rfl, B.out⟩
  · have e7 : EV = (endsE x : Int) := by rw [← hEV]; unfold endsV; rw [ho]; rfl
    have e8 : KC = 0 := by rw [← hKC]; unfold chkE; rw [ho]; rfl
    have k8 := fun V w h => refends_any V x w h HSM.out
    rw [← e7] at k8
    clear hEV hKC e7
    subst e8
    go_upto_region 8 with (first
      | (go_at_call 14; refine (k5 _ _ SX.out).mono ?_; rintro e w6 ⟨rfl, hb6⟩; replace SX := Lib.hid (SX.out.below hb6); replace I3 := Lib.hid (I3.out.belowB hb6); replace I4 := Lib.hid (I4.out.belowB hb6); replace B := Lib.hid (below_step B.out hb6); clear hb6)
      | (go_at_call 15; refine (k6 _ _ SX.out).mono ?_; rintro e w7 ⟨rfl, hb7⟩; replace SX := Lib.hid (SX.out.below hb7); replace I3 := Lib.hid (I3.out.belowB hb7); replace I4 := Lib.hid (I4.out.belowB hb7); replace B := Lib.hid (below_step B.out hb7); clear hb7))
    go_upto_region 10 with (go_at_call 15; refine (k6 _ _ SX.out).mono ?_; rintro e w7 ⟨rfl, hb7⟩; replace SX := Lib.hid (SX.out.below hb7); replace I3 := Lib.hid (I3.out.belowB hb7); replace I4 := Lib.hid (I4.out.belowB hb7); replace B := Lib.hid (below_step B.out hb7); clear hb7)
    by_cases h1 : f < -1
    · have d1 : decide (f < -1) = true := by simp [h1]
      have d1b : decide (-1 ≤ f) = false := by simp; omega
      by_cases h2 : t < 0
      · have d2 : decide (t < 0) = true := by simp [h2]
        have d2b : decide (0 ≤ t) = false := by simp; omega
        have m1 : mayE x f t = false := by unfold mayE ableE; rw [d1b]; simp
        have m2 : mayE x f 0 = false := by unfold mayE ableE; rw [d1b]; simp
        have m3 : mayE x (-1) t = false := by unfold mayE ableE; rw [d2b]; simp
        have e1 : M = 0 := by rw [← hM]; unfold manyV; rw [m1]; rfl
        have e2 : KM = 1 := by rw [← hKM]; unfold manyK; rw [m1]; rfl
        have e3 : KN = 1 := by rw [← hKN]; unfold nextK; rw [m2]; rfl
        have e5 : mn = 0 := by rw [← hmn, ← hNx]; unfold nextL; rw [m2]; rfl
        have e4 : KB = 1 := by rw [← hKB]; unfold backK; rw [m3]; rfl
        have e6 : mb = 0 := by rw [← hmb, ← hBk]; unfold backL; rw [m3]; rfl
        clear hM hKM hNx hKN hmn hBk hKB hmb m1 m2 m3 ho h1 h2
        subst e1 e2 e3 e5 e4 e6
        go_upto_region 14 with fail
        go_wp2_with (first
          | (go_at_call 21; refine (k8 _ _ SX.out).mono ?_; rintro e w9 ⟨rfl, hb9⟩; replace SX := Lib.hid (SX.out.below hb9); replace I3 := Lib.hid (I3.out.belowB hb9); replace I4 := Lib.hid (I4.out.belowB hb9); replace B := Lib.hid (below_step B.out hb9); clear hb9)
          | (go_at_call 16; refine (eawake_any _).mono ?_; rintro e w9 ⟨rfl, hb9⟩; replace B := Lib.hid (below_step B.out hb9); clear hb9))
        go_ret
        exact ⟨rfl, B.out⟩
      · have d2 : decide (t < 0) = false := by simp [h2]
        have d2b : decide (0 ≤ t) = true := by simp; omega
        have m1 : mayE x f t = false := by unfold mayE ableE; rw [d1b]; simp
        have m2 : mayE x f 0 = false := by unfold mayE ableE; rw [d1b]; simp
        have m3 : mayE x (-1) t = true := mayE_of ho (by decide) (by omega)
        have e1 : M = 0 := by rw [← hM]; unfold manyV; rw [m1]; rfl
        have e2 : KM = 1 := by rw [← hKM]; unfold manyK; rw [m1]; rfl
        have e3 : KN = 1 := by rw [← hKN]; unfold nextK; rw [m2]; rfl
        have e5 : mn = 0 := by rw [← hmn, ← hNx]; unfold nextL; rw [m2]; rfl
        have e4 : KB = 0 := by rw [← hKB]; unfold backK; rw [m3]; rfl
        have e6 : backE x t = Bk := by rw [← hBk]; unfold backL; rw [m3]; rfl
        have k10 := fun V w h => refback_any V x t w h HSM.out
        rw [e6, hmb] at k10
        clear e6
        clear hM hKM hNx hKN hmn hBk hKB hmb m1 m2 m3 ho h1 h2
        subst e1 e2 e3 e5 e4
        go_upto_region 14 with (first
          | (go_at_call 19; refine (k10 _ _ SX.out).mono ?_; rintro e w8 ⟨v8, rfl, hown, hb8⟩; obtain ⟨a8, c8, rfl, hE⟩ := intsZ (by rw [HMB.out]; exact hown); rw [HMB.out] at hE ⊢; have I9 := Lib.hid hE; replace SX := Lib.hid (SX.out.below hb8); replace I3 := Lib.hid (I3.out.belowB hb8); replace I4 := Lib.hid (I4.out.belowB hb8); replace B := Lib.hid (below_step B.out hb8); clear hown hb8 hE)
          | (go_at_call 17; refine (refints_any _ _ _ _ _ (by first | exact I3.out | exact I4.out) (by first | exact I8.out | exact I9.out)).mono ?_; rintro e w9 ⟨rfl, hb9⟩; rw [decide_eq_true rfl]; replace SX := Lib.hid (SX.out.below hb9); replace I3 := Lib.hid (I3.out.belowB hb9); replace I4 := Lib.hid (I4.out.belowB hb9); replace B := Lib.hid (below_step B.out hb9); clear hb9; (first | clear I8 | clear I9)))
        go_wp2_with (first
          | (go_at_call 21; refine (k8 _ _ SX.out).mono ?_; rintro e w9 ⟨rfl, hb9⟩; replace SX := Lib.hid (SX.out.below hb9); replace I3 := Lib.hid (I3.out.belowB hb9); replace I4 := Lib.hid (I4.out.belowB hb9); replace B := Lib.hid (below_step B.out hb9); clear hb9)
          | (go_at_call 16; refine (eawake_any _).mono ?_; rintro e w9 ⟨rfl, hb9⟩; replace B := Lib.hid (below_step B.out hb9); clear hb9))
        go_ret
        exact ⟨rfl, B.out⟩
    · have d1 : decide (f < -1) = false := by simp [h1]
      have d1b : decide (-1 ≤ f) = true := by simp; omega
      by_cases h2 : t < 0
      · have d2 : decide (t < 0) = true := by simp [h2]
        have d2b : decide (0 ≤ t) = false := by simp; omega
        have m1 : mayE x f t = false := by unfold mayE ableE; rw [d2b]; simp
        have m2 : mayE x f 0 = true := mayE_of ho (by omega) (by decide)
        have m3 : mayE x (-1) t = false := by unfold mayE ableE; rw [d2b]; simp
        have e1 : M = 0 := by rw [← hM]; unfold manyV; rw [m1]; rfl
        have e2 : KM = 1 := by rw [← hKM]; unfold manyK; rw [m1]; rfl
        have e3 : KN = 0 := by rw [← hKN]; unfold nextK; rw [m2]; rfl
        have e5 : nextE x f = Nx := by rw [← hNx]; unfold nextL; rw [m2]; rfl
        have k9 := fun V w h => refnext_any V x f w h HSM.out
        rw [e5, hmn] at k9
        clear e5
        have e4 : KB = 1 := by rw [← hKB]; unfold backK; rw [m3]; rfl
        have e6 : mb = 0 := by rw [← hmb, ← hBk]; unfold backL; rw [m3]; rfl
        clear hM hKM hNx hKN hmn hBk hKB hmb m1 m2 m3 ho h1 h2
        subst e1 e2 e3 e4 e6
        go_upto_region 14 with (first
          | (go_at_call 18; refine (k9 _ _ SX.out).mono ?_; rintro e w8 ⟨v8, rfl, hown, hb8⟩; obtain ⟨a8, c8, rfl, hE⟩ := intsZ (by rw [HMN.out]; exact hown); rw [HMN.out] at hE ⊢; have I8 := Lib.hid hE; replace SX := Lib.hid (SX.out.below hb8); replace I3 := Lib.hid (I3.out.belowB hb8); replace I4 := Lib.hid (I4.out.belowB hb8); replace B := Lib.hid (below_step B.out hb8); clear hown hb8 hE)
          | (go_at_call 17; refine (refints_any _ _ _ _ _ (by first | exact I3.out | exact I4.out) (by first | exact I8.out | exact I9.out)).mono ?_; rintro e w9 ⟨rfl, hb9⟩; rw [decide_eq_true rfl]; replace SX := Lib.hid (SX.out.below hb9); replace I3 := Lib.hid (I3.out.belowB hb9); replace I4 := Lib.hid (I4.out.belowB hb9); replace B := Lib.hid (below_step B.out hb9); clear hb9; (first | clear I8 | clear I9)))
        go_wp2_with (first
          | (go_at_call 21; refine (k8 _ _ SX.out).mono ?_; rintro e w9 ⟨rfl, hb9⟩; replace SX := Lib.hid (SX.out.below hb9); replace I3 := Lib.hid (I3.out.belowB hb9); replace I4 := Lib.hid (I4.out.belowB hb9); replace B := Lib.hid (below_step B.out hb9); clear hb9)
          | (go_at_call 16; refine (eawake_any _).mono ?_; rintro e w9 ⟨rfl, hb9⟩; replace B := Lib.hid (below_step B.out hb9); clear hb9))
        go_ret
        exact ⟨rfl, B.out⟩
      · have d2 : decide (t < 0) = false := by simp [h2]
        have d2b : decide (0 ≤ t) = true := by simp; omega
        have m1 : mayE x f t = true := mayE_of ho (by omega) (by omega)
        have m2 : mayE x f 0 = true := mayE_of ho (by omega) (by decide)
        have m3 : mayE x (-1) t = true := mayE_of ho (by decide) (by omega)
        have e1 : M = manyE x f t := by rw [← hM]; unfold manyV; rw [m1]; rfl
        have e2 : KM = 0 := by rw [← hKM]; unfold manyK; rw [m1]; rfl
        have k7 := fun V w h => refmany_any V x f t w h ho
        rw [← e1] at k7
        clear e1
        have e3 : KN = 0 := by rw [← hKN]; unfold nextK; rw [m2]; rfl
        have e5 : nextE x f = Nx := by rw [← hNx]; unfold nextL; rw [m2]; rfl
        have k9 := fun V w h => refnext_any V x f w h HSM.out
        rw [e5, hmn] at k9
        clear e5
        have e4 : KB = 0 := by rw [← hKB]; unfold backK; rw [m3]; rfl
        have e6 : backE x t = Bk := by rw [← hBk]; unfold backL; rw [m3]; rfl
        have k10 := fun V w h => refback_any V x t w h HSM.out
        rw [e6, hmb] at k10
        clear e6
        clear hM hKM hNx hKN hmn hBk hKB hmb m1 m2 m3 ho h1 h2
        subst e2 e3 e4
        go_upto_region 14 with (first
          | (go_at_call 18; refine (k9 _ _ SX.out).mono ?_; rintro e w8 ⟨v8, rfl, hown, hb8⟩; obtain ⟨a8, c8, rfl, hE⟩ := intsZ (by rw [HMN.out]; exact hown); rw [HMN.out] at hE ⊢; have I8 := Lib.hid hE; replace SX := Lib.hid (SX.out.below hb8); replace I3 := Lib.hid (I3.out.belowB hb8); replace I4 := Lib.hid (I4.out.belowB hb8); replace B := Lib.hid (below_step B.out hb8); clear hown hb8 hE)
          | (go_at_call 19; refine (k10 _ _ SX.out).mono ?_; rintro e w8 ⟨v8, rfl, hown, hb8⟩; obtain ⟨a8, c8, rfl, hE⟩ := intsZ (by rw [HMB.out]; exact hown); rw [HMB.out] at hE ⊢; have I9 := Lib.hid hE; replace SX := Lib.hid (SX.out.below hb8); replace I3 := Lib.hid (I3.out.belowB hb8); replace I4 := Lib.hid (I4.out.belowB hb8); replace B := Lib.hid (below_step B.out hb8); clear hown hb8 hE)
          | (go_at_call 17; refine (refints_any _ _ _ _ _ (by first | exact I3.out | exact I4.out) (by first | exact I8.out | exact I9.out)).mono ?_; rintro e w9 ⟨rfl, hb9⟩; rw [decide_eq_true rfl]; replace SX := Lib.hid (SX.out.below hb9); replace I3 := Lib.hid (I3.out.belowB hb9); replace I4 := Lib.hid (I4.out.belowB hb9); replace B := Lib.hid (below_step B.out hb9); clear hb9; (first | clear I8 | clear I9)))
        go_wp2_with (first
          | (go_at_call 20; refine (k7 _ _ SX.out).mono ?_; rintro e w9 ⟨rfl, rfl⟩)
          | (go_at_call 21; refine (k8 _ _ SX.out).mono ?_; rintro e w9 ⟨rfl, hb9⟩; replace SX := Lib.hid (SX.out.below hb9); replace I3 := Lib.hid (I3.out.belowB hb9); replace I4 := Lib.hid (I4.out.belowB hb9); replace B := Lib.hid (below_step B.out hb9); clear hb9)
          | (go_at_call 16; refine (eawake_any _).mono ?_; rintro e w9 ⟨rfl, hb9⟩; replace B := Lib.hid (below_step B.out hb9); clear hb9))
        go_ret
        exact ⟨rfl, B.out⟩

theorem own : ownKnob Try.prog.godebug = none := by kernel_rfl
theorem laidOut : laidOutB Try.prog = true := by kernel_rfl

set_option maxRecDepth 100000 in
theorem lifted (os : Os) (started : os.Started) (H : Type) (enc : TypeId × Value → H) :
    ReturnsInHanded {} Try.checked os 3 .any (Rows.edgesTellsSpec.pre6 enc Try.prog Try.f3 Rows.edgesTellsRow.domain false) (Rows.edgesTellsSpec.post enc Try.prog Try.f3 false true false false) := by
  refine returnsInHanded_of_change (C := Try.checked) own started (by kernel_rfl) Try.func3
    (ChangeSpec.witness6 (enc := enc) (C := Try.checked) false ⟨#[], #[.slice none 0 0, .int .i64 0, .int .i64 0], []⟩ 8 (by kernel_rfl) (by kernel_rfl) (by kernel_rfl) (by kernel_rfl)) ?_
  intro W base args ds gs before hval0 hW hcnd _
  have hval : ∀ (j : Nat) t v, Try.f3.params[j]? = some t → args[j]? = some v → Value.okWide Try.prog W .any base t v := hval0
  have hW' := hW
  obtain ⟨p, q, hA0, hV, rfl, hfz, hnd⟩ := hW
  have hA : DataW.TrodAll enc Try.prog W 0 (fun _ => true) true Try.f3.params.toList args.toList ds p := hA0
  rw [Try.params3] at hA hval
  obtain ⟨v0, vs0, d0, ds0, p0, q0, hargs, rfl, rfl, h0, r0⟩ := trodAll_cons hA
  obtain ⟨v1, vs1, d1, ds1, p1, q1, rfl, rfl, rfl, h1, r1⟩ := trodAll_cons r0
  obtain ⟨v2, vs2, d2, ds2, p2, q2, rfl, rfl, rfl, h2, r2⟩ := trodAll_cons r1
  obtain ⟨rfl, rfl, rfl⟩ := trodAll_nil r2
  obtain rfl : args = #[v0, v1, v2] := by cases args; simp_all
  obtain ⟨rfl, rfl⟩ := trodVars_none hV
  obtain ⟨a0, len0, cap0, rfl⟩ := okWide_slice Try.underlying22 (hval 0 22 v0 rfl rfl)
  have k0 := h0
  have lt0 : ∀ x ∈ p0, x.block < W.heap.size := by obtain ⟨m, hm⟩ := k0; exact DataW.trod_lt m _ _ _ hm
  obtain ⟨z0, w0⟩ : ∃ zs, Eds W (.slice a0 len0 cap0) zs ∧ ∀ e ∈ zs, fitE e := by
    obtain ⟨fuel, hf⟩ := h0
    exact eds_open (by simpa [Value.cells] using hf)
  obtain ⟨a1, rfl, rfl, rfl, w1⟩ := open_int Try.underlying3 (hval 1 3 v1 rfl rfl) h1
  obtain ⟨a2, rfl, rfl, rfl, w2⟩ := open_int Try.underlying3 (hval 2 3 v2 rfl rfl) h2
  clear hA0 hval0
  refine (walk _ z0 a1 a2 W w0 w1 w2).mono fun e W' ⟨he, bel⟩ => ?_
  subst he
  exact ⟨_, rfl, _, _, _, [], _, [], hW', trodAll_mk1 (shut_bool Try.underlying4 _), (trodAll_cons_mk (Below.trod laidOut (by kernel_rfl) (of_decide_eq_true (by kernel_rfl)) k0 bel lt0) (trodAll_cons_mk (shut_int Try.underlying3 w1) (trodAll_cons_mk (shut_int Try.underlying3 w2) trodAll_mk0))), rfl, bel.frame _, fun h => by cases h⟩

-- the given statement
theorem proved : Rows.EdgesTellsSaid :=
  OpenClaim.holds_of_wide 3 Try.f3 rfl rfl rfl rfl rfl rfl rfl ⟨rfl, rfl, rfl, rfl, rfl⟩ rfl rfl rfl rfl rfl (by kernel_rfl) Try.func3 (by kernel_rfl)
    (of_decide_eq_true (by kernel_rfl)) (by unfold Func.isWrapper; first | (rw [if_pos (by decide +kernel)]; kernel_rfl) | (rw [if_neg (by decide +kernel)]; exact ⟨rfl, rfl⟩))
    (fun os started H enc _ => lifted os started H enc)
end Go.Proofs.Ytpbhngneciiaaaa.edgesTells
