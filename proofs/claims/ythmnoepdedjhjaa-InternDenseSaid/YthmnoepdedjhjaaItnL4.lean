/- Of every list of nodes (no more, and no longer, than are looked at): numbers are from 0 on, one behind the other; of so many different nodes there are as many; no condition. -/
import Derived.Test.YthmnoepdedjhjaaRows
import Derived.Test.YthmnoepdedjhjaaItnV
import Derived.Test.YthmnoepdedjhjaaNodS
import Derived.ProofKit
import Derived.OpenShut
import Derived.ShutString
import Derived.ChangeOld
namespace Go.Proofs.Ythmnoepdedjhjaa.internDense
open Go.ChangeShapes Go.WideShapes Go.ChangeAt Go.RowKit
open Go.ChangeMaps (open_string shut_string)
set_option maxRecDepth 100000
set_option linter.unusedVariables false

set_option maxRecDepth 100000 in
set_option maxHeartbeats 3200000 in
theorem walk (U : Value) (l : List Nd) (w : World) (hU : Nds w U l ∧ ∀ n ∈ l, fitsN n) :
    Calls Try.prog 6 #[U] w fun e w' => e = .returned (.bool true) ∧ Below w.heap.size w w' := by
  obtain ⟨hU, fU⟩ := hU
  obtain ⟨ua, uc, rfl, -⟩ := hU.ex
  have k0 := fun U w h => nfew_any U l w h fU
  have slx := fewNs_len l
  have smx := fewNs_small l
  obtain ⟨x, hx⟩ : ∃ x, fewNs l = x := ⟨_, rfl⟩
  obtain ⟨ll, hll⟩ : ∃ ll, l.length = ll := ⟨_, rfl⟩
  rw [hll] at hU ⊢
  rw [hx] at k0 slx smx
  obtain ⟨k, hk⟩ : ∃ k, x.length = k := ⟨_, rfl⟩
  rw [hk] at k0 slx
  have HK := Lib.hid hk; have SM := Lib.hid smx; have B := Lib.hid (Below.refl w.heap.size w); have SU := Lib.hid hU
  clear hk smx hU hx hll fU
  have k3 := fun U w h => iall_any (.slice none 0 0) U [] x w (nds_none w) h (fun n hn => by cases hn) SM.out (by simp) (by rw [HK.out]; omega)
  obtain ⟨on, hon⟩ : ∃ o, x.all okN = o := ⟨_, rfl⟩
  cases on
  · rw [allM_n hon] at k3
    simp only [List.length_nil] at k3
    clear hon
    go_enter Try.func6, Try.ntmps6
    go_upto_region 3 with (first
      | (go_at_call 21; refine (k0 _ _ SU.out).mono ?_; rintro e w1 ⟨a1, c1, rfl, hN, hb1⟩; have SX := Lib.hid hN; replace B := Lib.hid (below_step B.out hb1); clear hb1 hN k0)
      | (go_at_call 22; refine (k3 _ _ SX.out).mono ?_; rintro e w2 ⟨vi, vn, rfl, hri, hrn, hb2⟩; obtain ⟨aI, cI, rfl, -⟩ := intsO (l := []) hri; obtain ⟨aN, cN, rfl, -⟩ := ndsO (ns := []) hrn; replace B := Lib.hid (below_step B.out hb2); clear hb2 hri hrn k3))
    obtain ⟨W3, g3, hW3, hg3, e0, hb3⟩ := boxM w2 (.slice aN 0 cN) 24
    rw [hW3, hg3]
    replace B := Lib.hid (below_step B.out hb3)
    clear hW3 hg3 hb3
    go_wp2_with (go_at_call 16; refine (iawake_any _).mono ?_; rintro e w9 ⟨rfl, hb9⟩; replace B := Lib.hid (below_step B.out hb9); clear hb9)
    go_ret
    exact ⟨rfl, B.out⟩
  · have hok := List.all_eq_true.1 hon
    rw [allM_yes rfl hon] at k3
    simp only at k3
    have hil := idsM_len [] x
    have hga := fun t (ht : t < x.length) => idsM_getD x [] t ht
    have hst := names_set_len hok
    have kset := fun U w h => refnset_any U x w h SM.out hok (by rw [HK.out]; omega)
    obtain ⟨I, hI⟩ : ∃ I, idsM [] x = I := ⟨_, rfl⟩
    obtain ⟨X, hX⟩ : ∃ X, namesM [] x = X := ⟨_, rfl⟩
    rw [hI] at hil hga
    rw [HK.out] at hil
    rw [hI, hX, hil] at k3
    obtain ⟨kk, hkk⟩ : ∃ kk, X.length = kk := ⟨_, rfl⟩
    rw [hkk] at k3
    rw [hst, hX, hkk] at kset
    have HI := Lib.hid hil; have HX := Lib.hid hX; have HKK := Lib.hid hkk; have HGA := Lib.hid hga
    clear hon hok hil hga hst hI hX hkk
    go_enter Try.func6, Try.ntmps6
    go_upto_region 3 with (first
      | (go_at_call 21; refine (k0 _ _ SU.out).mono ?_; rintro e w1 ⟨a1, c1, rfl, hN, hb1⟩; have SX := Lib.hid hN; replace B := Lib.hid (below_step B.out hb1); clear hb1 hN k0)
      | (go_at_call 22; refine (k3 _ _ SX.out).mono ?_; rintro e w2 ⟨vi, vn, rfl, hri, hrn, hb2⟩; obtain ⟨aI, cI, rfl, hI2⟩ := intsO (by rw [HI.out]; exact hri); obtain ⟨aN, cN, rfl, -⟩ := ndsO (by rw [HKK.out]; exact hrn); rw [HKK.out]; rw [HI.out] at hI2 ⊢; have SI := Lib.hid hI2; replace SX := Lib.hid (SX.out.below hb2); replace B := Lib.hid (below_step B.out hb2); clear hb2 hri hrn hI2 k3))
    obtain ⟨W3, g3, hW3, hg3, e0, hb3⟩ := boxM w2 (.slice aN kk cN) 24
    rw [hW3, hg3]
    replace SI := Lib.hid (ints_belowB SI.out hb3); replace SX := Lib.hid (SX.out.below hb3); replace B := Lib.hid (below_step B.out hb3)
    clear hW3 hg3 hb3
    go_wp2
    go_loopw [6, 7] (fun v6 i wr => ∃ t nx q : Nat, t ≤ k ∧ nx ≤ t ∧ v6 = .int .i64 nx ∧ i = .int .i64 t ∧ wr = W3.drewN q ∧ Hid ((namesM [] (x.take t)).length = nx)) (fun _ i _ => k - (intOf i).toNat)
    case atStart => exact ⟨0, 0, 0, Nat.zero_le _, Nat.le_refl _, rfl, rfl, rfl, Lib.hid rfl⟩
    case round =>
      obtain ⟨t, nx, q, ht, hnt, rfl, rfl, rfl, HN⟩ := hrel
      by_cases hlt : t < k
      · have htx : t < x.length := by rw [HK.out]; exact hlt
        obtain ⟨bI, oI, rfl⟩ := SI.out.some (by omega)
        have hc := SI.out.cell t hlt
        rw [ids_z] at hc
        have hga := HGA.out t htx
        have hle := ixN_le (namesM [] (x.take t)) (x.getD t ([], []))
        have hln := addM_len_ix (namesM [] (x.take t)) (x.getD t ([], []))
        rw [← namesM_snoc, ← nd_take htx] at hln
        rw [← hga, HN.out] at hle hln
        obtain ⟨J, hJ⟩ : ∃ J, I.getD t 0 = J := ⟨_, rfl⟩
        rw [hJ] at hle hln hc
        have HLN := Lib.hid hln
        clear hJ hga hln
        have hkb : (t : Int) < (k : Int) := by omega
        have hj0 : ¬ (J : Int) < 0 := by omega
        have hj1 : ¬ (nx : Int) < (J : Int) := by omega
        by_cases hJ : J = nx
        · have HL2 : Hid ((namesM [] (x.take (t + 1))).length = nx + 1) := Lib.hid (by rw [HLN.out, if_pos hJ])
          have hjb : ((J : Int) == (nx : Int)) = true := by simp; omega
          clear hJ
          go_wp2
          go_roundw
          case rel => exact ⟨t + 1, nx + 1, q, by omega, by omega, by go_num, by go_num, rfl, HL2⟩
          case measure => simp [intOf]; omega
        · have HL2 : Hid ((namesM [] (x.take (t + 1))).length = nx) := Lib.hid (by rw [HLN.out, if_neg hJ])
          have hjb : ((J : Int) == (nx : Int)) = false := by simp; omega
          clear hJ
          go_wp2
          go_roundw
          case rel => exact ⟨t + 1, nx, q, by omega, by omega, rfl, by go_num, rfl, HL2⟩
          case measure => simp [intOf]; omega
      · have hx := HN.out
        rw [List.take_of_length_le (by rw [HK.out]; omega), HX.out, HKK.out] at hx
        subst hx
        obtain ⟨W4, hW4⟩ : ∃ W4, W3.drewN q = W4 := ⟨_, rfl⟩
        have hbq : Below W3.heap.size W3 W4 := by rw [← hW4]; exact below_q ⟨q, rfl⟩
        rw [hW4]
        replace SX := Lib.hid (SX.out.below hbq); replace e0 := cell_keep e0 hbq; replace B := Lib.hid (below_step B.out hbq)
        clear hW4 hbq
        go_wp2_with (first
          | (go_at_call 23; refine (kset _ _ SX.out).mono ?_; rintro e w8 ⟨a8, c8, rfl, -, hb8⟩; replace B := Lib.hid (below_step B.out hb8); clear hb8 kset)
          | (go_at_call 16; refine (iawake_any _).mono ?_; rintro e w9 ⟨rfl, hb9⟩; replace B := Lib.hid (below_step B.out hb9); clear hb9))
        go_ret
        exact ⟨rfl, B.out⟩

theorem own : ownKnob Try.prog.godebug = none := by kernel_rfl
theorem laidOut : laidOutB Try.prog = true := by kernel_rfl

set_option maxRecDepth 100000 in
theorem lifted (os : Os) (started : os.Started) (H : Type) (enc : TypeId × Value → H) :
    ReturnsInHanded {} Try.checked os 6 .any (Rows.internDenseSpec.pre6 enc Try.prog Try.f6 Rows.internDenseRow.domain false) (Rows.internDenseSpec.post enc Try.prog Try.f6 false true false false) := by
  refine returnsInHanded_of_change (C := Try.checked) own started (by kernel_rfl) Try.func6
    (ChangeSpec.witness6 (enc := enc) (C := Try.checked) false ⟨#[], #[.slice none 0 0], []⟩ 8 (by kernel_rfl) (by kernel_rfl) (by kernel_rfl) (by kernel_rfl)) ?_
  intro W base args ds gs before hval0 hW hcnd _
  have hval : ∀ (j : Nat) t v, Try.f6.params[j]? = some t → args[j]? = some v → Value.okWide Try.prog W .any base t v := hval0
  have hW' := hW
  obtain ⟨p, q, hA0, hV, rfl, hfz, hnd⟩ := hW
  have hA : DataW.TrodAll enc Try.prog W 0 (fun _ => true) true Try.f6.params.toList args.toList ds p := hA0
  rw [Try.params6] at hA hval
  obtain ⟨v0, vs0, d0, ds0, p0, q0, hargs, rfl, rfl, h0, r0⟩ := trodAll_cons hA
  obtain ⟨rfl, rfl, rfl⟩ := trodAll_nil r0
  obtain rfl : args = #[v0] := by cases args; simp_all
  obtain ⟨rfl, rfl⟩ := trodVars_none hV
  obtain ⟨a0, len0, cap0, rfl⟩ := okWide_slice Try.underlying22 (hval 0 22 v0 rfl rfl)
  have k0 := h0
  have lt0 : ∀ x ∈ p0, x.block < W.heap.size := by obtain ⟨m, hm⟩ := k0; exact DataW.trod_lt m _ _ _ hm
  obtain ⟨z0, w0⟩ : ∃ zs, Nds W (.slice a0 len0 cap0) zs ∧ ∀ n ∈ zs, fitsN n := by
    obtain ⟨fuel, hf⟩ := h0
    exact nds_open (by simpa [Value.cells] using hf)
  clear hA0 hval0
  refine (walk _ z0 W w0).mono fun e W' ⟨he, bel⟩ => ?_
  subst he
  exact ⟨_, rfl, _, _, _, [], _, [], hW', trodAll_mk1 (shut_bool Try.underlying4 _), (trodAll_cons_mk (Below.trod laidOut (by kernel_rfl) (of_decide_eq_true (by kernel_rfl)) k0 bel lt0) trodAll_mk0), rfl, bel.frame _, fun h => by cases h⟩

-- the given statement
theorem proved : Rows.InternDenseSaid :=
  OpenClaim.holds_of_wide 6 Try.f6 rfl rfl rfl rfl rfl rfl rfl ⟨rfl, rfl, rfl, rfl, rfl⟩ rfl rfl rfl rfl rfl (by kernel_rfl) Try.func6 (by kernel_rfl)
    (of_decide_eq_true (by kernel_rfl)) (by unfold Func.isWrapper; first | (rw [if_pos (by decide +kernel)]; kernel_rfl) | (rw [if_neg (by decide +kernel)]; exact ⟨rfl, rfl⟩))
    (fun os started H enc _ => lifted os started H enc)
end Go.Proofs.Ythmnoepdedjhjaa.internDense
