/- Of every names and every list of nodes (no more, and no longer, than are looked at): all nodes' numbers, one by one, or why there are none, are as the document says; no condition. -/
import Derived.Test.YthmnoepdedjhjaaRows
import Derived.Test.YthmnoepdedjhjaaItnV
import Derived.Test.YthmnoepdedjhjaaRolN
import Derived.ProofKit
import Derived.OpenShut
import Derived.ShutString
import Derived.ChangeOld
namespace Go.Proofs.Ythmnoepdedjhjaa.internAll
open Go.ChangeShapes Go.WideShapes Go.ChangeAt Go.RowKit
open Go.ChangeMaps (open_string shut_string)
set_option maxRecDepth 100000
set_option linter.unusedVariables false

theorem Few2.far {w : World} {N k g : Nat} {x : List Nd} {a : Option Addr} {c : Nat} (h : w.ownsRow N 26 2 (.slice a k c) k (ndsC x)) (hk : x.length = k) (hg : g < N) (y : Value) : Nds (w.setCell ⟨g, 0, none⟩ y) (.slice a k c) x := Nds.owned (by rw [hk]; exact row_far1 h hg _)
theorem heap_off (w : World) {g i b : Nat} (h : b ≠ g) (y : Value) : (w.setCell ⟨g, i, none⟩ y).heap[b]? = w.heap[b]? := Below.heap_setCell w ⟨g, i, none⟩ y b h
/-- A slice of nodes whose block is another one stays. -/
theorem Nds.off {w : World} {a : Option Addr} {n c g i : Nat} {l : List Nd} (h : Nds w (.slice a n c) l) (ho : 0 < n → ∀ ad, a = some ad → ad.block ≠ g) (y : Value) : Nds (w.setCell ⟨g, i, none⟩ y) (.slice a n c) l := by
  obtain ⟨a', c', hv, h1, h2, hn, h3⟩ := h.ex
  injection hv with e1 e2 e3
  subst e1 e2 e3
  refine ⟨a, c, rfl, h1, h2, hn, fun hp => ?_⟩
  obtain ⟨b, off, ha, hlt, hc⟩ := h3 hp
  have hne : b ≠ g := ho hp _ ha
  have hcell : ∀ k, (w.setCell ⟨g, i, none⟩ y).cell? ⟨b, k, none⟩ = w.cell? ⟨b, k, none⟩ := fun k => by
    unfold World.cell?
    rw [heap_off w hne y]
  exact ⟨b, off, ha, by simp [World.setCell]; exact hlt, fun t ht => ⟨by rw [hcell]; exact (hc t ht).1, by rw [hcell]; exact (hc t ht).2⟩⟩
theorem own_off {w : World} {N k g : Nat} {a : Option Addr} {c size : Nat} {e : TypeId} {xs : List Value} (h : w.ownsRow N e size (.slice a k c) k xs) (hg : g < N) : 0 < k → ∀ ad, a = some ad → ad.block ≠ g := by
  intro hk ad e1 e2
  subst e1
  obtain ⟨h1, h2⟩ := h
  rcases h2 with h2 | ⟨b, cap, cur, hv, hb, -⟩
  · have := h2.2; omega
  · injection hv with hv
    injection hv with hv
    subst hv
    simp at e2
    omega
theorem nds_off {w : World} {a : Option Addr} {n c : Nat} {l : List Nd} (h : Nds w (.slice a n c) l) : 0 < n → ∀ ad, a = some ad → ad.block ≠ w.heap.size := by
  intro hp ad e1 e2
  obtain ⟨a', c', hv, h1, h2, hn, h3⟩ := h.ex
  injection hv with e3 e4 e5
  subst e3 e4 e5 e1
  obtain ⟨b, off, ha, hlt, -⟩ := h3 hp
  injection ha with ha
  subst ha
  simp at e2
  omega

set_option maxRecDepth 100000 in
set_option maxHeartbeats 6400000 in
theorem walk (M : Value) (m : List Nd) (U : Value) (l : List Nd) (w : World) (hM : (∃ V, M = .agg #[V] ∧ Nds w V m) ∧ ∀ n ∈ m, fitsN n) (hU : Nds w U l ∧ ∀ n ∈ l, fitsN n) :
    Calls Try.prog 4 #[M, U] w fun e w' => e = .returned (.bool true) ∧ Below w.heap.size w w' := by
  obtain ⟨⟨M0, rfl, hM⟩, fM⟩ := hM
  obtain ⟨hU, fU⟩ := hU
  obtain ⟨ma, mc, rfl, -⟩ := hM.ex
  obtain ⟨ua, uc, rfl, -⟩ := hU.ex
  obtain ⟨mm, hmm⟩ : ∃ ml, m.length = ml := ⟨_, rfl⟩
  obtain ⟨ll, hll⟩ : ∃ ml, l.length = ml := ⟨_, rfl⟩
  rw [hmm] at hM ⊢; rw [hll] at hU ⊢
  obtain ⟨W, g, hW, hg, hrow, hb⟩ : ∃ W g, w.alloc (.cells #[.slice ma mm mc] 24) = W ∧ w.heap.size = g ∧ W.heap[g]? = some (.cells #[.slice ma mm mc] 24 (0, 0)) ∧ Below w.heap.size w W := ⟨_, _, rfl, rfl, heap_alloc_new _ _, (Below.refl _ _).alloc (Nat.le_refl _) _⟩
  obtain ⟨d0, -⟩ := row1 hrow
  have k0 := fun U w h => ifew_any U m w h fM
  have k1 := fun U w h => nfewo_any U l w h fU
  have slx := fewNs_len m; have sly := fewNs_len l
  have smx := fewNs_small m; have smy := fewNs_small l
  obtain ⟨x, hx⟩ : ∃ x, fewNs m = x := ⟨_, rfl⟩
  obtain ⟨y, hy⟩ : ∃ x, fewNs l = x := ⟨_, rfl⟩
  rw [hx] at k0 slx smx; rw [hy] at k1 sly smy
  obtain ⟨i, hi⟩ : ∃ k, x.length = k := ⟨_, rfl⟩
  obtain ⟨j, hj⟩ : ∃ k, y.length = k := ⟨_, rfl⟩
  rw [hi] at k0 slx; rw [hj] at k1 sly
  have HI := Lib.hid hi; have HJ := Lib.hid hj; have SMX := Lib.hid smx; have SMY := Lib.hid smy; have B := Lib.hid hb; have SM := Lib.hid (hM.below hb); have SU := Lib.hid (hU.below hb); have HROW := Lib.hid hrow; have HG := Lib.hid hg; have HW := Lib.hid hW
  have HGN := Lib.hid (Array.getElem?_eq_some_iff.1 hrow).1
  clear hi hj smx smy hb hM hU hrow hg hW hx hy hmm hll fM fU
  have k3 := fun U U' w h h' => iall_any U U' x y w h h' SMX.out SMY.out (by rw [HI.out]; omega) (by rw [HJ.out]; omega)
  have kM := fun U w h => refimay_any U x w h SMX.out
  obtain ⟨F1, F2, F3, hF⟩ : ∃ F1 F2 F3, allM x y = (F1, F2, F3) := ⟨_, _, _, rfl⟩
  rw [hF] at k3
  simp only at k3
  obtain ⟨f1, hf1⟩ : ∃ k, F1.length = k := ⟨_, rfl⟩
  obtain ⟨f2, hf2⟩ : ∃ k, F2.length = k := ⟨_, rfl⟩
  rw [hf1, hf2] at k3
  obtain ⟨om, hom⟩ : ∃ o, okM x = o := ⟨_, rfl⟩
  rw [hom] at kM
  have HF := Lib.hid hF; have HF1 := Lib.hid hf1; have HF2 := Lib.hid hf2; have HOM := Lib.hid hom
  clear hF hf1 hf2 hom
  go_enter Try.func4, Try.ntmps4
  go_upto_region 1 with fail
  rw [HW.out, HG.out]
  go_upto_region 2 with (first
    | (go_at_call 8; refine (k0 _ _ SM.out).mono ?_; rintro e w1 ⟨vn, rfl, hown, hb1⟩; obtain ⟨aN, cN, rfl, -⟩ := ndsO (by rw [HI.out]; exact hown); rw [HI.out] at hown ⊢; have HX := Lib.hid hown; have HN1 := Lib.hid (Nat.lt_of_lt_of_le HGN.out hb1.size); replace B := Lib.hid (below_step B.out hb1); replace HROW := Lib.hid (row_keepB HROW.out hb1); replace SU := Lib.hid (SU.out.below hb1); clear hown hb1 k0 SM)
    | (go_at_call 21; refine (k1 _ _ SU.out).mono ?_; rintro e w2 ⟨vy, rfl, hown, hb1⟩; obtain ⟨aY, cY, rfl, -⟩ := ndsO (by rw [HJ.out]; exact hown); rw [HJ.out] at hown ⊢; have HY := Lib.hid hown; replace B := Lib.hid (below_step B.out hb1); replace HROW := Lib.hid (row_keepB HROW.out hb1); obtain ⟨q0, f0⟩ := row1 HROW.out; replace HX := Lib.hid (ownsRow_belowB HX.out hb1); clear hown hb1 k1 SU))
  obtain ⟨W4, hW4, d4, hx4, hy4, hb4⟩ : ∃ W4, w2.setCell ⟨g, 0, none⟩ (.slice aN i cN) = W4 ∧ W4.cell? ⟨g, 0, none⟩ = some (.slice aN i cN) ∧ Nds W4 (.slice aN i cN) x ∧ Nds W4 (.slice aY j cY) y ∧ Below w.heap.size w W4 :=
    ⟨_, rfl, (row1 (row1_set HROW.out _)).1, Few2.far HX.out HI.out HGN.out _, Few2.far HY.out HJ.out HN1.out _, B.out.setCell (Nat.le_of_eq HG.out) _⟩
  rw [hW4]
  have SX := Lib.hid hx4; have SY := Lib.hid hy4
  replace B := Lib.hid hb4
  clear hW4 hx4 hy4 hb4 q0 f0 HX HY HROW HG HW HGN HN1 d0
  go_upto_region 3 with (go_at_call 22; refine (k3 _ _ _ SX.out SY.out).mono ?_; rintro e w5 ⟨vi, vn, rfl, hri, hrn, hb5⟩; obtain ⟨aI, cI, rfl, hI5⟩ := intsO (by rw [HF1.out]; exact hri); obtain ⟨aP, cP, rfl, hP5⟩ := ndsO (by rw [HF2.out]; exact hrn); rw [HF1.out] at hI5 ⊢; rw [HF2.out] at hP5 ⊢; have SI := Lib.hid hI5; have SP := Lib.hid hP5; replace SX := Lib.hid (SX.out.below hb5); replace SY := Lib.hid (SY.out.below hb5); replace d4 := cell_keep d4 hb5; replace B := Lib.hid (below_step B.out hb5); clear hb5 hri hrn hI5 hP5 k3)
  obtain ⟨W6, g6, hW6, hg6, e6, hb6⟩ := boxM w5 (.slice aP f2 cP) 24
  rw [hW6, hg6]
  replace SX := Lib.hid (SX.out.below hb6); replace SY := Lib.hid (SY.out.below hb6); replace SI := Lib.hid (ints_belowB SI.out hb6); replace SP := Lib.hid (SP.out.below hb6); replace d4 := cell_keep d4 hb6; replace B := Lib.hid (below_step B.out hb6)
  clear hW6 hg6 hb6
  go_wp2_with (go_at_call 14; refine (kM _ _ SX.out).mono ?_; rintro e w7 ⟨rfl, hb7⟩; replace SX := Lib.hid (SX.out.below hb7); replace SY := Lib.hid (SY.out.below hb7); replace SI := Lib.hid (ints_belowB SI.out hb7); replace SP := Lib.hid (SP.out.below hb7); replace d4 := cell_keep d4 hb7; replace e6 := cell_keep e6 hb7; replace B := Lib.hid (below_step B.out hb7); clear hb7 kM)
  go_loopw [8, 9] (fun v8 v9 wr => ∃ (t : Nat) (o : Bool), t ≤ j ∧ v8 = .bool o ∧ v9 = .int .i64 t ∧ Hid ((om && (y.take t).all okN) = o) ∧ Hid (Below w7.heap.size w7 wr)) (fun _ v _ => j - (intOf v).toNat)
  case atStart => exact ⟨0, om, Nat.zero_le _, rfl, rfl, Lib.hid (by simp), Lib.hid (Below.refl _ _)⟩
  case round =>
    obtain ⟨t, o, ht, rfl, rfl, HO, HB⟩ := hrel
    by_cases hlt : t < j
    · have hkb : (t : Int) < (j : Int) := by omega
      have htY : t < y.length := by rw [HJ.out]; exact hlt
      obtain ⟨bY, oY, rfl, -, hy0, hy1⟩ := (SY.out.below HB.out).at t htY
      have hsm := SMY.out _ (nd_mem htY)
      have htk := nd_take htY
      obtain ⟨u, hu⟩ : ∃ u, u = y.getD t ([], []) := ⟨_, rfl⟩
      rw [← hu] at hy0 hy1 hsm htk
      obtain ⟨u1, u2⟩ := u
      simp only at hy0 hy1
      have hst : (om && (y.take (t + 1)).all okN) = (o && okN (u1, u2)) := by
        rw [htk, List.all_append, ← HO.out]
        simp [Bool.and_assoc]
      obtain ⟨o2, ho2⟩ : ∃ o, okN (u1, u2) = o := ⟨_, rfl⟩
      have k4 := fun w => refnmay_any u1 u2 w hsm.1 hsm.2
      rw [ho2] at hst k4
      have HST := Lib.hid hst
      clear hu hsm htk hst ho2
      cases o
      · simp only [Bool.false_and] at HST
        go_wp2
        go_roundw
        case rel => exact ⟨t + 1, false, by omega, rfl, by go_num, HST, HB⟩
        case measure => simp [intOf]; omega
      · simp only [Bool.true_and] at HST
        go_wp2_with (go_at_call 18; refine (k4 _).mono ?_; rintro e w8 ⟨rfl, hb8⟩; have HB2 := Lib.hid (below_step HB.out hb8); clear hb8)
        go_roundw
        case rel => exact ⟨t + 1, o2, by omega, rfl, by go_num, HST, HB2⟩
        case measure => simp [intOf]; omega
    · have ho := HO.out
      rw [List.take_of_length_le (by rw [HJ.out]; omega)] at ho
      replace SX := Lib.hid (SX.out.below HB.out); replace SY := Lib.hid (SY.out.below HB.out); replace SI := Lib.hid (ints_belowB SI.out HB.out); replace SP := Lib.hid (SP.out.below HB.out); replace d4 := cell_keep d4 HB.out; replace e6 := cell_keep e6 HB.out; replace B := Lib.hid (below_step B.out HB.out)
      clear HO HB
      cases o
      · have hF := HF.out
        unfold allM at hF
        rw [HOM.out, ho, if_neg Bool.false_ne_true] at hF
        injection hF with e1 e2
        injection e2 with e2 e3
        subst e1 e2 e3
        obtain rfl : f1 = 0 := HF1.out.symm
        obtain rfl : f2 = i := HF2.out.symm.trans HI.out
        have ks := fun U V w hu hv => isame_any U V x x w hu hv
        rw [decide_eq_true rfl] at ks
        go_wp2_with (first
          | (go_at_call 15; refine (ks _ _ _ SP.out SX.out).mono ?_; rintro e w12 ⟨rfl, hb12⟩; replace B := Lib.hid (below_step B.out hb12); clear hb12 ks)
          | (go_at_call 16; refine (iawake_any _).mono ?_; rintro e w9 ⟨rfl, hb9⟩; replace B := Lib.hid (below_step B.out hb9); clear hb9))
        go_ret
        exact ⟨rfl, B.out⟩
      · have hF := HF.out
        unfold allM at hF
        rw [HOM.out, ho, if_pos rfl] at hF
        injection hF with e1 e2
        injection e2 with e2 e3
        subst e3
        obtain rfl : j = f1 := by rw [← HF1.out, ← e1, idsM_len, HJ.out]
        have HE1 := Lib.hid e1; have HE2 := Lib.hid e2
        clear e1 e2 ho
        obtain ⟨w9, hw9⟩ : ∃ w9, w9 = wr := ⟨_, rfl⟩
        subst hw9
        go_upto_region 11 with fail
        obtain ⟨W10, g10, hW10, hg10, hrow10, hb10⟩ : ∃ W g, w9.alloc (.cells #[.slice aN i cN] 24) = W ∧ w9.heap.size = g ∧ W.heap[g]? = some (.cells #[.slice aN i cN] 24 (0, 0)) ∧ Below w9.heap.size w9 W := ⟨_, _, rfl, rfl, heap_alloc_new _ _, (Below.refl _ _).alloc (Nat.le_refl _) _⟩
        rw [hW10, hg10]
        have hoff := nds_off SX.out
        rw [hg10] at hoff
        have HOFF := Lib.hid hoff; have HR10 := Lib.hid hrow10; have HB10 := Lib.hid hb10; have HG10 := Lib.hid hg10; have SX10 := Lib.hid (SX.out.below hb10)
        clear hW10 hg10 hrow10 hb10 hoff
        have e4 : ∀ args w, (callFunc 19 args).run Try.prog w = .ok (.enter 19 args) w := enters_of Try.func19 (by kernel_rfl) rfl
        go_wp2
        go_loopw [11] (fun v wr => ∃ (t kK : Nat) (K : List Nd) (aK : Option Addr) (cK : Nat), t ≤ j ∧ kK ≤ i + t ∧ v = .int .i64 t ∧ Hid (K = namesM x (y.take t)) ∧ Hid (K.length = kK) ∧ Hid (Nds wr (.slice aK kK cK) K) ∧ Hid (0 < kK → ∀ ad, aK = some ad → ad.block ≠ g10) ∧ Hid (wr.heap[g10]? = some (.cells #[.slice aK kK cK] 24 (0, 0))) ∧ Hid (Below w9.heap.size w9 wr)) (fun v _ => j - (intOf v).toNat)
        case atStart => exact ⟨0, i, x, aN, cN, Nat.zero_le _, Nat.le_refl _, rfl, Lib.hid rfl, HI, SX10, HOFF, HR10, HB10⟩
        case round =>
          obtain ⟨t, kK, K, aK, cK, ht, hkK, rfl, HK, HKL, SK2, HOF, HRW, HB⟩ := hrel
          obtain ⟨q10, f10⟩ := row1 HRW.out
          by_cases hlt : t < j
          · have hkb : (t : Int) < (j : Int) := by omega
            have htY : t < y.length := by rw [HJ.out]; exact hlt
            obtain ⟨bY, oY, rfl, -, hy0, hy1⟩ := (SY.out.below HB.out).at t htY
            have htk := nd_take htY
            have hid := idsM_getD y x t htY
            rw [← HK.out, HE1.out] at hid
            obtain ⟨u, hu⟩ : ∃ u, u = y.getD t ([], []) := ⟨_, rfl⟩
            rw [← hu] at hy0 hy1 htk hid
            obtain ⟨u1, u2⟩ := u
            simp only at hy0 hy1
            have hnm : namesM x (y.take (t + 1)) = addM K (u1, u2) := by rw [htk, namesM_snoc, ← HK.out]
            obtain ⟨bI, oI, rfl⟩ := SI.out.some (by omega)
            have hcI := (ints_belowB SI.out HB.out).cell t hlt
            rw [ids_z, hid] at hcI
            have k5 := fun U w h => refiid_two U K u1 u2 w h (by rw [HKL.out]; omega)
            obtain ⟨Jt, hJt⟩ : ∃ Jt, ixN K (u1, u2) = Jt := ⟨_, rfl⟩
            rw [hJt] at hcI
            simp only [hJt, HKL.out] at k5
            obtain ⟨o, ho⟩ : ∃ o, hasN K (u1, u2) = o := ⟨_, rfl⟩
            have HO := Lib.hid ho; have HNM := Lib.hid hnm
            clear hu htk hid hJt ho hnm
            have hg10 : w9.heap.size ≤ g10 := by rw [HG10.out]; exact Nat.le_refl _
            cases o
            · go_upto_region 16 with fail
              refine rol_run (by kernel_rfl) [[], [], [], [1, 2], [1, 2, 3], [0, 1, 2, 3, 4], [0, 1, 2, 3, 4, 5], [0, 1, 2, 3, 4, 5, 6], [0, 1, 2, 3, 4, 5, 6], [], [0, 1, 2, 3, 4, 5, 6, 7, 9], [0, 1, 2, 3, 4, 5, 6, 7, 8, 9, 10]] (by kernel_rfl) [71, 72, 73, 74, 75, 76, 70, 77, 78, 13, 12] [[], [], [], [1, 2], [3], [0, 4], [5], [6], [6], [], [7], [8, 9]] [0, 0, 0, 0, 0, 2, 2, 0, 2, 1, 0, 1] [0, 0, 0, 0, 0, 2, 0, 0, 0, 1, 0, 1] [1000, 1000, 1000, 1000, 1000, 1000, 1000, 1000, 1000, 11, 1000, 1000] [.val 71 (.agg #[.slice aK kK cK]), .val 72 (.slice (some ⟨bY, oY, none⟩) j cY), .val 73 (.int .i64 (t : Int)), .val 74 (.pointer (some ⟨bY, oY + t * 2, none⟩)), .val 75 (.agg #[.string (mkB u1), .string (mkB u2)]), .mem 76 (tupA wr.heap.size (kK + 1) (K ++ [(u1, u2)]) (.int .i64 (Jt : Int))), .mem 70 (tupA wr.heap.size (kK + 1) (K ++ [(u1, u2)]) (.int .i64 (Jt : Int))), .val 77 (.int .i64 (Jt : Int)), .mem 78 (aggP wr.heap.size (kK + 1) (K ++ [(u1, u2)])), .mem 13 (cell1P wr.heap.size 24 (.slice none 0 0)), .val 12 (.int .i64 (Jt : Int)), .mem2 13 78 (tieP 24)] (by kernel_rfl) ?_ (wr.heap.size) (wr.heap.size) rfl (Below.refl _ _) rfl (fun _ => 0) ?_ ?_ ?_
              · intro j hj
                have hj3 : j < 12 := hj
                have hj2 : j = 0 ∨ j = 1 ∨ j = 2 ∨ j = 3 ∨ j = 4 ∨ j = 5 ∨ j = 6 ∨ j = 7 ∨ j = 8 ∨ j = 9 ∨ j = 10 ∨ j = 11 := by omega
                clear hj hj3
                rcases hj2 with rfl | rfl | rfl | rfl | rfl | rfl | rfl | rfl | rfl | rfl | rfl | rfl
                · exact trivial
                · exact trivial
                · exact trivial
                · exact trivial
                · exact trivial
                · exact tupA_near
                · exact tupA_near
                · exact trivial
                · exact aggP_near
                · exact cell1P_near
                · exact trivial
                · exact tieP_near
              · intro j hj0 hj
                exact absurd hj (Nat.not_lt.2 hj0)
              · intro i hi a wx who hG hF
                have hz : a.tmps.size = 96 := hG.size
                have hi3 : i < 12 := hi
                have hi2 : i = 0 ∨ i = 1 ∨ i = 2 ∨ i = 3 ∨ i = 4 ∨ i = 5 ∨ i = 6 ∨ i = 7 ∨ i = 8 ∨ i = 9 ∨ i = 10 ∨ i = 11 := by omega
                clear hi hi3
                rcases hi2 with rfl | rfl | rfl | rfl | rfl | rfl | rfl | rfl | rfl | rfl | rfl | rfl
                · exact rol_val rfl rfl rfl (by rw [hz]; decide) (ex_load rfl (eval_slot ((hG.slots 10 (by decide)).trans rfl)) (ldm_names (cell_keep q10 hG.below))) hG.below
                · exact rol_val rfl rfl rfl (by rw [hz]; decide) (ex_move (Or.inl rfl) (eval_slot ((hG.slots 1 (by decide)).trans rfl))) hG.below
                · exact rol_val rfl rfl rfl (by rw [hz]; decide) (ex_move (Or.inl rfl) (eval_slot ((hG.slots 11 (by decide)).trans rfl))) hG.below
                · exact rol_val rfl rfl rfl (by rw [hz]; decide) (ex_index rfl (eval_slot (hF 1 (by decide))) (eval_slot (hF 2 (by decide))) (idx_nd hlt)) hG.below
                · exact rol_val rfl rfl rfl (by rw [hz]; decide) (ex_load rfl (eval_slot (hF 3 (by decide))) (ldn_at (cell_keep hy0 hG.below) (cell_keep hy1 hG.below))) hG.below
                · refine rol_call rfl rfl rfl (by rw [hz]; decide) (ex_call rfl (by simp [eval_slot (hF 0 (by decide)), eval_slot (hF 4 (by decide))]) e4) (k5 _ wx (SK2.out.below hG.below)) ?_ hG.below hG.new
                  rintro e w14 ⟨vn, rfl, hv, hb14⟩
                  rcases hv with ⟨h9, -⟩ | ⟨-, hown⟩
                  · rw [HO.out] at h9; cases h9
                  · exact ⟨_, rfl, hb14, .inr ⟨_, vn.ownBlock, rfl, fun b e => ⟨(hown.lt b e).1, (hown.lt b e).2⟩, vn, rfl, row_base hown hG.new, rfl⟩⟩
                · exact rol_move rfl rfl rfl (by rw [hz]; decide) (Or.inl rfl) (hF 5 (by decide)) hG.below
                · exact rol_ext_num rfl rfl rfl (by rw [hz]; decide) rfl (hF 6 (by decide)) hG.below
                · exact rol_ext_agg rfl rfl rfl (by rw [hz]; decide) rfl (hF 6 (by decide)) hG.below
                · exact rol_alloc_names rfl rfl rfl (by rw [hz]; decide) rfl hG.below (Nat.le_refl _) hG.new
                · exact rol_val rfl rfl rfl (by rw [hz]; decide) (ex_move (Or.inr rfl) (eval_slot (hF 7 (by decide)))) hG.below
                · exact rol_fill_row rfl rfl rfl rfl (hF 9 (by decide)) (by rw [List.length_append, HKL.out]; rfl) (hF 8 (by decide)) hG.below (Nat.le_refl _)
              · intro a wx who hG hF
                have fv12 : a.tmps.getD 12 undef = .int .i64 (Jt : Int) := eval_slot (s := 12) (hF 10 (of_decide_eq_true (by kernel_rfl)) (of_decide_eq_true (by kernel_rfl)))
                obtain ⟨v78, ob78, fv78, fo78, fp78⟩ := hF 8 (of_decide_eq_true (by kernel_rfl)) (of_decide_eq_true (by kernel_rfl))
                replace fv78 : a.tmps.getD 78 undef = v78 := eval_slot (s := 78) fv78
                have hbox := hF 11 (of_decide_eq_true (by kernel_rfl)) (of_decide_eq_true (by kernel_rfl))
                obtain ⟨p13, v78', ob13, hp13, hv78, -, b13, x13, rfl, -, rfl, hrow13⟩ := hbox
                have e78 : v78 = .agg #[x13] := fv78.symm.trans (eval_slot hv78)
                obtain ⟨uu, hu1, hrow78, -⟩ := fp78
                rw [e78] at hu1
                injection hu1 with hu1
                injection hu1 with hu1
                injection hu1 with hu1 _
                subst hu1 e78
                obtain ⟨aE, cE, rfl, -⟩ := ndsO (ns := K ++ [(u1, u2)]) (by rw [List.length_append, HKL.out]; exact hrow78)
                rw [List.length_append, HKL.out, List.length_singleton] at fv78 hrow13 hrow78
                have fv13 : a.tmps.getD 13 undef = .pointer (some ⟨b13, 0, none⟩) := eval_slot (s := 13) hp13
                clear hp13 hv78 fo78
                have hbx := hG.below
                have hnx := hG.new
                rw [hG.frame]
                simp only [List.foldl_cons, List.foldl_nil, List.setIfInBounds_toArray, List.set_cons_zero, List.set_cons_succ]
                generalize a.tmps.getD 71 undef = u71
                generalize a.tmps.getD 72 undef = u72
                generalize a.tmps.getD 73 undef = u73
                generalize a.tmps.getD 74 undef = u74
                generalize a.tmps.getD 75 undef = u75
                generalize a.tmps.getD 76 undef = u76
                generalize a.tmps.getD 70 undef = u70
                generalize a.tmps.getD 77 undef = u77
                rw [fv78]
                rw [fv13]
                rw [fv12]
                clear hF hG fv12 fv78 fv13
                have HB2 := Lib.hid (HB.out.trans (hbx.mono HB.out.size))
                have hcI2 := cell_keep hcI hbx
                have HRX := Lib.hid (row_keepB HRW.out hbx)
                obtain ⟨q11, f11⟩ := row1 HRX.out
                obtain ⟨q13, f13⟩ := row1 hrow13
                have hlt10 : g10 < wr.heap.size := (Array.getElem?_eq_some_iff.1 HRW.out).1
                have HRO := Lib.hid hrow78
                have HLT := Lib.hid hlt10; have HGL := Lib.hid hg10
                clear hbx hnx hrow13 hrow78 q10 f10 hy0 hy1 hcI k5 hlt10 hg10
                go_wp2
                go_roundw
                case rel =>
                  exact ⟨t + 1, kK + 1, K ++ [(u1, u2)], aE, cE, by omega, by omega, by go_num, Lib.hid (by rw [HNM.out, addM_no HO.out]), Lib.hid (by rw [List.length_append, HKL.out]; rfl),
                    Lib.hid (Nds.owned (by rw [List.length_append, HKL.out]; exact row_far1 HRO.out HLT.out _)), Lib.hid (own_off HRO.out HLT.out), Lib.hid (row1_set HRX.out _), Lib.hid (HB2.out.setCell HGL.out _)⟩
                case measure => simp [intOf]; omega
            · go_upto_region 16 with fail
              refine rol_run (by kernel_rfl) [[], [], [], [1, 2], [1, 2, 3], [0, 1, 2, 3, 4], [0, 1, 2, 3, 4, 5], [0, 1, 2, 3, 4, 5, 6], [0, 1, 2, 3, 4, 5, 6], [], [0, 1, 2, 3, 4, 5, 6, 7, 9], [0, 1, 2, 3, 4, 5, 6, 7, 8, 9, 10]] (by kernel_rfl) [71, 72, 73, 74, 75, 76, 70, 77, 78, 13, 12] [[], [], [], [1, 2], [3], [0, 4], [5], [6], [6], [], [7], [8, 9]] [0, 0, 0, 0, 0, 0, 0, 0, 0, 1, 0, 1] [0, 0, 0, 0, 0, 0, 0, 0, 0, 1, 0, 1] [1000, 1000, 1000, 1000, 1000, 1000, 1000, 1000, 1000, 11, 1000, 1000] [.val 71 (.agg #[.slice aK kK cK]), .val 72 (.slice (some ⟨bY, oY, none⟩) j cY), .val 73 (.int .i64 (t : Int)), .val 74 (.pointer (some ⟨bY, oY + t * 2, none⟩)), .val 75 (.agg #[.string (mkB u1), .string (mkB u2)]), .val 76 (.tuple #[.int .i64 (Jt : Int), .agg #[.slice aK kK cK]]), .val 70 (.tuple #[.int .i64 (Jt : Int), .agg #[.slice aK kK cK]]), .val 77 (.int .i64 (Jt : Int)), .val 78 (.agg #[.slice aK kK cK]), .mem 13 (cell1P wr.heap.size 24 (.slice none 0 0)), .val 12 (.int .i64 (Jt : Int)), .mem 13 (cell1P wr.heap.size 24 (.slice aK kK cK))] (by kernel_rfl) ?_ (wr.heap.size) (wr.heap.size) rfl (Below.refl _ _) rfl (fun _ => 0) ?_ ?_ ?_
              · intro j hj
                have hj3 : j < 12 := hj
                have hj2 : j = 0 ∨ j = 1 ∨ j = 2 ∨ j = 3 ∨ j = 4 ∨ j = 5 ∨ j = 6 ∨ j = 7 ∨ j = 8 ∨ j = 9 ∨ j = 10 ∨ j = 11 := by omega
                clear hj hj3
                rcases hj2 with rfl | rfl | rfl | rfl | rfl | rfl | rfl | rfl | rfl | rfl | rfl | rfl
                · exact trivial
                · exact trivial
                · exact trivial
                · exact trivial
                · exact trivial
                · exact trivial
                · exact trivial
                · exact trivial
                · exact trivial
                · exact cell1P_near
                · exact trivial
                · exact cell1P_near
              · intro j hj0 hj
                exact absurd hj (Nat.not_lt.2 hj0)
              · intro i hi a wx who hG hF
                have hz : a.tmps.size = 96 := hG.size
                have hi3 : i < 12 := hi
                have hi2 : i = 0 ∨ i = 1 ∨ i = 2 ∨ i = 3 ∨ i = 4 ∨ i = 5 ∨ i = 6 ∨ i = 7 ∨ i = 8 ∨ i = 9 ∨ i = 10 ∨ i = 11 := by omega
                clear hi hi3
                rcases hi2 with rfl | rfl | rfl | rfl | rfl | rfl | rfl | rfl | rfl | rfl | rfl | rfl
                · exact rol_val rfl rfl rfl (by rw [hz]; decide) (ex_load rfl (eval_slot ((hG.slots 10 (by decide)).trans rfl)) (ldm_names (cell_keep q10 hG.below))) hG.below
                · exact rol_val rfl rfl rfl (by rw [hz]; decide) (ex_move (Or.inl rfl) (eval_slot ((hG.slots 1 (by decide)).trans rfl))) hG.below
                · exact rol_val rfl rfl rfl (by rw [hz]; decide) (ex_move (Or.inl rfl) (eval_slot ((hG.slots 11 (by decide)).trans rfl))) hG.below
                · exact rol_val rfl rfl rfl (by rw [hz]; decide) (ex_index rfl (eval_slot (hF 1 (by decide))) (eval_slot (hF 2 (by decide))) (idx_nd hlt)) hG.below
                · exact rol_val rfl rfl rfl (by rw [hz]; decide) (ex_load rfl (eval_slot (hF 3 (by decide))) (ldn_at (cell_keep hy0 hG.below) (cell_keep hy1 hG.below))) hG.below
                · refine rol_call rfl rfl rfl (by rw [hz]; decide) (ex_call rfl (by simp [eval_slot (hF 0 (by decide)), eval_slot (hF 4 (by decide))]) e4) (k5 _ wx (SK2.out.below hG.below)) ?_ hG.below hG.new
                  rintro e w14 ⟨vn, rfl, hv, hb14⟩
                  rcases hv with ⟨-, rfl⟩ | ⟨h9, -⟩
                  · exact ⟨_, rfl, hb14, .inl rfl⟩
                  · rw [HO.out] at h9; cases h9
                · exact rol_val rfl rfl rfl (by rw [hz]; decide) (ex_move (Or.inl rfl) (eval_slot (hF 5 (by decide)))) hG.below
                · exact rol_val rfl rfl rfl (by rw [hz]; decide) (ex_extract rfl (eval_slot (hF 6 (by decide))) rfl) hG.below
                · exact rol_val rfl rfl rfl (by rw [hz]; decide) (ex_extract rfl (eval_slot (hF 6 (by decide))) rfl) hG.below
                · exact rol_alloc_names rfl rfl rfl (by rw [hz]; decide) rfl hG.below (Nat.le_refl _) hG.new
                · exact rol_val rfl rfl rfl (by rw [hz]; decide) (ex_move (Or.inr rfl) (eval_slot (hF 7 (by decide)))) hG.below
                · exact rol_fill_val rfl rfl rfl rfl (hF 9 (by decide)) (eval_slot (hF 8 (by decide))) hG.below (Nat.le_refl _)
              · intro a wx who hG hF
                have fv12 : a.tmps.getD 12 undef = .int .i64 (Jt : Int) := eval_slot (s := 12) (hF 10 (of_decide_eq_true (by kernel_rfl)) (of_decide_eq_true (by kernel_rfl)))
                have hbox := hF 11 (of_decide_eq_true (by kernel_rfl)) (of_decide_eq_true (by kernel_rfl))
                obtain ⟨p13, ob13, hp13, -, b13, rfl, -, -, hrow13⟩ := hbox
                have fv13 : a.tmps.getD 13 undef = .pointer (some ⟨b13, 0, none⟩) := eval_slot (s := 13) hp13
                clear hp13
                have hbx := hG.below
                have hnx := hG.new
                rw [hG.frame]
                simp only [List.foldl_cons, List.foldl_nil, List.setIfInBounds_toArray, List.set_cons_zero, List.set_cons_succ]
                generalize a.tmps.getD 71 undef = u71
                generalize a.tmps.getD 72 undef = u72
                generalize a.tmps.getD 73 undef = u73
                generalize a.tmps.getD 74 undef = u74
                generalize a.tmps.getD 75 undef = u75
                generalize a.tmps.getD 76 undef = u76
                generalize a.tmps.getD 70 undef = u70
                generalize a.tmps.getD 77 undef = u77
                generalize a.tmps.getD 78 undef = u78
                rw [fv13]
                rw [fv12]
                clear hF hG fv12 fv13
                have HB2 := Lib.hid (HB.out.trans (hbx.mono HB.out.size))
                have hcI2 := cell_keep hcI hbx
                have HRX := Lib.hid (row_keepB HRW.out hbx)
                obtain ⟨q11, f11⟩ := row1 HRX.out
                obtain ⟨q13, f13⟩ := row1 hrow13
                have SKX := Lib.hid (SK2.out.below hbx)
                have HGL := Lib.hid hg10
                clear hbx hnx hrow13 q10 f10 hy0 hy1 hcI k5 hg10
                go_wp2
                go_roundw
                case rel =>
                  exact ⟨t + 1, kK, K, aK, cK, by omega, by omega, by go_num, Lib.hid (by rw [HNM.out, addM_yes HO.out]), HKL,
                    Lib.hid (Nds.off SKX.out HOF.out _), HOF, Lib.hid (row1_set HRX.out _), Lib.hid (HB2.out.setCell HGL.out _)⟩
                case measure => simp [intOf]; omega
          · have hk := HK.out
            rw [List.take_of_length_le (by rw [HJ.out]; omega), HE2.out] at hk
            subst hk
            replace SP := Lib.hid (SP.out.below HB.out); replace e6 := cell_keep e6 HB.out; replace B := Lib.hid (below_step B.out HB.out)
            have ks := fun U V w hu hv => isame_any U V K K w hu hv
            rw [decide_eq_true rfl] at ks
            go_wp2_with (first
              | (go_at_call 15; refine (ks _ _ _ SP.out SK2.out).mono ?_; rintro e w12 ⟨rfl, hb12⟩; replace B := Lib.hid (below_step B.out hb12); clear hb12 ks)
              | (go_at_call 16; refine (iawake_any _).mono ?_; rintro e w9 ⟨rfl, hb9⟩; replace B := Lib.hid (below_step B.out hb9); clear hb9))
            go_ret
            exact ⟨rfl, B.out⟩

theorem own : ownKnob Try.prog.godebug = none := by kernel_rfl
theorem laidOut : laidOutB Try.prog = true := by kernel_rfl

set_option maxRecDepth 100000 in
theorem lifted (os : Os) (started : os.Started) (H : Type) (enc : TypeId × Value → H) :
    ReturnsInHanded {} Try.checked os 4 .any (Rows.internAllSpec.pre6 enc Try.prog Try.f4 Rows.internAllRow.domain false) (Rows.internAllSpec.post enc Try.prog Try.f4 false true false false) := by
  refine returnsInHanded_of_change (C := Try.checked) own started (by kernel_rfl) Try.func4
    (ChangeSpec.witness6 (enc := enc) (C := Try.checked) false ⟨#[], #[.agg #[.slice none 0 0], .slice none 0 0], []⟩ 8 (by kernel_rfl) (by kernel_rfl) (by kernel_rfl) (by kernel_rfl)) ?_
  intro W base args ds gs before hval0 hW hcnd _
  have hval : ∀ (j : Nat) t v, Try.f4.params[j]? = some t → args[j]? = some v → Value.okWide Try.prog W .any base t v := hval0
  have hW' := hW
  obtain ⟨p, q, hA0, hV, rfl, hfz, hnd⟩ := hW
  have hA : DataW.TrodAll enc Try.prog W 0 (fun _ => true) true Try.f4.params.toList args.toList ds p := hA0
  rw [Try.params4] at hA hval
  obtain ⟨v0, vs0, d0, ds0, p0, q0, hargs, rfl, rfl, h0, r0⟩ := trodAll_cons hA
  obtain ⟨v1, vs1, d1, ds1, p1, q1, rfl, rfl, rfl, h1, r1⟩ := trodAll_cons r0
  obtain ⟨rfl, rfl, rfl⟩ := trodAll_nil r1
  obtain rfl : args = #[v0, v1] := by cases args; simp_all
  obtain ⟨rfl, rfl⟩ := trodVars_none hV
  have k0 := h0
  have lt0 : ∀ x ∈ p0, x.block < W.heap.size := by obtain ⟨m, hm⟩ := k0; exact DataW.trod_lt m _ _ _ hm
  obtain ⟨z0, w0⟩ := names_open (hval 0 24 v0 rfl rfl) h0
  obtain ⟨a1, len1, cap1, rfl⟩ := okWide_slice Try.underlying22 (hval 1 22 v1 rfl rfl)
  have k1 := h1
  have lt1 : ∀ x ∈ p1, x.block < W.heap.size := by obtain ⟨m, hm⟩ := k1; exact DataW.trod_lt m _ _ _ hm
  obtain ⟨z1, w1⟩ : ∃ zs, Nds W (.slice a1 len1 cap1) zs ∧ ∀ n ∈ zs, fitsN n := by
    obtain ⟨fuel, hf⟩ := h1
    exact nds_open (by simpa [Value.cells] using hf)
  clear hA0 hval0
  refine (walk _ z0 _ z1 W w0 w1).mono fun e W' ⟨he, bel⟩ => ?_
  subst he
  exact ⟨_, rfl, _, _, _, [], _, [], hW', trodAll_mk1 (shut_bool Try.underlying4 _), (trodAll_cons_mk (Below.trod laidOut (by kernel_rfl) (of_decide_eq_true (by kernel_rfl)) k0 bel lt0) (trodAll_cons_mk (Below.trod laidOut (by kernel_rfl) (of_decide_eq_true (by kernel_rfl)) k1 bel lt1) trodAll_mk0)), rfl, bel.frame _, fun h => by cases h⟩

-- the given statement
theorem proved : Rows.InternAllSaid :=
  OpenClaim.holds_of_wide 4 Try.f4 rfl rfl rfl rfl rfl rfl rfl ⟨rfl, rfl, rfl, rfl, rfl⟩ rfl rfl rfl rfl rfl (by kernel_rfl) Try.func4 (by kernel_rfl)
    (of_decide_eq_true (by kernel_rfl)) (by unfold Func.isWrapper; first | (rw [if_pos (by decide +kernel)]; kernel_rfl) | (rw [if_neg (by decide +kernel)]; exact ⟨rfl, rfl⟩))
    (fun os started H enc _ => lifted os started H enc)
end Go.Proofs.Ythmnoepdedjhjaa.internAll
