/- Of every names and every two lists of nodes (no more, and no longer, than are looked at): numbers once given stay, whatever is told behind; told again they are the same; each number's node has it; no condition. -/
import Derived.Test.YthmnoepdedjhjaaRows
import Derived.Test.YthmnoepdedjhjaaItnV
import Derived.Test.YthmnoepdedjhjaaRolN
import Derived.ProofKit
import Derived.OpenShut
import Derived.ShutString
import Derived.ChangeOld
namespace Go.Proofs.Ythmnoepdedjhjaa.internStays
open Go.ChangeShapes Go.WideShapes Go.ChangeAt Go.RowKit
open Go.ChangeMaps (open_string shut_string)
set_option maxRecDepth 100000
set_option linter.unusedVariables false

theorem Few3.far {w : World} {N k g : Nat} {x : List Nd} {a : Option Addr} {c : Nat} (h : w.ownsRow N 26 2 (.slice a k c) k (ndsC x)) (hk : x.length = k) (hg : g < N) (y : Value) : Nds (w.setCell ⟨g, 0, none⟩ y) (.slice a k c) x := Nds.owned (by rw [hk]; exact row_far1 h hg _)
set_option maxRecDepth 100000 in
set_option maxHeartbeats 6400000 in
theorem walk (M : Value) (m : List Nd) (U : Value) (l : List Nd) (V : Value) (r : List Nd) (w : World) (hM : (∃ V, M = .agg #[V] ∧ Nds w V m) ∧ ∀ n ∈ m, fitsN n) (hU : Nds w U l ∧ ∀ n ∈ l, fitsN n) (hV : Nds w V r ∧ ∀ n ∈ r, fitsN n) :
    Calls Try.prog 5 #[M, U, V] w fun e w' => e = .returned (.bool true) ∧ Below w.heap.size w w' := by
  obtain ⟨⟨M0, rfl, hM⟩, fM⟩ := hM
  obtain ⟨hU, fU⟩ := hU
  obtain ⟨hV, fV⟩ := hV
  obtain ⟨ma, mc, rfl, -⟩ := hM.ex
  obtain ⟨ua, uc, rfl, -⟩ := hU.ex
  obtain ⟨va, vc, rfl, -⟩ := hV.ex
  obtain ⟨mm, hmm⟩ : ∃ ml, m.length = ml := ⟨_, rfl⟩
  obtain ⟨ll, hll⟩ : ∃ ml, l.length = ml := ⟨_, rfl⟩
  obtain ⟨rr, hrr⟩ : ∃ ml, r.length = ml := ⟨_, rfl⟩
  rw [hmm] at hM ⊢; rw [hll] at hU ⊢; rw [hrr] at hV ⊢
  obtain ⟨W, g, hW, hg, hrow, hb⟩ : ∃ W g, w.alloc (.cells #[.slice ma mm mc] 24) = W ∧ w.heap.size = g ∧ W.heap[g]? = some (.cells #[.slice ma mm mc] 24 (0, 0)) ∧ Below w.heap.size w W := ⟨_, _, rfl, rfl, heap_alloc_new _ _, (Below.refl _ _).alloc (Nat.le_refl _) _⟩
  obtain ⟨d0, -⟩ := row1 hrow
  have k0 := fun U w h => ifew_any U m w h fM
  have k1 := fun U w h => nfewo_any U l w h fU
  have k2 := fun U w h => nfewo_any U r w h fV
  have slx := fewNs_len m; have sly := fewNs_len l; have slz := fewNs_len r
  have smx := fewNs_small m; have smy := fewNs_small l; have smz := fewNs_small r
  obtain ⟨x, hx⟩ : ∃ x, fewNs m = x := ⟨_, rfl⟩
  obtain ⟨y, hy⟩ : ∃ x, fewNs l = x := ⟨_, rfl⟩
  obtain ⟨z, hz⟩ : ∃ x, fewNs r = x := ⟨_, rfl⟩
  rw [hx] at k0 slx smx; rw [hy] at k1 sly smy; rw [hz] at k2 slz smz
  obtain ⟨i, hi⟩ : ∃ k, x.length = k := ⟨_, rfl⟩
  obtain ⟨j, hj⟩ : ∃ k, y.length = k := ⟨_, rfl⟩
  obtain ⟨k, hk⟩ : ∃ k, z.length = k := ⟨_, rfl⟩
  rw [hi] at k0 slx; rw [hj] at k1 sly; rw [hk] at k2 slz
  have HI := Lib.hid hi; have HJ := Lib.hid hj; have HK := Lib.hid hk; have SMX := Lib.hid smx; have SMY := Lib.hid smy; have SMZ := Lib.hid smz; have B := Lib.hid hb; have SM := Lib.hid (hM.below hb); have SU := Lib.hid (hU.below hb); have SV := Lib.hid (hV.below hb); have HROW := Lib.hid hrow; have HG := Lib.hid hg; have HW := Lib.hid hW
  have HGN := Lib.hid (Array.getElem?_eq_some_iff.1 hrow).1
  clear hi hj hk smx smy smz hb hM hU hV hrow hg hW hx hy hz hmm hll hrr fM fU fV
  have k3 := fun U U' w h h' => iall_any U U' x y w h h' SMX.out SMY.out (by rw [HI.out]; omega) (by rw [HJ.out]; omega)
  obtain ⟨om, hom⟩ : ∃ o, okM x = o := ⟨_, rfl⟩
  obtain ⟨on, hon⟩ : ∃ o, y.all okN = o := ⟨_, rfl⟩
  cases om
  · rw [allM_m _ hom] at k3
    simp only [List.length_nil] at k3
    clear hom hon
    go_enter Try.func5, Try.ntmps5
    go_upto_region 1 with fail
    rw [HW.out, HG.out]
    go_upto_region 2 with (first
      | (go_at_call 8; refine (k0 _ _ SM.out).mono ?_; rintro e w1 ⟨vn, rfl, hown, hb1⟩; obtain ⟨aN, cN, rfl, -⟩ := ndsO (by rw [HI.out]; exact hown); rw [HI.out] at hown ⊢; have HX := Lib.hid hown; have HN1 := Lib.hid (Nat.lt_of_lt_of_le HGN.out hb1.size); replace B := Lib.hid (below_step B.out hb1); replace HROW := Lib.hid (row_keepB HROW.out hb1); replace SU := Lib.hid (SU.out.below hb1); replace SV := Lib.hid (SV.out.below hb1); clear hown hb1 k0 SM)
      | (go_at_call 21; refine (k1 _ _ SU.out).mono ?_; rintro e w2 ⟨vy, rfl, hown, hb1⟩; obtain ⟨aY, cY, rfl, -⟩ := ndsO (by rw [HJ.out]; exact hown); rw [HJ.out] at hown ⊢; have HY := Lib.hid hown; have HN2 := Lib.hid (Nat.lt_of_lt_of_le HN1.out hb1.size); replace B := Lib.hid (below_step B.out hb1); replace HROW := Lib.hid (row_keepB HROW.out hb1); replace HX := Lib.hid (ownsRow_belowB HX.out hb1); replace SV := Lib.hid (SV.out.below hb1); clear hown hb1 k1 SU)
      | (go_at_call 21; refine (k2 _ _ SV.out).mono ?_; rintro e w3 ⟨vz, rfl, hown, hb1⟩; obtain ⟨aZ, cZ, rfl, -⟩ := ndsO (by rw [HK.out]; exact hown); rw [HK.out] at hown ⊢; have HZ := Lib.hid hown; replace B := Lib.hid (below_step B.out hb1); replace HROW := Lib.hid (row_keepB HROW.out hb1); obtain ⟨q0, f0⟩ := row1 HROW.out; replace HX := Lib.hid (ownsRow_belowB HX.out hb1); replace HY := Lib.hid (ownsRow_belowB HY.out hb1); clear hown hb1 k2 SV))
    obtain ⟨W4, hW4, d4, hx4, hy4, hz4, hb4⟩ : ∃ W4, w3.setCell ⟨g, 0, none⟩ (.slice aN i cN) = W4 ∧ W4.cell? ⟨g, 0, none⟩ = some (.slice aN i cN) ∧ Nds W4 (.slice aN i cN) x ∧ Nds W4 (.slice aY j cY) y ∧ Nds W4 (.slice aZ k cZ) z ∧ Below w.heap.size w W4 :=
      ⟨_, rfl, (row1 (row1_set HROW.out _)).1, Few3.far HX.out HI.out HGN.out _, Few3.far HY.out HJ.out HN1.out _, Few3.far HZ.out HK.out HN2.out _, B.out.setCell (Nat.le_of_eq HG.out) _⟩
    rw [hW4]
    have SX := Lib.hid hx4; have SY := Lib.hid hy4; have SZ := Lib.hid hz4
    replace B := Lib.hid hb4
    clear hW4 hx4 hy4 hz4 hb4 q0 f0 HX HY HZ HROW HG HW HGN HN1 HN2 d0
    go_upto_region 3 with (go_at_call 22; refine (k3 _ _ _ SX.out SY.out).mono ?_; rintro e w5 ⟨vi, vn, rfl, hri, hrn, hb5⟩; obtain ⟨aI, cI, rfl, -⟩ := intsO (l := []) hri; obtain ⟨aP, cP, rfl, -⟩ := ndsO hrn; rw [HI.out]; replace SX := Lib.hid (SX.out.below hb5); replace SY := Lib.hid (SY.out.below hb5); replace SZ := Lib.hid (SZ.out.below hb5); replace d4 := cell_keep d4 hb5; replace B := Lib.hid (below_step B.out hb5); clear hb5 hri hrn k3)
    obtain ⟨W6, g6, hW6, hg6, e0, hb6⟩ := boxM w5 (.slice aP i cP) 24
    rw [hW6, hg6]
    replace B := Lib.hid (below_step B.out hb6)
    go_wp2_with (go_at_call 16; refine (iawake_any _).mono ?_; rintro e w9 ⟨rfl, hb9⟩; replace B := Lib.hid (below_step B.out hb9); clear hb9)
    go_ret
    exact ⟨rfl, B.out⟩
  · cases on
    · rw [allM_n hon] at k3
      simp only [List.length_nil] at k3
      clear hom hon
      go_enter Try.func5, Try.ntmps5
      go_upto_region 1 with fail
      rw [HW.out, HG.out]
      go_upto_region 2 with (first
        | (go_at_call 8; refine (k0 _ _ SM.out).mono ?_; rintro e w1 ⟨vn, rfl, hown, hb1⟩; obtain ⟨aN, cN, rfl, -⟩ := ndsO (by rw [HI.out]; exact hown); rw [HI.out] at hown ⊢; have HX := Lib.hid hown; have HN1 := Lib.hid (Nat.lt_of_lt_of_le HGN.out hb1.size); replace B := Lib.hid (below_step B.out hb1); replace HROW := Lib.hid (row_keepB HROW.out hb1); replace SU := Lib.hid (SU.out.below hb1); replace SV := Lib.hid (SV.out.below hb1); clear hown hb1 k0 SM)
        | (go_at_call 21; refine (k1 _ _ SU.out).mono ?_; rintro e w2 ⟨vy, rfl, hown, hb1⟩; obtain ⟨aY, cY, rfl, -⟩ := ndsO (by rw [HJ.out]; exact hown); rw [HJ.out] at hown ⊢; have HY := Lib.hid hown; have HN2 := Lib.hid (Nat.lt_of_lt_of_le HN1.out hb1.size); replace B := Lib.hid (below_step B.out hb1); replace HROW := Lib.hid (row_keepB HROW.out hb1); replace HX := Lib.hid (ownsRow_belowB HX.out hb1); replace SV := Lib.hid (SV.out.below hb1); clear hown hb1 k1 SU)
        | (go_at_call 21; refine (k2 _ _ SV.out).mono ?_; rintro e w3 ⟨vz, rfl, hown, hb1⟩; obtain ⟨aZ, cZ, rfl, -⟩ := ndsO (by rw [HK.out]; exact hown); rw [HK.out] at hown ⊢; have HZ := Lib.hid hown; replace B := Lib.hid (below_step B.out hb1); replace HROW := Lib.hid (row_keepB HROW.out hb1); obtain ⟨q0, f0⟩ := row1 HROW.out; replace HX := Lib.hid (ownsRow_belowB HX.out hb1); replace HY := Lib.hid (ownsRow_belowB HY.out hb1); clear hown hb1 k2 SV))
      obtain ⟨W4, hW4, d4, hx4, hy4, hz4, hb4⟩ : ∃ W4, w3.setCell ⟨g, 0, none⟩ (.slice aN i cN) = W4 ∧ W4.cell? ⟨g, 0, none⟩ = some (.slice aN i cN) ∧ Nds W4 (.slice aN i cN) x ∧ Nds W4 (.slice aY j cY) y ∧ Nds W4 (.slice aZ k cZ) z ∧ Below w.heap.size w W4 :=
        ⟨_, rfl, (row1 (row1_set HROW.out _)).1, Few3.far HX.out HI.out HGN.out _, Few3.far HY.out HJ.out HN1.out _, Few3.far HZ.out HK.out HN2.out _, B.out.setCell (Nat.le_of_eq HG.out) _⟩
      rw [hW4]
      have SX := Lib.hid hx4; have SY := Lib.hid hy4; have SZ := Lib.hid hz4
      replace B := Lib.hid hb4
      clear hW4 hx4 hy4 hz4 hb4 q0 f0 HX HY HZ HROW HG HW HGN HN1 HN2 d0
      go_upto_region 3 with (go_at_call 22; refine (k3 _ _ _ SX.out SY.out).mono ?_; rintro e w5 ⟨vi, vn, rfl, hri, hrn, hb5⟩; obtain ⟨aI, cI, rfl, -⟩ := intsO (l := []) hri; obtain ⟨aP, cP, rfl, -⟩ := ndsO hrn; rw [HI.out]; replace SX := Lib.hid (SX.out.below hb5); replace SY := Lib.hid (SY.out.below hb5); replace SZ := Lib.hid (SZ.out.below hb5); replace d4 := cell_keep d4 hb5; replace B := Lib.hid (below_step B.out hb5); clear hb5 hri hrn k3)
      obtain ⟨W6, g6, hW6, hg6, e0, hb6⟩ := boxM w5 (.slice aP i cP) 24
      rw [hW6, hg6]
      replace B := Lib.hid (below_step B.out hb6)
      go_wp2_with (go_at_call 16; refine (iawake_any _).mono ?_; rintro e w9 ⟨rfl, hb9⟩; replace B := Lib.hid (below_step B.out hb9); clear hb9)
      go_ret
      exact ⟨rfl, B.out⟩
    · rw [allM_yes hom hon] at k3
      simp only at k3
      have hyo := List.all_eq_true.1 hon
      have hSX := stays_same hom hyo
      obtain ⟨X, hX⟩ : ∃ X, namesM x y = X := ⟨_, rfl⟩
      obtain ⟨I, hI⟩ : ∃ I, idsM x y = I := ⟨_, rfl⟩
      have hil := idsM_len x y
      have hxl := namesM_len y x
      have hxs := namesM_small SMX.out SMY.out
      rw [hI] at hil
      rw [hX] at hxl hxs
      rw [hX, hI] at k3
      rw [HJ.out] at hil hxl
      obtain ⟨kx, hkx⟩ : ∃ k, X.length = k := ⟨_, rfl⟩
      rw [hil, hkx] at k3
      rw [hkx, HI.out] at hxl
      have HIL := Lib.hid hil; have HKX := Lib.hid hkx; have HXS := Lib.hid hxs
      have hxl2 := hxl.2
      have k4 := fun U U' w h h' => iall_any U U' X z w h h' HXS.out SMZ.out (by rw [HKX.out]; omega) (by rw [HK.out]; omega)
      have hokX := hSX.ok
      rw [hX] at hokX
      obtain ⟨oz, hoz⟩ : ∃ o, z.all okN = o := ⟨_, rfl⟩
      cases oz
      · rw [allM_n hoz] at k4
        have hST : Stays x y X := by rw [← hX]; exact hSX
        simp only [List.length_nil, HKX.out] at k4
        have HST := Lib.hid hST; have HII := Lib.hid hI; have HON := Lib.hid hon
        clear hom hon hyo hSX hX hI hil hxl hxs hkx hokX hoz hST
        go_enter Try.func5, Try.ntmps5
        go_upto_region 1 with fail
        rw [HW.out, HG.out]
        go_upto_region 2 with (first
          | (go_at_call 8; refine (k0 _ _ SM.out).mono ?_; rintro e w1 ⟨vn, rfl, hown, hb1⟩; obtain ⟨aN, cN, rfl, -⟩ := ndsO (by rw [HI.out]; exact hown); rw [HI.out] at hown ⊢; have HX := Lib.hid hown; have HN1 := Lib.hid (Nat.lt_of_lt_of_le HGN.out hb1.size); replace B := Lib.hid (below_step B.out hb1); replace HROW := Lib.hid (row_keepB HROW.out hb1); replace SU := Lib.hid (SU.out.below hb1); replace SV := Lib.hid (SV.out.below hb1); clear hown hb1 k0 SM)
          | (go_at_call 21; refine (k1 _ _ SU.out).mono ?_; rintro e w2 ⟨vy, rfl, hown, hb1⟩; obtain ⟨aY, cY, rfl, -⟩ := ndsO (by rw [HJ.out]; exact hown); rw [HJ.out] at hown ⊢; have HY := Lib.hid hown; have HN2 := Lib.hid (Nat.lt_of_lt_of_le HN1.out hb1.size); replace B := Lib.hid (below_step B.out hb1); replace HROW := Lib.hid (row_keepB HROW.out hb1); replace HX := Lib.hid (ownsRow_belowB HX.out hb1); replace SV := Lib.hid (SV.out.below hb1); clear hown hb1 k1 SU)
          | (go_at_call 21; refine (k2 _ _ SV.out).mono ?_; rintro e w3 ⟨vz, rfl, hown, hb1⟩; obtain ⟨aZ, cZ, rfl, -⟩ := ndsO (by rw [HK.out]; exact hown); rw [HK.out] at hown ⊢; have HZ := Lib.hid hown; replace B := Lib.hid (below_step B.out hb1); replace HROW := Lib.hid (row_keepB HROW.out hb1); obtain ⟨q0, f0⟩ := row1 HROW.out; replace HX := Lib.hid (ownsRow_belowB HX.out hb1); replace HY := Lib.hid (ownsRow_belowB HY.out hb1); clear hown hb1 k2 SV))
        obtain ⟨W4, hW4, d4, hx4, hy4, hz4, hb4⟩ : ∃ W4, w3.setCell ⟨g, 0, none⟩ (.slice aN i cN) = W4 ∧ W4.cell? ⟨g, 0, none⟩ = some (.slice aN i cN) ∧ Nds W4 (.slice aN i cN) x ∧ Nds W4 (.slice aY j cY) y ∧ Nds W4 (.slice aZ k cZ) z ∧ Below w.heap.size w W4 :=
          ⟨_, rfl, (row1 (row1_set HROW.out _)).1, Few3.far HX.out HI.out HGN.out _, Few3.far HY.out HJ.out HN1.out _, Few3.far HZ.out HK.out HN2.out _, B.out.setCell (Nat.le_of_eq HG.out) _⟩
        rw [hW4]
        have SX := Lib.hid hx4; have SY := Lib.hid hy4; have SZ := Lib.hid hz4
        replace B := Lib.hid hb4
        clear hW4 hx4 hy4 hz4 hb4 q0 f0 HX HY HZ HROW HG HW HGN HN1 HN2 d0
        go_upto_region 3 with (go_at_call 22; refine (k3 _ _ _ SX.out SY.out).mono ?_; rintro e w5 ⟨vi, vn, rfl, hri, hrn, hb5⟩; obtain ⟨aI, cI, rfl, hI5⟩ := intsO (by rw [HIL.out]; exact hri); obtain ⟨aP, cP, rfl, hP5⟩ := ndsO (by rw [HKX.out]; exact hrn); rw [HIL.out] at hI5 ⊢; rw [HKX.out] at hP5 ⊢; have SI := Lib.hid hI5; have SP := Lib.hid hP5; replace SX := Lib.hid (SX.out.below hb5); replace SY := Lib.hid (SY.out.below hb5); replace SZ := Lib.hid (SZ.out.below hb5); replace d4 := cell_keep d4 hb5; replace B := Lib.hid (below_step B.out hb5); clear hb5 hri hrn k3)
        obtain ⟨W6, g6, hW6, hg6, e0, hb6⟩ := boxM w5 (.slice aP kx cP) 24
        rw [hW6, hg6]
        replace SX := Lib.hid (SX.out.below hb6); replace SY := Lib.hid (SY.out.below hb6); replace SZ := Lib.hid (SZ.out.below hb6); replace d4 := cell_keep d4 hb6; replace SP := Lib.hid (SP.out.below hb6); replace SI := Lib.hid (ints_belowB SI.out hb6); replace B := Lib.hid (below_step B.out hb6)
        clear hW6 hg6 hb6
        go_upto_region 6 with (go_at_call 22; refine (k4 _ _ _ SP.out SZ.out).mono ?_; rintro e w7 ⟨vi, vn, rfl, hri, hrn, hb7⟩; obtain ⟨a7, c7, rfl, -⟩ := intsO (l := []) hri; obtain ⟨aQ, cQ, rfl, -⟩ := ndsO (by rw [HKX.out]; exact hrn); rw [HKX.out]; replace SX := Lib.hid (SX.out.below hb7); replace SY := Lib.hid (SY.out.below hb7); replace SP := Lib.hid (SP.out.below hb7); replace SI := Lib.hid (ints_belowB SI.out hb7); replace d4 := cell_keep d4 hb7; replace e0 := cell_keep e0 hb7; replace B := Lib.hid (below_step B.out hb7); clear hb7 hri hrn k4 SZ)
        obtain ⟨W8, g8, hW8, hg8, hrow8, hb8⟩ : ∃ W8 g8, w7.alloc (.cells #[.slice aQ kx cQ] 24) = W8 ∧ w7.heap.size = g8 ∧ W8.heap[g8]? = some (.cells #[.slice aQ kx cQ] 24 (0, 0)) ∧ Below w7.heap.size w7 W8 := ⟨_, _, rfl, rfl, heap_alloc_new _ _, (Below.refl _ _).alloc (Nat.le_refl _) _⟩
        rw [hW8, hg8]
        obtain ⟨q0, f0⟩ := row1 hrow8
        replace e0 := cell_keep e0 hb8
        go_upto_region 8 with fail
        obtain ⟨W9, hW9, e9, hb9⟩ : ∃ W9, W8.setCell ⟨g8, 0, none⟩ (.slice aP kx cP) = W9 ∧ W9.cell? ⟨g8, 0, none⟩ = some (.slice aP kx cP) ∧ Below w7.heap.size w7 W9 := ⟨_, rfl, (row1 (row1_set hrow8 _)).1, hb8.setCell (Nat.le_of_eq hg8) _⟩
        rw [hW9]
        have SY' := SY
        replace SX := Lib.hid (SX.out.below hb9); replace SY := Lib.hid (SY.out.below hb9); have ST := Lib.hid (SP.out.below hb9); replace SI := Lib.hid (ints_belowB SI.out hb9); replace d4 := cell_keep d4 hb9; replace B := Lib.hid (below_step B.out hb9)
        clear hW8 hg8 hrow8 hb8 q0 f0 e0 hW9 hb9 SP SY'
        have k5 := fun U U' w h h' => iall_any U U' X y w h h' HXS.out SMY.out (by rw [HKX.out]; omega) (by rw [HJ.out]; omega)
        rw [show allM X y = (I, X, 0) by rw [allM_yes HST.out.ok HON.out, HST.out.ids, HST.out.names, HII.out]] at k5
        simp only [HIL.out, HKX.out] at k5
        have k6 := fun U w h => icheck_any U X w h HXS.out
        rw [chkM_of HST.out.ok] at k6
        simp only [if_true] at k6
        have k7 := fun U V w hu hv => isame_any U V X X w hu hv
        rw [decide_eq_true rfl] at k7
        have hlen := HST.out.len
        rw [HI.out, HKX.out] at hlen
        have hlen2 : ¬ ((kx : Nat) : Int) < ((i : Nat) : Int) := by omega
        go_upto_region 9 with (go_at_call 22; refine (k5 _ _ _ ST.out SY.out).mono ?_; rintro e w10 ⟨vi, vn, rfl, hri, hrn, hb10⟩; obtain ⟨aJ, cJ, rfl, hJ5⟩ := intsO (by rw [HIL.out]; exact hri); obtain ⟨aR, cR, rfl, hR5⟩ := ndsO (by rw [HKX.out]; exact hrn); rw [HIL.out] at hJ5 ⊢; rw [HKX.out] at hR5 ⊢; have SJ := Lib.hid hJ5; have SR := Lib.hid hR5; replace SY := Lib.hid (SY.out.below hb10); replace ST := Lib.hid (ST.out.below hb10); replace SI := Lib.hid (ints_belowB SI.out hb10); replace d4 := cell_keep d4 hb10; replace e9 := cell_keep e9 hb10; replace B := Lib.hid (below_step B.out hb10); clear hb10 hri hrn hJ5 hR5 k5)
        obtain ⟨W11, g14, hW11, hg14, r0, hb11⟩ := boxM w10 (.slice aR kx cR) 24
        rw [hW11, hg14]
        replace SY := Lib.hid (SY.out.below hb11); replace ST := Lib.hid (ST.out.below hb11); replace SR := Lib.hid (SR.out.below hb11); replace SI := Lib.hid (ints_belowB SI.out hb11); replace SJ := Lib.hid (ints_belowB SJ.out hb11); replace d4 := cell_keep d4 hb11; replace e9 := cell_keep e9 hb11; replace B := Lib.hid (below_step B.out hb11)
        clear hW11 hg14 hb11
        go_wp2_with (first
          | (go_at_call 15; refine (k7 _ _ _ SR.out ST.out).mono ?_; rintro e w12 ⟨rfl, hb12⟩; replace SY := Lib.hid (SY.out.below hb12); replace ST := Lib.hid (ST.out.below hb12); replace SI := Lib.hid (ints_belowB SI.out hb12); replace SJ := Lib.hid (ints_belowB SJ.out hb12); replace d4 := cell_keep d4 hb12; replace e9 := cell_keep e9 hb12; replace B := Lib.hid (below_step B.out hb12); clear hb12 k7 SR r0)
          | (go_at_call 13; refine (k6 _ _ ST.out).mono ?_; rintro e w13 ⟨rfl, hb13⟩; replace SY := Lib.hid (SY.out.below hb13); replace ST := Lib.hid (ST.out.below hb13); replace SI := Lib.hid (ints_belowB SI.out hb13); replace SJ := Lib.hid (ints_belowB SJ.out hb13); replace d4 := cell_keep d4 hb13; replace e9 := cell_keep e9 hb13; replace B := Lib.hid (below_step B.out hb13); clear hb13 k6))
        go_loopw [16] (fun v wr => ∃ t : Nat, t ≤ j ∧ v = .int .i64 t ∧ Hid (Below w13.heap.size w13 wr)) (fun v _ => j - (intOf v).toNat)
        case atStart => exact ⟨0, Nat.zero_le _, rfl, Lib.hid (Below.refl _ _)⟩
        case round =>
          obtain ⟨t, ht, rfl, HB⟩ := hrel
          have e10 := cell_keep e9 HB.out
          by_cases hlt : t < j
          · have hkb : (t : Int) < (j : Int) := by omega
            have htY : t < y.length := by rw [HJ.out]; exact hlt
            obtain ⟨hix, hmem⟩ := HST.out.at' t htY
            rw [HII.out] at hix
            obtain ⟨bI, oI, rfl⟩ := SI.out.some (by omega)
            obtain ⟨bJ, oJ, rfl⟩ := SJ.out.some (by omega)
            have hcI := (ints_belowB SI.out HB.out).cell t hlt
            have hcJ := (ints_belowB SJ.out HB.out).cell t hlt
            rw [ids_z, hix] at hcI hcJ
            obtain ⟨bY, oY, rfl, -, hy0, hy1⟩ := (SY.out.below HB.out).at t htY
            obtain ⟨u, hu⟩ : ∃ u, u = y.getD t ([], []) := ⟨_, rfl⟩
            rw [← hu] at hcI hcJ hy0 hy1 hmem
            have h1 := at_one HST.out.ok hmem
            obtain ⟨Jt, hJt⟩ : ∃ Jt, ixN X u = Jt := ⟨_, rfl⟩
            rw [hJt] at hcI hcJ h1
            obtain ⟨u1, u2⟩ := u
            simp only at hy0 hy1
            have k8 := fun U U' w h h' => iat_any U U' X [(Jt : Int)] w h h' HXS.out (by simp)
            have e3 : ∀ args w, (callFunc 12 args).run Try.prog w = .ok (.enter 12 args) w := enters_of Try.func12 (by kernel_rfl) rfl
            rw [h1] at k8
            simp only [List.length_singleton] at k8
            have ST2 := Lib.hid (ST.out.below HB.out)
            clear hu hix hmem h1 hJt
            go_upto_region 14 with fail
            refine rol_run (by kernel_rfl) [[], [], [], [1, 2], [1, 2, 3], [1, 2, 3, 4], [0, 1, 2, 3, 4, 5], [0, 1, 2, 3, 4, 5, 6], [0, 1, 2, 3, 4, 5, 6, 7], [0, 1, 2, 3, 4, 5, 6, 7], [0, 1, 2, 3, 4, 5, 6, 7, 8], [0, 1, 2, 3, 4, 5, 6, 7, 8, 9, 10]] (by kernel_rfl) [98, 99, 100, 101, 102, 103, 104, 97, 105, 106, 17, 18] [[], [], [], [1, 2], [3], [4], [0, 5], [6], [7], [7], [8], [9]] [0, 0, 0, 0, 0, 1, 2, 2, 2, 0, 2, 0] [0, 0, 0, 0, 0, 1, 2, 0, 0, 0, 0, 0] [1000, 1000, 1000, 1000, 1000, 1000, 1000, 1000, 1000, 1000, 1000, 1000] [.val 98 (.agg #[.slice aP kx cP]), .val 99 (.slice (some ⟨bI, oI, none⟩) j cI), .val 100 (.int .i64 (t : Int)), .val 101 (.pointer (some ⟨bI, oI + t, none⟩)), .val 102 (.int .i64 (Jt : Int)), .mem 103 (blkI (Jt : Int)), .mem 104 (tupP wr.heap.size 1 [(u1, u2)] (.int .i64 0)), .mem 97 (tupP wr.heap.size 1 [(u1, u2)] (.int .i64 0)), .mem 105 (rowP wr.heap.size 1 [(u1, u2)]), .val 106 (.int .i64 0), .mem 17 (rowP wr.heap.size 1 [(u1, u2)]), .val 18 (.int .i64 0)] (by kernel_rfl) ?_ (wr.heap.size) (wr.heap.size) rfl (Below.refl _ _) rfl (fun _ => 0) ?_ ?_ ?_
            · intro j hj
              have hj3 : j < 12 := hj
              have hj2 : j = 0 ∨ j = 1 ∨ j = 2 ∨ j = 3 ∨ j = 4 ∨ j = 5 ∨ j = 6 ∨ j = 7 ∨ j = 8 ∨ j = 9 ∨ j = 10 ∨ j = 11 := by omega
              clear hj hj3
              rcases hj2 with rfl | rfl | rfl | rfl | rfl | rfl | rfl | rfl | rfl | rfl | rfl | rfl
              · exact trivial
              · exact trivial
              · exact trivial
              · exact trivial
              · exact trivial
              · exact blkI_near
              · exact tupP_near
              · exact tupP_near
              · exact rowP_near
              · exact trivial
              · exact rowP_near
              · exact trivial
            · intro j hj0 hj
              exact absurd hj (Nat.not_lt.2 hj0)
            · intro i hi a wx who hG hF
              have hz : a.tmps.size = 160 := hG.size
              have hi3 : i < 12 := hi
              have hi2 : i = 0 ∨ i = 1 ∨ i = 2 ∨ i = 3 ∨ i = 4 ∨ i = 5 ∨ i = 6 ∨ i = 7 ∨ i = 8 ∨ i = 9 ∨ i = 10 ∨ i = 11 := by omega
              clear hi hi3
              rcases hi2 with rfl | rfl | rfl | rfl | rfl | rfl | rfl | rfl | rfl | rfl | rfl | rfl
              · exact rol_val rfl rfl rfl (by rw [hz]; decide) (ex_load rfl (eval_slot ((hG.slots 11 (by decide)).trans rfl)) (ldm_names (cell_keep e10 hG.below))) hG.below
              · exact rol_val rfl rfl rfl (by rw [hz]; decide) (ex_move (Or.inl rfl) (eval_slot ((hG.slots 7 (by decide)).trans rfl))) hG.below
              · exact rol_val rfl rfl rfl (by rw [hz]; decide) (ex_move (Or.inl rfl) (eval_slot ((hG.slots 16 (by decide)).trans rfl))) hG.below
              · exact rol_val rfl rfl rfl (by rw [hz]; decide) (ex_index rfl (eval_slot (hF 1 (by decide))) (eval_slot (hF 2 (by decide))) (idx_int hlt)) hG.below
              · exact rol_val rfl rfl rfl (by rw [hz]; decide) (ex_load rfl (eval_slot (hF 3 (by decide))) (ld_int (cell_keep hcI hG.below))) hG.below
              · exact rol_one_int rfl rfl rfl (by rw [hz]; decide) rfl (eval_slot (hF 4 (by decide))) hG.below hG.new
              · obtain ⟨u0, ob, hu, -, hp⟩ := hF 5 (by decide)
                obtain ⟨b, rfl, hints⟩ := hp.ints
                refine rol_call rfl rfl rfl (by rw [hz]; decide) (ex_call rfl (by simp [eval_slot (hF 0 (by decide)), eval_slot hu]) e3) (k8 _ _ wx (ST2.out.below hG.below) hints) ?_ hG.below hG.new
                rintro e w14 ⟨vn, rfl, hown, hb14⟩
                exact ⟨_, rfl, hb14, .inr ⟨_, vn.ownBlock, rfl, fun b e => ⟨(hown.lt b e).1, (hown.lt b e).2⟩, vn, rfl, row_base hown hG.new, rfl⟩⟩
              · exact rol_move rfl rfl rfl (by rw [hz]; decide) (Or.inl rfl) (hF 6 (by decide)) hG.below
              · exact rol_ext_row rfl rfl rfl (by rw [hz]; decide) rfl (hF 7 (by decide)) hG.below
              · exact rol_ext_val rfl rfl rfl (by rw [hz]; decide) rfl (hF 7 (by decide)) hG.below
              · exact rol_move rfl rfl rfl (by rw [hz]; decide) (Or.inr rfl) (hF 8 (by decide)) hG.below
              · exact rol_val rfl rfl rfl (by rw [hz]; decide) (ex_move (Or.inr rfl) (eval_slot (hF 9 (by decide)))) hG.below
            · intro a wx who hG hF
              obtain ⟨v17, ob17, fv17, fo17, fp17⟩ := hF 10 (of_decide_eq_true (by kernel_rfl)) (of_decide_eq_true (by kernel_rfl))
              replace fv17 : a.tmps.getD 17 undef = v17 := eval_slot (s := 17) fv17
              have fv18 : a.tmps.getD 18 undef = .int .i64 0 := eval_slot (s := 18) (hF 11 (of_decide_eq_true (by kernel_rfl)) (of_decide_eq_true (by kernel_rfl)))
              have hbx := hG.below
              have hnx := hG.new
              rw [hG.frame]
              simp only [List.foldl_cons, List.foldl_nil, List.setIfInBounds_toArray, List.set_cons_zero, List.set_cons_succ]
              generalize a.tmps.getD 98 undef = u98
              generalize a.tmps.getD 99 undef = u99
              generalize a.tmps.getD 100 undef = u100
              generalize a.tmps.getD 101 undef = u101
              generalize a.tmps.getD 102 undef = u102
              generalize a.tmps.getD 103 undef = u103
              generalize a.tmps.getD 104 undef = u104
              generalize a.tmps.getD 97 undef = u97
              generalize a.tmps.getD 105 undef = u105
              generalize a.tmps.getD 106 undef = u106
              rw [fv17]
              rw [fv18]
              clear hF hG fv17 fv18
              obtain ⟨hr17, -⟩ := fp17
              obtain ⟨aE, cE, rfl, hE⟩ := ndsO (ns := [(u1, u2)]) hr17
              simp only [List.length_singleton] at hE ⊢
              obtain ⟨bE, oE, rfl, -, n0, n1⟩ := hE.at 0 (by simp)
              simp only [List.getD_cons_zero, Nat.zero_mul, Nat.add_zero] at n0 n1
              replace hy0 := cell_keep hy0 hbx; replace hy1 := cell_keep hy1 hbx; replace hcI := cell_keep hcI hbx; replace hcJ := cell_keep hcJ hbx
              have HB2 := Lib.hid (below_step HB.out hbx)
              have hgd := guard_nd
              have heq := neq_nd u1 u2 u1 u2
              rw [decide_eq_true rfl] at heq
              simp only [Bool.not_true] at heq
              clear hr17 hE fo17 hbx hnx HB e10 ST2 k8
              go_wp2_with fail
              go_quiet (fail)
              go_wp2
              go_roundw
              case rel => exact ⟨t + 1, by omega, by go_num, Lib.hid (below_step HB2.out (below_q ⟨nq, rfl⟩))⟩
              case measure => simp [intOf]; omega
          · replace e9 := cell_keep e9 HB.out; replace ST := Lib.hid (ST.out.below HB.out); replace B := Lib.hid (below_step B.out HB.out)
            clear SI SJ SY
            go_wp2
            have e4 : ∀ args w, (callFunc 10 args).run Try.prog w = .ok (.enter 10 args) w := enters_of Try.func10 (by kernel_rfl) rfl
            obtain ⟨Wc, hWc⟩ : ∃ Wc, Wc = wr := ⟨_, rfl⟩
            subst hWc
            go_loopw [19] (fun v wr => ∃ s : Nat, s ≤ kx ∧ v = .int .i64 s ∧ Hid (Below Wc.heap.size Wc wr)) (fun v _ => kx - (intOf v).toNat)
            case atStart => exact ⟨0, Nat.zero_le _, rfl, Lib.hid (Below.refl _ _)⟩
            case round =>
              obtain ⟨s, hs, rfl, HB⟩ := hrel
              have e10 := cell_keep e9 HB.out
              by_cases hls : s < kx
              · have hkb : (s : Int) < (kx : Int) := by omega
                have hsY : s < X.length := by rw [HKX.out]; exact hls
                obtain ⟨bY, oY, rfl, -, hy0, hy1⟩ := (ST.out.below HB.out).at s hsY
                have hfd := find_at HST.out.ok hsY
                have hus := HXS.out _ (nd_mem hsY)
                obtain ⟨u, hu⟩ : ∃ u, u = X.getD s ([], []) := ⟨_, rfl⟩
                rw [← hu] at hy0 hy1 hfd hus
                obtain ⟨u1, u2⟩ := u
                simp only at hy0 hy1
                have k9 := fun U w h => ifind_any U X u1 u2 w h HXS.out hus
                rw [hfd] at k9
                have ST2 := Lib.hid (ST.out.below HB.out)
                clear hu hfd hus
                go_upto_region 20 with fail
                refine rol_run (by kernel_rfl) [[], [], [1], [], [1, 2, 3], [1, 2, 3, 4], [0, 1, 2, 3, 4, 5], [0, 1, 2, 3, 4, 5, 6], [0, 1, 2, 3, 4, 5, 6, 7], [0, 1, 2, 3, 4, 5, 6, 7], [0, 1, 2, 3, 4, 5, 6, 7, 8], [0, 1, 2, 3, 4, 5, 6, 7, 8, 9, 10]] (by kernel_rfl) [143, 144, 145, 146, 147, 148, 149, 142, 150, 151, 20, 21] [[], [], [1], [], [2, 3], [4], [0, 5], [6], [7], [7], [8], [9]] [0, 0, 0, 0, 0, 0, 0, 0, 0, 0, 0, 0] [0, 0, 0, 0, 0, 0, 0, 0, 0, 0, 0, 0] [1000, 1000, 1000, 1000, 1000, 1000, 1000, 1000, 1000, 1000, 1000, 1000] [.val 143 (.agg #[.slice (some ⟨bY, oY, none⟩) kx cP]), .val 144 (.pointer (some ⟨g8, 0, none⟩)), .val 145 (.slice (some ⟨bY, oY, none⟩) kx cP), .val 146 (.int .i64 (s : Int)), .val 147 (.pointer (some ⟨bY, oY + s * 2, none⟩)), .val 148 (.agg #[.string (mkB u1), .string (mkB u2)]), .val 149 (.tuple #[.int .i64 (s : Int), .int .i64 0]), .val 142 (.tuple #[.int .i64 (s : Int), .int .i64 0]), .val 150 (.int .i64 (s : Int)), .val 151 (.int .i64 0), .val 20 (.int .i64 (s : Int)), .val 21 (.int .i64 0)] (by kernel_rfl) ?_ (wr.heap.size) (wr.heap.size) rfl (Below.refl _ _) rfl (fun _ => 0) ?_ ?_ ?_
                · intro j hj
                  have hj3 : j < 12 := hj
                  have hj2 : j = 0 ∨ j = 1 ∨ j = 2 ∨ j = 3 ∨ j = 4 ∨ j = 5 ∨ j = 6 ∨ j = 7 ∨ j = 8 ∨ j = 9 ∨ j = 10 ∨ j = 11 := by omega
                  clear hj hj3
                  rcases hj2 with rfl | rfl | rfl | rfl | rfl | rfl | rfl | rfl | rfl | rfl | rfl | rfl
                  · exact trivial
                  · exact trivial
                  · exact trivial
                  · exact trivial
                  · exact trivial
                  · exact trivial
                  · exact trivial
                  · exact trivial
                  · exact trivial
                  · exact trivial
                  · exact trivial
                  · exact trivial
                · intro j hj0 hj
                  exact absurd hj (Nat.not_lt.2 hj0)
                · intro i hi a wx who hG hF
                  have hz : a.tmps.size = 160 := hG.size
                  have hi3 : i < 12 := hi
                  have hi2 : i = 0 ∨ i = 1 ∨ i = 2 ∨ i = 3 ∨ i = 4 ∨ i = 5 ∨ i = 6 ∨ i = 7 ∨ i = 8 ∨ i = 9 ∨ i = 10 ∨ i = 11 := by omega
                  clear hi hi3
                  rcases hi2 with rfl | rfl | rfl | rfl | rfl | rfl | rfl | rfl | rfl | rfl | rfl | rfl
                  · exact rol_val rfl rfl rfl (by rw [hz]; decide) (ex_load rfl (eval_slot ((hG.slots 11 (by decide)).trans rfl)) (ldm_names (cell_keep e10 hG.below))) hG.below
                  · exact rol_val rfl rfl rfl (by rw [hz]; decide) (ex_field rfl (eval_slot ((hG.slots 11 (by decide)).trans rfl)) (by go_simp)) hG.below
                  · exact rol_val rfl rfl rfl (by rw [hz]; decide) (ex_load rfl (eval_slot (hF 1 (by decide))) (ldm_slice (cell_keep e10 hG.below))) hG.below
                  · exact rol_val rfl rfl rfl (by rw [hz]; decide) (ex_move (Or.inl rfl) (eval_slot ((hG.slots 19 (by decide)).trans rfl))) hG.below
                  · exact rol_val rfl rfl rfl (by rw [hz]; decide) (ex_index rfl (eval_slot (hF 2 (by decide))) (eval_slot (hF 3 (by decide))) (idx_nd hls)) hG.below
                  · exact rol_val rfl rfl rfl (by rw [hz]; decide) (ex_load rfl (eval_slot (hF 4 (by decide))) (ldn_at (cell_keep hy0 hG.below) (cell_keep hy1 hG.below))) hG.below
                  · refine rol_call rfl rfl rfl (by rw [hz]; decide) (ex_call rfl (by simp [eval_slot (hF 0 (by decide)), eval_slot (hF 5 (by decide))]) e4) (k9 _ wx (ST2.out.below hG.below)) ?_ hG.below hG.new
                    rintro e w14 ⟨rfl, hb14⟩
                    exact ⟨_, rfl, hb14, .inl rfl⟩
                  · exact rol_val rfl rfl rfl (by rw [hz]; decide) (ex_move (Or.inl rfl) (eval_slot (hF 6 (by decide)))) hG.below
                  · exact rol_val rfl rfl rfl (by rw [hz]; decide) (ex_extract rfl (eval_slot (hF 7 (by decide))) rfl) hG.below
                  · exact rol_val rfl rfl rfl (by rw [hz]; decide) (ex_extract rfl (eval_slot (hF 7 (by decide))) rfl) hG.below
                  · exact rol_val rfl rfl rfl (by rw [hz]; decide) (ex_move (Or.inr rfl) (eval_slot (hF 8 (by decide)))) hG.below
                  · exact rol_val rfl rfl rfl (by rw [hz]; decide) (ex_move (Or.inr rfl) (eval_slot (hF 9 (by decide)))) hG.below
                · intro a wx who hG hF
                  have fv20 : a.tmps.getD 20 undef = .int .i64 (s : Int) := eval_slot (s := 20) (hF 10 (of_decide_eq_true (by kernel_rfl)) (of_decide_eq_true (by kernel_rfl)))
                  have fv21 : a.tmps.getD 21 undef = .int .i64 0 := eval_slot (s := 21) (hF 11 (of_decide_eq_true (by kernel_rfl)) (of_decide_eq_true (by kernel_rfl)))
                  have hbx := hG.below
                  have hnx := hG.new
                  rw [hG.frame]
                  simp only [List.foldl_cons, List.foldl_nil, List.setIfInBounds_toArray, List.set_cons_zero, List.set_cons_succ]
                  generalize a.tmps.getD 143 undef = u143
                  generalize a.tmps.getD 144 undef = u144
                  generalize a.tmps.getD 145 undef = u145
                  generalize a.tmps.getD 146 undef = u146
                  generalize a.tmps.getD 147 undef = u147
                  generalize a.tmps.getD 148 undef = u148
                  generalize a.tmps.getD 149 undef = u149
                  generalize a.tmps.getD 142 undef = u142
                  generalize a.tmps.getD 150 undef = u150
                  generalize a.tmps.getD 151 undef = u151
                  rw [fv20]
                  rw [fv21]
                  clear hF hG fv20 fv21
                  replace HB := Lib.hid (below_step HB.out hbx)
                  clear hbx hnx e10 ST2 k9 hy0 hy1
                  go_wp2
                  go_roundw
                  case rel => exact ⟨s + 1, by omega, by go_num, HB⟩
                  case measure => simp [intOf]; omega
              · replace B := Lib.hid (below_step B.out HB.out)
                go_wp2_with (go_at_call 16; refine (iawake_any _).mono ?_; rintro e w9 ⟨rfl, hb9⟩; replace B := Lib.hid (below_step B.out hb9); clear hb9)
                go_ret
                exact ⟨rfl, B.out⟩
      · rw [allM_yes hokX hoz] at k4
        simp only at k4
        have hzo := List.all_eq_true.1 hoz
        have hST : Stays x y (namesM X z) := by rw [← hX]; exact stays_more hom hyo hzo
        have hyl := namesM_len z X
        have hys := namesM_small HXS.out SMZ.out
        have hjl := idsM_len X z
        obtain ⟨Y, hY⟩ : ∃ Y, namesM X z = Y := ⟨_, rfl⟩
        obtain ⟨Jz, hJz⟩ : ∃ Jz, idsM X z = Jz := ⟨_, rfl⟩
        rw [hY] at hST hyl hys
        rw [hJz, HK.out] at hjl
        rw [hY, hJz, hjl] at k4
        obtain ⟨ky, hky⟩ : ∃ k, Y.length = k := ⟨_, rfl⟩
        rw [hky] at k4
        rw [hky, HKX.out, HK.out] at hyl
        have hyl2 := hyl.2
        have HST := Lib.hid hST; have HII := Lib.hid hI; have HON := Lib.hid hon; have HKY := Lib.hid hky; have HYS := Lib.hid hys; have HJZ := Lib.hid hjl
        clear hom hon hyo hSX hX hI hil hxl hxs hkx hokX hoz hST hzo hyl hys hjl hY hJz hky
        go_enter Try.func5, Try.ntmps5
        go_upto_region 1 with fail
        rw [HW.out, HG.out]
        go_upto_region 2 with (first
          | (go_at_call 8; refine (k0 _ _ SM.out).mono ?_; rintro e w1 ⟨vn, rfl, hown, hb1⟩; obtain ⟨aN, cN, rfl, -⟩ := ndsO (by rw [HI.out]; exact hown); rw [HI.out] at hown ⊢; have HX := Lib.hid hown; have HN1 := Lib.hid (Nat.lt_of_lt_of_le HGN.out hb1.size); replace B := Lib.hid (below_step B.out hb1); replace HROW := Lib.hid (row_keepB HROW.out hb1); replace SU := Lib.hid (SU.out.below hb1); replace SV := Lib.hid (SV.out.below hb1); clear hown hb1 k0 SM)
          | (go_at_call 21; refine (k1 _ _ SU.out).mono ?_; rintro e w2 ⟨vy, rfl, hown, hb1⟩; obtain ⟨aY, cY, rfl, -⟩ := ndsO (by rw [HJ.out]; exact hown); rw [HJ.out] at hown ⊢; have HY := Lib.hid hown; have HN2 := Lib.hid (Nat.lt_of_lt_of_le HN1.out hb1.size); replace B := Lib.hid (below_step B.out hb1); replace HROW := Lib.hid (row_keepB HROW.out hb1); replace HX := Lib.hid (ownsRow_belowB HX.out hb1); replace SV := Lib.hid (SV.out.below hb1); clear hown hb1 k1 SU)
          | (go_at_call 21; refine (k2 _ _ SV.out).mono ?_; rintro e w3 ⟨vz, rfl, hown, hb1⟩; obtain ⟨aZ, cZ, rfl, -⟩ := ndsO (by rw [HK.out]; exact hown); rw [HK.out] at hown ⊢; have HZ := Lib.hid hown; replace B := Lib.hid (below_step B.out hb1); replace HROW := Lib.hid (row_keepB HROW.out hb1); obtain ⟨q0, f0⟩ := row1 HROW.out; replace HX := Lib.hid (ownsRow_belowB HX.out hb1); replace HY := Lib.hid (ownsRow_belowB HY.out hb1); clear hown hb1 k2 SV))
        obtain ⟨W4, hW4, d4, hx4, hy4, hz4, hb4⟩ : ∃ W4, w3.setCell ⟨g, 0, none⟩ (.slice aN i cN) = W4 ∧ W4.cell? ⟨g, 0, none⟩ = some (.slice aN i cN) ∧ Nds W4 (.slice aN i cN) x ∧ Nds W4 (.slice aY j cY) y ∧ Nds W4 (.slice aZ k cZ) z ∧ Below w.heap.size w W4 :=
          ⟨_, rfl, (row1 (row1_set HROW.out _)).1, Few3.far HX.out HI.out HGN.out _, Few3.far HY.out HJ.out HN1.out _, Few3.far HZ.out HK.out HN2.out _, B.out.setCell (Nat.le_of_eq HG.out) _⟩
        rw [hW4]
        have SX := Lib.hid hx4; have SY := Lib.hid hy4; have SZ := Lib.hid hz4
        replace B := Lib.hid hb4
        clear hW4 hx4 hy4 hz4 hb4 q0 f0 HX HY HZ HROW HG HW HGN HN1 HN2 d0
        go_upto_region 3 with (go_at_call 22; refine (k3 _ _ _ SX.out SY.out).mono ?_; rintro e w5 ⟨vi, vn, rfl, hri, hrn, hb5⟩; obtain ⟨aI, cI, rfl, hI5⟩ := intsO (by rw [HIL.out]; exact hri); obtain ⟨aP, cP, rfl, hP5⟩ := ndsO (by rw [HKX.out]; exact hrn); rw [HIL.out] at hI5 ⊢; rw [HKX.out] at hP5 ⊢; have SI := Lib.hid hI5; have SP := Lib.hid hP5; replace SX := Lib.hid (SX.out.below hb5); replace SY := Lib.hid (SY.out.below hb5); replace SZ := Lib.hid (SZ.out.below hb5); replace d4 := cell_keep d4 hb5; replace B := Lib.hid (below_step B.out hb5); clear hb5 hri hrn k3)
        obtain ⟨W6, g6, hW6, hg6, e0, hb6⟩ := boxM w5 (.slice aP kx cP) 24
        rw [hW6, hg6]
        replace SX := Lib.hid (SX.out.below hb6); replace SY := Lib.hid (SY.out.below hb6); replace SZ := Lib.hid (SZ.out.below hb6); replace d4 := cell_keep d4 hb6; replace SP := Lib.hid (SP.out.below hb6); replace SI := Lib.hid (ints_belowB SI.out hb6); replace B := Lib.hid (below_step B.out hb6)
        clear hW6 hg6 hb6
        go_upto_region 6 with (go_at_call 22; refine (k4 _ _ _ SP.out SZ.out).mono ?_; rintro e w7 ⟨vi, vn, rfl, hri, hrn, hb7⟩; obtain ⟨a7, c7, rfl, -⟩ := intsO (by rw [HJZ.out]; exact hri); obtain ⟨aQ, cQ, rfl, hQ⟩ := ndsO (by rw [HKY.out]; exact hrn); rw [HJZ.out]; rw [HKY.out] at hQ ⊢; have SQ := Lib.hid hQ; replace SX := Lib.hid (SX.out.below hb7); replace SY := Lib.hid (SY.out.below hb7); replace SI := Lib.hid (ints_belowB SI.out hb7); replace d4 := cell_keep d4 hb7; replace e0 := cell_keep e0 hb7; replace B := Lib.hid (below_step B.out hb7); clear hb7 hri hrn hQ k4 SZ SP)
        obtain ⟨W9, g8, hW9, hg8, e9, hb9⟩ := boxM w7 (.slice aQ ky cQ) 24
        rw [hW9, hg8]
        replace SX := Lib.hid (SX.out.below hb9); replace SY := Lib.hid (SY.out.below hb9); have ST := Lib.hid (SQ.out.below hb9); replace SI := Lib.hid (ints_belowB SI.out hb9); replace d4 := cell_keep d4 hb9; replace B := Lib.hid (below_step B.out hb9)
        clear hW9 hg8 hb9 SQ e0
        go_upto_region 8 with fail
        have k5 := fun U U' w h h' => iall_any U U' Y y w h h' HYS.out SMY.out (by rw [HKY.out]; omega) (by rw [HJ.out]; omega)
        rw [show allM Y y = (I, Y, 0) by rw [allM_yes HST.out.ok HON.out, HST.out.ids, HST.out.names, HII.out]] at k5
        simp only [HIL.out, HKY.out] at k5
        have k6 := fun U w h => icheck_any U Y w h HYS.out
        rw [chkM_of HST.out.ok] at k6
        simp only [if_true] at k6
        have k7 := fun U V w hu hv => isame_any U V Y Y w hu hv
        rw [decide_eq_true rfl] at k7
        have hlen := HST.out.len
        rw [HI.out, HKY.out] at hlen
        have hlen2 : ¬ ((ky : Nat) : Int) < ((i : Nat) : Int) := by omega
        go_upto_region 9 with (go_at_call 22; refine (k5 _ _ _ ST.out SY.out).mono ?_; rintro e w10 ⟨vi, vn, rfl, hri, hrn, hb10⟩; obtain ⟨aJ, cJ, rfl, hJ5⟩ := intsO (by rw [HIL.out]; exact hri); obtain ⟨aR, cR, rfl, hR5⟩ := ndsO (by rw [HKY.out]; exact hrn); rw [HIL.out] at hJ5 ⊢; rw [HKY.out] at hR5 ⊢; have SJ := Lib.hid hJ5; have SR := Lib.hid hR5; replace SY := Lib.hid (SY.out.below hb10); replace ST := Lib.hid (ST.out.below hb10); replace SI := Lib.hid (ints_belowB SI.out hb10); replace d4 := cell_keep d4 hb10; replace e9 := cell_keep e9 hb10; replace B := Lib.hid (below_step B.out hb10); clear hb10 hri hrn hJ5 hR5 k5)
        obtain ⟨W11, g14, hW11, hg14, r0, hb11⟩ := boxM w10 (.slice aR ky cR) 24
        rw [hW11, hg14]
        replace SY := Lib.hid (SY.out.below hb11); replace ST := Lib.hid (ST.out.below hb11); replace SR := Lib.hid (SR.out.below hb11); replace SI := Lib.hid (ints_belowB SI.out hb11); replace SJ := Lib.hid (ints_belowB SJ.out hb11); replace d4 := cell_keep d4 hb11; replace e9 := cell_keep e9 hb11; replace B := Lib.hid (below_step B.out hb11)
        clear hW11 hg14 hb11
        go_wp2_with (first
          | (go_at_call 15; refine (k7 _ _ _ SR.out ST.out).mono ?_; rintro e w12 ⟨rfl, hb12⟩; replace SY := Lib.hid (SY.out.below hb12); replace ST := Lib.hid (ST.out.below hb12); replace SI := Lib.hid (ints_belowB SI.out hb12); replace SJ := Lib.hid (ints_belowB SJ.out hb12); replace d4 := cell_keep d4 hb12; replace e9 := cell_keep e9 hb12; replace B := Lib.hid (below_step B.out hb12); clear hb12 k7 SR r0)
          | (go_at_call 13; refine (k6 _ _ ST.out).mono ?_; rintro e w13 ⟨rfl, hb13⟩; replace SY := Lib.hid (SY.out.below hb13); replace ST := Lib.hid (ST.out.below hb13); replace SI := Lib.hid (ints_belowB SI.out hb13); replace SJ := Lib.hid (ints_belowB SJ.out hb13); replace d4 := cell_keep d4 hb13; replace e9 := cell_keep e9 hb13; replace B := Lib.hid (below_step B.out hb13); clear hb13 k6))
        go_loopw [16] (fun v wr => ∃ t : Nat, t ≤ j ∧ v = .int .i64 t ∧ Hid (Below w13.heap.size w13 wr)) (fun v _ => j - (intOf v).toNat)
        case atStart => exact ⟨0, Nat.zero_le _, rfl, Lib.hid (Below.refl _ _)⟩
        case round =>
          obtain ⟨t, ht, rfl, HB⟩ := hrel
          have e10 := cell_keep e9 HB.out
          by_cases hlt : t < j
          · have hkb : (t : Int) < (j : Int) := by omega
            have htY : t < y.length := by rw [HJ.out]; exact hlt
            obtain ⟨hix, hmem⟩ := HST.out.at' t htY
            rw [HII.out] at hix
            obtain ⟨bI, oI, rfl⟩ := SI.out.some (by omega)
            obtain ⟨bJ, oJ, rfl⟩ := SJ.out.some (by omega)
            have hcI := (ints_belowB SI.out HB.out).cell t hlt
            have hcJ := (ints_belowB SJ.out HB.out).cell t hlt
            rw [ids_z, hix] at hcI hcJ
            obtain ⟨bY, oY, rfl, -, hy0, hy1⟩ := (SY.out.below HB.out).at t htY
            obtain ⟨u, hu⟩ : ∃ u, u = y.getD t ([], []) := ⟨_, rfl⟩
            rw [← hu] at hcI hcJ hy0 hy1 hmem
            have h1 := at_one HST.out.ok hmem
            obtain ⟨Jt, hJt⟩ : ∃ Jt, ixN Y u = Jt := ⟨_, rfl⟩
            rw [hJt] at hcI hcJ h1
            obtain ⟨u1, u2⟩ := u
            simp only at hy0 hy1
            have k8 := fun U U' w h h' => iat_any U U' Y [(Jt : Int)] w h h' HYS.out (by simp)
            have e3 : ∀ args w, (callFunc 12 args).run Try.prog w = .ok (.enter 12 args) w := enters_of Try.func12 (by kernel_rfl) rfl
            rw [h1] at k8
            simp only [List.length_singleton] at k8
            have ST2 := Lib.hid (ST.out.below HB.out)
            clear hu hix hmem h1 hJt
            go_upto_region 14 with fail
            refine rol_run (by kernel_rfl) [[], [], [], [1, 2], [1, 2, 3], [1, 2, 3, 4], [0, 1, 2, 3, 4, 5], [0, 1, 2, 3, 4, 5, 6], [0, 1, 2, 3, 4, 5, 6, 7], [0, 1, 2, 3, 4, 5, 6, 7], [0, 1, 2, 3, 4, 5, 6, 7, 8], [0, 1, 2, 3, 4, 5, 6, 7, 8, 9, 10]] (by kernel_rfl) [98, 99, 100, 101, 102, 103, 104, 97, 105, 106, 17, 18] [[], [], [], [1, 2], [3], [4], [0, 5], [6], [7], [7], [8], [9]] [0, 0, 0, 0, 0, 1, 2, 2, 2, 0, 2, 0] [0, 0, 0, 0, 0, 1, 2, 0, 0, 0, 0, 0] [1000, 1000, 1000, 1000, 1000, 1000, 1000, 1000, 1000, 1000, 1000, 1000] [.val 98 (.agg #[.slice aQ ky cQ]), .val 99 (.slice (some ⟨bI, oI, none⟩) j cI), .val 100 (.int .i64 (t : Int)), .val 101 (.pointer (some ⟨bI, oI + t, none⟩)), .val 102 (.int .i64 (Jt : Int)), .mem 103 (blkI (Jt : Int)), .mem 104 (tupP wr.heap.size 1 [(u1, u2)] (.int .i64 0)), .mem 97 (tupP wr.heap.size 1 [(u1, u2)] (.int .i64 0)), .mem 105 (rowP wr.heap.size 1 [(u1, u2)]), .val 106 (.int .i64 0), .mem 17 (rowP wr.heap.size 1 [(u1, u2)]), .val 18 (.int .i64 0)] (by kernel_rfl) ?_ (wr.heap.size) (wr.heap.size) rfl (Below.refl _ _) rfl (fun _ => 0) ?_ ?_ ?_
            · intro j hj
              have hj3 : j < 12 := hj
              have hj2 : j = 0 ∨ j = 1 ∨ j = 2 ∨ j = 3 ∨ j = 4 ∨ j = 5 ∨ j = 6 ∨ j = 7 ∨ j = 8 ∨ j = 9 ∨ j = 10 ∨ j = 11 := by omega
              clear hj hj3
              rcases hj2 with rfl | rfl | rfl | rfl | rfl | rfl | rfl | rfl | rfl | rfl | rfl | rfl
              · exact trivial
              · exact trivial
              · exact trivial
              · exact trivial
              · exact trivial
              · exact blkI_near
              · exact tupP_near
              · exact tupP_near
              · exact rowP_near
              · exact trivial
              · exact rowP_near
              · exact trivial
            · intro j hj0 hj
              exact absurd hj (Nat.not_lt.2 hj0)
            · intro i hi a wx who hG hF
              have hz : a.tmps.size = 160 := hG.size
              have hi3 : i < 12 := hi
              have hi2 : i = 0 ∨ i = 1 ∨ i = 2 ∨ i = 3 ∨ i = 4 ∨ i = 5 ∨ i = 6 ∨ i = 7 ∨ i = 8 ∨ i = 9 ∨ i = 10 ∨ i = 11 := by omega
              clear hi hi3
              rcases hi2 with rfl | rfl | rfl | rfl | rfl | rfl | rfl | rfl | rfl | rfl | rfl | rfl
              · exact rol_val rfl rfl rfl (by rw [hz]; decide) (ex_load rfl (eval_slot ((hG.slots 11 (by decide)).trans rfl)) (ldm_names (cell_keep e10 hG.below))) hG.below
              · exact rol_val rfl rfl rfl (by rw [hz]; decide) (ex_move (Or.inl rfl) (eval_slot ((hG.slots 7 (by decide)).trans rfl))) hG.below
              · exact rol_val rfl rfl rfl (by rw [hz]; decide) (ex_move (Or.inl rfl) (eval_slot ((hG.slots 16 (by decide)).trans rfl))) hG.below
              · exact rol_val rfl rfl rfl (by rw [hz]; decide) (ex_index rfl (eval_slot (hF 1 (by decide))) (eval_slot (hF 2 (by decide))) (idx_int hlt)) hG.below
              · exact rol_val rfl rfl rfl (by rw [hz]; decide) (ex_load rfl (eval_slot (hF 3 (by decide))) (ld_int (cell_keep hcI hG.below))) hG.below
              · exact rol_one_int rfl rfl rfl (by rw [hz]; decide) rfl (eval_slot (hF 4 (by decide))) hG.below hG.new
              · obtain ⟨u0, ob, hu, -, hp⟩ := hF 5 (by decide)
                obtain ⟨b, rfl, hints⟩ := hp.ints
                refine rol_call rfl rfl rfl (by rw [hz]; decide) (ex_call rfl (by simp [eval_slot (hF 0 (by decide)), eval_slot hu]) e3) (k8 _ _ wx (ST2.out.below hG.below) hints) ?_ hG.below hG.new
                rintro e w14 ⟨vn, rfl, hown, hb14⟩
                exact ⟨_, rfl, hb14, .inr ⟨_, vn.ownBlock, rfl, fun b e => ⟨(hown.lt b e).1, (hown.lt b e).2⟩, vn, rfl, row_base hown hG.new, rfl⟩⟩
              · exact rol_move rfl rfl rfl (by rw [hz]; decide) (Or.inl rfl) (hF 6 (by decide)) hG.below
              · exact rol_ext_row rfl rfl rfl (by rw [hz]; decide) rfl (hF 7 (by decide)) hG.below
              · exact rol_ext_val rfl rfl rfl (by rw [hz]; decide) rfl (hF 7 (by decide)) hG.below
              · exact rol_move rfl rfl rfl (by rw [hz]; decide) (Or.inr rfl) (hF 8 (by decide)) hG.below
              · exact rol_val rfl rfl rfl (by rw [hz]; decide) (ex_move (Or.inr rfl) (eval_slot (hF 9 (by decide)))) hG.below
            · intro a wx who hG hF
              obtain ⟨v17, ob17, fv17, fo17, fp17⟩ := hF 10 (of_decide_eq_true (by kernel_rfl)) (of_decide_eq_true (by kernel_rfl))
              replace fv17 : a.tmps.getD 17 undef = v17 := eval_slot (s := 17) fv17
              have fv18 : a.tmps.getD 18 undef = .int .i64 0 := eval_slot (s := 18) (hF 11 (of_decide_eq_true (by kernel_rfl)) (of_decide_eq_true (by kernel_rfl)))
              have hbx := hG.below
              have hnx := hG.new
              rw [hG.frame]
              simp only [List.foldl_cons, List.foldl_nil, List.setIfInBounds_toArray, List.set_cons_zero, List.set_cons_succ]
              generalize a.tmps.getD 98 undef = u98
              generalize a.tmps.getD 99 undef = u99
              generalize a.tmps.getD 100 undef = u100
              generalize a.tmps.getD 101 undef = u101
              generalize a.tmps.getD 102 undef = u102
              generalize a.tmps.getD 103 undef = u103
              generalize a.tmps.getD 104 undef = u104
              generalize a.tmps.getD 97 undef = u97
              generalize a.tmps.getD 105 undef = u105
              generalize a.tmps.getD 106 undef = u106
              rw [fv17]
              rw [fv18]
              clear hF hG fv17 fv18
              obtain ⟨hr17, -⟩ := fp17
              obtain ⟨aE, cE, rfl, hE⟩ := ndsO (ns := [(u1, u2)]) hr17
              simp only [List.length_singleton] at hE ⊢
              obtain ⟨bE, oE, rfl, -, n0, n1⟩ := hE.at 0 (by simp)
              simp only [List.getD_cons_zero, Nat.zero_mul, Nat.add_zero] at n0 n1
              replace hy0 := cell_keep hy0 hbx; replace hy1 := cell_keep hy1 hbx; replace hcI := cell_keep hcI hbx; replace hcJ := cell_keep hcJ hbx
              have HB2 := Lib.hid (below_step HB.out hbx)
              have hgd := guard_nd
              have heq := neq_nd u1 u2 u1 u2
              rw [decide_eq_true rfl] at heq
              simp only [Bool.not_true] at heq
              clear hr17 hE fo17 hbx hnx HB e10 ST2 k8
              go_wp2_with fail
              go_quiet (fail)
              go_wp2
              go_roundw
              case rel => exact ⟨t + 1, by omega, by go_num, Lib.hid (below_step HB2.out (below_q ⟨nq, rfl⟩))⟩
              case measure => simp [intOf]; omega
          · replace e9 := cell_keep e9 HB.out; replace ST := Lib.hid (ST.out.below HB.out); replace B := Lib.hid (below_step B.out HB.out)
            clear SI SJ SY
            go_wp2
            have e4 : ∀ args w, (callFunc 10 args).run Try.prog w = .ok (.enter 10 args) w := enters_of Try.func10 (by kernel_rfl) rfl
            obtain ⟨Wc, hWc⟩ : ∃ Wc, Wc = wr := ⟨_, rfl⟩
            subst hWc
            go_loopw [19] (fun v wr => ∃ s : Nat, s ≤ ky ∧ v = .int .i64 s ∧ Hid (Below Wc.heap.size Wc wr)) (fun v _ => ky - (intOf v).toNat)
            case atStart => exact ⟨0, Nat.zero_le _, rfl, Lib.hid (Below.refl _ _)⟩
            case round =>
              obtain ⟨s, hs, rfl, HB⟩ := hrel
              have e10 := cell_keep e9 HB.out
              by_cases hls : s < ky
              · have hkb : (s : Int) < (ky : Int) := by omega
                have hsY : s < Y.length := by rw [HKY.out]; exact hls
                obtain ⟨bY, oY, rfl, -, hy0, hy1⟩ := (ST.out.below HB.out).at s hsY
                have hfd := find_at HST.out.ok hsY
                have hus := HYS.out _ (nd_mem hsY)
                obtain ⟨u, hu⟩ : ∃ u, u = Y.getD s ([], []) := ⟨_, rfl⟩
                rw [← hu] at hy0 hy1 hfd hus
                obtain ⟨u1, u2⟩ := u
                simp only at hy0 hy1
                have k9 := fun U w h => ifind_any U Y u1 u2 w h HYS.out hus
                rw [hfd] at k9
                have ST2 := Lib.hid (ST.out.below HB.out)
                clear hu hfd hus
                go_upto_region 20 with fail
                refine rol_run (by kernel_rfl) [[], [], [1], [], [1, 2, 3], [1, 2, 3, 4], [0, 1, 2, 3, 4, 5], [0, 1, 2, 3, 4, 5, 6], [0, 1, 2, 3, 4, 5, 6, 7], [0, 1, 2, 3, 4, 5, 6, 7], [0, 1, 2, 3, 4, 5, 6, 7, 8], [0, 1, 2, 3, 4, 5, 6, 7, 8, 9, 10]] (by kernel_rfl) [143, 144, 145, 146, 147, 148, 149, 142, 150, 151, 20, 21] [[], [], [1], [], [2, 3], [4], [0, 5], [6], [7], [7], [8], [9]] [0, 0, 0, 0, 0, 0, 0, 0, 0, 0, 0, 0] [0, 0, 0, 0, 0, 0, 0, 0, 0, 0, 0, 0] [1000, 1000, 1000, 1000, 1000, 1000, 1000, 1000, 1000, 1000, 1000, 1000] [.val 143 (.agg #[.slice (some ⟨bY, oY, none⟩) ky cQ]), .val 144 (.pointer (some ⟨g8, 0, none⟩)), .val 145 (.slice (some ⟨bY, oY, none⟩) ky cQ), .val 146 (.int .i64 (s : Int)), .val 147 (.pointer (some ⟨bY, oY + s * 2, none⟩)), .val 148 (.agg #[.string (mkB u1), .string (mkB u2)]), .val 149 (.tuple #[.int .i64 (s : Int), .int .i64 0]), .val 142 (.tuple #[.int .i64 (s : Int), .int .i64 0]), .val 150 (.int .i64 (s : Int)), .val 151 (.int .i64 0), .val 20 (.int .i64 (s : Int)), .val 21 (.int .i64 0)] (by kernel_rfl) ?_ (wr.heap.size) (wr.heap.size) rfl (Below.refl _ _) rfl (fun _ => 0) ?_ ?_ ?_
                · intro j hj
                  have hj3 : j < 12 := hj
                  have hj2 : j = 0 ∨ j = 1 ∨ j = 2 ∨ j = 3 ∨ j = 4 ∨ j = 5 ∨ j = 6 ∨ j = 7 ∨ j = 8 ∨ j = 9 ∨ j = 10 ∨ j = 11 := by omega
                  clear hj hj3
                  rcases hj2 with rfl | rfl | rfl | rfl | rfl | rfl | rfl | rfl | rfl | rfl | rfl | rfl
                  · exact trivial
                  · exact trivial
                  · exact trivial
                  · exact trivial
                  · exact trivial
                  · exact trivial
                  · exact trivial
                  · exact trivial
                  · exact trivial
                  · exact trivial
                  · exact trivial
                  · exact trivial
                · intro j hj0 hj
                  exact absurd hj (Nat.not_lt.2 hj0)
                · intro i hi a wx who hG hF
                  have hz : a.tmps.size = 160 := hG.size
                  have hi3 : i < 12 := hi
                  have hi2 : i = 0 ∨ i = 1 ∨ i = 2 ∨ i = 3 ∨ i = 4 ∨ i = 5 ∨ i = 6 ∨ i = 7 ∨ i = 8 ∨ i = 9 ∨ i = 10 ∨ i = 11 := by omega
                  clear hi hi3
                  rcases hi2 with rfl | rfl | rfl | rfl | rfl | rfl | rfl | rfl | rfl | rfl | rfl | rfl
                  · exact rol_val rfl rfl rfl (by rw [hz]; decide) (ex_load rfl (eval_slot ((hG.slots 11 (by decide)).trans rfl)) (ldm_names (cell_keep e10 hG.below))) hG.below
                  · exact rol_val rfl rfl rfl (by rw [hz]; decide) (ex_field rfl (eval_slot ((hG.slots 11 (by decide)).trans rfl)) (by go_simp)) hG.below
                  · exact rol_val rfl rfl rfl (by rw [hz]; decide) (ex_load rfl (eval_slot (hF 1 (by decide))) (ldm_slice (cell_keep e10 hG.below))) hG.below
                  · exact rol_val rfl rfl rfl (by rw [hz]; decide) (ex_move (Or.inl rfl) (eval_slot ((hG.slots 19 (by decide)).trans rfl))) hG.below
                  · exact rol_val rfl rfl rfl (by rw [hz]; decide) (ex_index rfl (eval_slot (hF 2 (by decide))) (eval_slot (hF 3 (by decide))) (idx_nd hls)) hG.below
                  · exact rol_val rfl rfl rfl (by rw [hz]; decide) (ex_load rfl (eval_slot (hF 4 (by decide))) (ldn_at (cell_keep hy0 hG.below) (cell_keep hy1 hG.below))) hG.below
                  · refine rol_call rfl rfl rfl (by rw [hz]; decide) (ex_call rfl (by simp [eval_slot (hF 0 (by decide)), eval_slot (hF 5 (by decide))]) e4) (k9 _ wx (ST2.out.below hG.below)) ?_ hG.below hG.new
                    rintro e w14 ⟨rfl, hb14⟩
                    exact ⟨_, rfl, hb14, .inl rfl⟩
                  · exact rol_val rfl rfl rfl (by rw [hz]; decide) (ex_move (Or.inl rfl) (eval_slot (hF 6 (by decide)))) hG.below
                  · exact rol_val rfl rfl rfl (by rw [hz]; decide) (ex_extract rfl (eval_slot (hF 7 (by decide))) rfl) hG.below
                  · exact rol_val rfl rfl rfl (by rw [hz]; decide) (ex_extract rfl (eval_slot (hF 7 (by decide))) rfl) hG.below
                  · exact rol_val rfl rfl rfl (by rw [hz]; decide) (ex_move (Or.inr rfl) (eval_slot (hF 8 (by decide)))) hG.below
                  · exact rol_val rfl rfl rfl (by rw [hz]; decide) (ex_move (Or.inr rfl) (eval_slot (hF 9 (by decide)))) hG.below
                · intro a wx who hG hF
                  have fv20 : a.tmps.getD 20 undef = .int .i64 (s : Int) := eval_slot (s := 20) (hF 10 (of_decide_eq_true (by kernel_rfl)) (of_decide_eq_true (by kernel_rfl)))
                  have fv21 : a.tmps.getD 21 undef = .int .i64 0 := eval_slot (s := 21) (hF 11 (of_decide_eq_true (by kernel_rfl)) (of_decide_eq_true (by kernel_rfl)))
                  have hbx := hG.below
                  have hnx := hG.new
                  rw [hG.frame]
                  simp only [List.foldl_cons, List.foldl_nil, List.setIfInBounds_toArray, List.set_cons_zero, List.set_cons_succ]
                  generalize a.tmps.getD 143 undef = u143
                  generalize a.tmps.getD 144 undef = u144
                  generalize a.tmps.getD 145 undef = u145
                  generalize a.tmps.getD 146 undef = u146
                  generalize a.tmps.getD 147 undef = u147
                  generalize a.tmps.getD 148 undef = u148
                  generalize a.tmps.getD 149 undef = u149
                  generalize a.tmps.getD 142 undef = u142
                  generalize a.tmps.getD 150 undef = u150
                  generalize a.tmps.getD 151 undef = u151
                  rw [fv20]
                  rw [fv21]
                  clear hF hG fv20 fv21
                  replace HB := Lib.hid (below_step HB.out hbx)
                  clear hbx hnx e10 ST2 k9 hy0 hy1
                  go_wp2
                  go_roundw
                  case rel => exact ⟨s + 1, by omega, by go_num, HB⟩
                  case measure => simp [intOf]; omega
              · replace B := Lib.hid (below_step B.out HB.out)
                go_wp2_with (go_at_call 16; refine (iawake_any _).mono ?_; rintro e w9 ⟨rfl, hb9⟩; replace B := Lib.hid (below_step B.out hb9); clear hb9)
                go_ret
                exact ⟨rfl, B.out⟩

theorem own : ownKnob Try.prog.godebug = none := by kernel_rfl
theorem laidOut : laidOutB Try.prog = true := by kernel_rfl

set_option maxRecDepth 100000 in
theorem lifted (os : Os) (started : os.Started) (H : Type) (enc : TypeId × Value → H) :
    ReturnsInHanded {} Try.checked os 5 .any (Rows.internStaysSpec.pre6 enc Try.prog Try.f5 Rows.internStaysRow.domain false) (Rows.internStaysSpec.post enc Try.prog Try.f5 false true false false) := by
  refine returnsInHanded_of_change (C := Try.checked) own started (by kernel_rfl) Try.func5
    (ChangeSpec.witness6 (enc := enc) (C := Try.checked) false ⟨#[], #[.agg #[.slice none 0 0], .slice none 0 0, .slice none 0 0], []⟩ 8 (by kernel_rfl) (by kernel_rfl) (by kernel_rfl) (by kernel_rfl)) ?_
  intro W base args ds gs before hval0 hW hcnd _
  have hval : ∀ (j : Nat) t v, Try.f5.params[j]? = some t → args[j]? = some v → Value.okWide Try.prog W .any base t v := hval0
  have hW' := hW
  obtain ⟨p, q, hA0, hV, rfl, hfz, hnd⟩ := hW
  have hA : DataW.TrodAll enc Try.prog W 0 (fun _ => true) true Try.f5.params.toList args.toList ds p := hA0
  rw [Try.params5] at hA hval
  obtain ⟨v0, vs0, d0, ds0, p0, q0, hargs, rfl, rfl, h0, r0⟩ := trodAll_cons hA
  obtain ⟨v1, vs1, d1, ds1, p1, q1, rfl, rfl, rfl, h1, r1⟩ := trodAll_cons r0
  obtain ⟨v2, vs2, d2, ds2, p2, q2, rfl, rfl, rfl, h2, r2⟩ := trodAll_cons r1
  obtain ⟨rfl, rfl, rfl⟩ := trodAll_nil r2
  obtain rfl : args = #[v0, v1, v2] := by cases args; simp_all
  obtain ⟨rfl, rfl⟩ := trodVars_none hV
  have k0 := h0
  have lt0 : ∀ x ∈ p0, x.block < W.heap.size := by obtain ⟨m, hm⟩ := k0; exact DataW.trod_lt m _ _ _ hm
  obtain ⟨z0, w0⟩ := names_open (hval 0 24 v0 rfl rfl) h0
  obtain ⟨a1, len1, cap1, rfl⟩ := okWide_slice Try.underlying22 (hval 1 22 v1 rfl rfl)
  have k1 := h1
  have lt1 : ∀ x ∈ p1, x.block < W.heap.size := by obtain ⟨m, hm⟩ := k1; exact DataW.trod_lt m _ _ _ hm
  obtain ⟨z1, w1⟩ : ∃ zs, Nds W (.slice a1 len1 cap1) zs ∧ ∀ n ∈ zs, fitsN n := by
    obtain ⟨fuel, hf⟩ := h1
    exact nds_open (by simpa [Value.cells] using hf)
  obtain ⟨a2, len2, cap2, rfl⟩ := okWide_slice Try.underlying22 (hval 2 22 v2 rfl rfl)
  have k2 := h2
  have lt2 : ∀ x ∈ p2, x.block < W.heap.size := by obtain ⟨m, hm⟩ := k2; exact DataW.trod_lt m _ _ _ hm
  obtain ⟨z2, w2⟩ : ∃ zs, Nds W (.slice a2 len2 cap2) zs ∧ ∀ n ∈ zs, fitsN n := by
    obtain ⟨fuel, hf⟩ := h2
    exact nds_open (by simpa [Value.cells] using hf)
  clear hA0 hval0
  refine (walk _ z0 _ z1 _ z2 W w0 w1 w2).mono fun e W' ⟨he, bel⟩ => ?_
  subst he
  exact ⟨_, rfl, _, _, _, [], _, [], hW', trodAll_mk1 (shut_bool Try.underlying4 _), (trodAll_cons_mk (Below.trod laidOut (by kernel_rfl) (of_decide_eq_true (by kernel_rfl)) k0 bel lt0) (trodAll_cons_mk (Below.trod laidOut (by kernel_rfl) (of_decide_eq_true (by kernel_rfl)) k1 bel lt1) (trodAll_cons_mk (Below.trod laidOut (by kernel_rfl) (of_decide_eq_true (by kernel_rfl)) k2 bel lt2) trodAll_mk0))), rfl, bel.frame _, fun h => by cases h⟩

-- the given statement
theorem proved : Rows.InternStaysSaid :=
  OpenClaim.holds_of_wide 5 Try.f5 rfl rfl rfl rfl rfl rfl rfl ⟨rfl, rfl, rfl, rfl, rfl⟩ rfl rfl rfl rfl rfl (by kernel_rfl) Try.func5 (by kernel_rfl)
    (of_decide_eq_true (by kernel_rfl)) (by unfold Func.isWrapper; first | (rw [if_pos (by decide +kernel)]; kernel_rfl) | (rw [if_neg (by decide +kernel)]; exact ⟨rfl, rfl⟩))
    (fun os started H enc _ => lifted os started H enc)
end Go.Proofs.Ythmnoepdedjhjaa.internStays
