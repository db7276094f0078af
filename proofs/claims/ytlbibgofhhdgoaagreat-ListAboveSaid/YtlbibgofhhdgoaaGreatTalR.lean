/- THE TEXTS OF OctR TalP TalQ TalR: What comes into the laws: a list of texts. The rows of nodes, and which rows may be: of the document. Which rows may be: of the document; some rows of a list. What comes in; the chapter's examples of rows. -/
import Derived.Test.YtlbibgofhhdgoaaGreatOctP
import Derived.Deep.Strs
import Derived.Lib.SmallJoins
import Derived.Test.YtlbibgofhhdgoaaGreatTalN
import Derived.Test.YtlbibgofhhdgoaaGreatNodP
import Derived.Test.YtlbibgofhhdgoaaGreatNodR
import Derived.Deep.SlicePairs
namespace Go.Proofs.YtlbibgofhhdgoaaGreat
open Go.RowKit Go.ChangeShapes Go.WideShapes
set_option maxRecDepth 100000

theorem strs_of {w : World} {a : Addr} {len cap m : Nat} {Sx : Nat → ByteArray} (hl : len ≤ cap) (hm : cap ≤ maxLen) (hlm : len ≤ m) (hx : ∀ i, i < m → w.cell? (a.add i) = some (.string (Sx i)) ∧ (Sx i).size ≤ maxLen) :
    ∃ zs, Strs w (.slice (some a) len cap) zs ∧ ∀ l ∈ zs, l.length ≤ maxLen := by
  refine ⟨(List.range len).map fun i => (Sx i).data.toList, ?_, fun l hl => ?_⟩
  · have e : ((List.range len).map fun i => (Sx i).data.toList).length = len := by simp
    refine ⟨some a, cap, by rw [e], by rw [e]; exact hl, hm, (fun h => by cases h), fun hp => ?_⟩
    rw [e] at hp ⊢
    obtain ⟨b, off, spot⟩ := a
    have h0 := (hx 0 (by omega)).1
    have hspot : spot = none := by simpa [Addr.add] using World.cell?_spot h0
    subst hspot
    refine ⟨b, off, rfl, ?_, fun j hj => ?_⟩
    · have := World.block_lt_of_cell? w _ h0
      simpa [Addr.add] using this
    · have h1 := (hx j (by omega)).1
      have h2 : (⟨b, off, none⟩ : Addr).add j = ⟨b, off + j, none⟩ := by unfold Addr.add; split <;> simp_all
      rw [h2] at h1
      rw [h1]
      unfold strV
      congr 2
      have : ((List.range len).map fun i => (Sx i).data.toList).getD j [] = (Sx j).data.toList := by
        simp [List.getD_eq_getElem?_getD, hj]
      rw [this, Lib.mk_data]
  · obtain ⟨i, hi, rfl⟩ := List.mem_map.1 hl
    have := (hx i (by have := List.mem_range.1 hi; omega)).2
    rw [Lib.size_eq] at this
    exact this

section
variable {H : Type} {enc : TypeId × Value → H} {w : World} {base : Nat} {spare : Nat → Bool} {held : Bool}
theorem strs_open {fuel : Nat} {a : Option Addr} {len cap : Nat} {x : DataW H × List MemPlace} (h : DataW.trod enc Tryz.prog w base spare held fuel 61 [.slice a len cap] = some x) :
    ∃ zs, Strs w (.slice a len cap) zs ∧ ∀ l ∈ zs, l.length ≤ maxLen := by
  rcases Go.Deep.open_strs Tryz.underlying61 Tryz.underlying9 (by kernel_rfl) h with ⟨hcs, _⟩ | ⟨ad, l, c, m, Sx, hcs, _, hl, hm, hmm, _, hx⟩
  · simp only [List.cons.injEq, Value.slice.injEq, and_true] at hcs
    obtain ⟨rfl, rfl, rfl⟩ := hcs
    exact ⟨[], strs_none w, fun l hl => by cases hl⟩
  · simp only [List.cons.injEq, Value.slice.injEq, and_true] at hcs
    obtain ⟨rfl, rfl, rfl⟩ := hcs
    exact strs_of hl hm (by rw [hmm]; split <;> omega) hx
end
end Go.Proofs.YtlbibgofhhdgoaaGreat

namespace Go.Proofs.YtlbibgofhhdgoaaGreat
open Go.RowKit
set_option linter.unusedVariables false
set_option maxRecDepth 100000

theorem bin_eql0 {k : Nat} {b : Bool} {w : World} (h : decide (k = 0) = b) : Sem.run Tryz.prog (binOp .eql 3 (.int .i64 (k : Int)) (.int .i64 0)) w = .ok (.bool b) w := by
  subst h
  by_cases h : k = 0
  · subst h; go_simp
  · rw [decide_eq_false h]
    have : ¬ (k : Int) = 0 := by omega
    go_simp

set_option maxHeartbeats 6400000 in
theorem refof_any16 (V : Value) (S : List Nd) (w : World) (hV : Nds w V S) (hl : S.length ≤ 10000) :
    Calls Tryz.prog 38 #[V] w fun e w' => ∃ x, e = .returned x ∧ RwO w' w.heap.size x (rwOf S) ∧ Below w.heap.size w w' := by
  obtain ⟨a, c, rfl, -, -, -, -⟩ := hV.ex
  have hnc := hV.lenE.2
  obtain ⟨n, hn⟩ : ∃ n, S.length = n := ⟨_, rfl⟩
  rw [hn] at hl hV hnc ⊢
  obtain ⟨hnc1, hnc2⟩ := hnc
  unfold maxLen at hnc2
  have SS := Lib.hid hV; have HN := Lib.hid hn; have hnl := hl
  obtain ⟨R, hR⟩ : ∃ R, rwOf S = R := ⟨_, rfl⟩
  rw [hR]
  have HR := Lib.hid hR
  obtain ⟨N0, hN0⟩ : ∃ N, w.heap.size = N := ⟨_, rfl⟩
  have HN0 := Lib.hid hN0
  rw [hN0]
  clear hV hl hn hR hN0
  go_enter Tryz.func38, Tryz.ntmps38
  go_wp2
  go_loopw [3, 4] (fun v6 i wr => ∃ (k : Nat) (X : Value), k ≤ n ∧ i = .int .i64 k ∧ X = v6 ∧ Hid (OfI wr N0 X (rwOf (S.take k))) ∧ Hid (Below N0 w wr)) (fun _ i _ => n - (intOf i).toNat)
  case atStart => exact ⟨0, _, Nat.zero_le _, rfl, rfl, Lib.hid (.inl ⟨rfl, rfl⟩), Lib.hid (Below.refl _ _)⟩
  case round =>
    obtain ⟨k, X, hk, rfl, rfl, HO, HB⟩ := hrel
    by_cases hlt : k < n
    · have hkl : k < S.length := by rw [HN.out]; exact hlt
      obtain ⟨bs, os, rfl, -, c0, c1'⟩ := SS.out.at k hkl
      have hbw : Below w.heap.size w wr := by rw [HN0.out]; exact HB.out
      have htk := rwOf_take hkl
      have hTl : (rwOf (S.take k)).length ≤ k := Nat.le_trans (rwOf_len _) (by rw [List.length_take]; omega)
      have htp := fun h0 : 0 < k => rwOf_last (s := S) h0 (by omega)
      have hcp : ∀ kp, k = kp + 1 → w.cell? ⟨bs, os + kp * 2, none⟩ = some (.string (mkB (S.getD kp ([], [])).1)) := fun kp e => (nd_at SS.out (by omega)).1
      obtain ⟨y, hy⟩ : ∃ y, y = S.getD k ([], []) := ⟨_, rfl⟩
      rw [← hy] at c0 c1' htk
      obtain ⟨p2, v⟩ := y
      simp only at c0 c1' htk
      obtain ⟨T, hT⟩ : ∃ T, rwOf (S.take k) = T := ⟨_, rfl⟩
      have hvl : ∀ T0 p vs, T = T0 ++ [(p, vs)] → vs.length ≤ k := fun T0 p vs e => Nat.le_trans (vers_len (s := S.take k) (by rw [hT]; exact e)) (by rw [List.length_take]; omega)
      have hT0 : k = 0 → T = [] := fun e => by rw [← hT, e]; rfl
      rw [hT] at HO htk hTl htp
      have hkb : (k : Int) < (n : Int) := by omega
      have HTK := Lib.hid htk; have HTL0 := Lib.hid hTl; have HVL := Lib.hid hvl; have HNS0 := Lib.hid (show N0 ≤ wr.heap.size by rw [← HN0.out]; exact hbw.size); have HTP := Lib.hid htp; have HCP := Lib.hid hcp; have HT0 := Lib.hid hT0
      have C0 := Lib.hid (cell_keep c0 hbw); have CV := Lib.hid c1'; have HKN := Lib.hid hlt; have HKB := Lib.hid (show k ≤ 1000000 by omega)
      have HBW := Lib.hid hbw
      clear hy htk hTl hvl hT c0 c1' hbw htp hcp hT0
      by_cases h0 : k = 0
      · have HK0 := Lib.hid (show decide (k = 0) = true from decide_eq_true h0)
        have HAH := Lib.hid (show ∀ r ∈ T, r.1 ≠ (p2, v).1 from fun r hr => by rw [HT0.out h0] at hr; cases hr)
        clear h0
        obtain ⟨a0, c0, rfl⟩ := HO.out.len
        obtain ⟨t, ht⟩ : ∃ t, T.length = t := ⟨_, rfl⟩
        have HOW0 := Lib.hid HO.out.own
        have htk2 : t ≤ 10000 := by have := HTL0.out; omega
        have HTL := Lib.hid ht
        rw [ht] at HOW0 ⊢
        clear ht HO
        go_upto_region 5 with fail
        refine rol_run (by kernel_rfl) [[], [0], [0, 1], [0, 1, 2], [0, 1, 2], [0, 1, 2, 3, 4], [0, 1, 2, 3, 4, 5], [0, 1, 2, 3, 4, 5, 6], [0, 1, 2], [0, 1, 2], [0, 1, 2, 9], [0, 1, 2, 8, 9, 10], [0, 1, 2, 8, 9, 10, 11], [0, 1, 2, 8, 9, 10, 11, 12], [0, 1, 2, 3, 4, 5, 6, 7, 8, 9, 10, 11, 12, 13], [0, 1, 2, 3, 4, 5, 6, 7, 8, 9, 10, 11, 12, 13, 14]] (by kernel_rfl) [12, 13, 14, 15, 16, 17, 18, 19, 20, 21, 22, 23, 24, 25, 26, 27] [[], [0], [1], [2], [2], [2], [2], [2], [2], [2], [2], [2], [2], [2], [2], [2]] [0, 0, 0, 0, 0, 0, 0, 0, 0, 0, 0, 0, 0, 0, 0, 0] [0, 0, 0, 0, 0, 0, 0, 0, 0, 0, 0, 0, 0, 0, 0, 0] [1000, 1000, 1000, 1000, 1000, 1000, 1000, 1000, 1000, 1000, 1000, 1000, 1000, 1000, 1000, 1000] [.val 12 (.int .i64 (k : Int)), .val 13 (.bool true), .val 14 (.bool true), .val 15 undef, .val 16 undef, .val 17 undef, .val 18 undef, .val 19 undef, .val 20 undef, .val 21 undef, .val 22 undef, .val 23 undef, .val 24 undef, .val 25 undef, .val 26 undef, .val 27 (.bool true)] (by kernel_rfl) ?_ (wr.heap.size) (wr.heap.size) rfl (Below.refl _ _) rfl (fun _ => 0) ?_ ?_ ?_
        · intro j hj
          have hj3 : j < 16 := hj
          have hj2 : j = 0 ∨ j = 1 ∨ j = 2 ∨ j = 3 ∨ j = 4 ∨ j = 5 ∨ j = 6 ∨ j = 7 ∨ j = 8 ∨ j = 9 ∨ j = 10 ∨ j = 11 ∨ j = 12 ∨ j = 13 ∨ j = 14 ∨ j = 15 := by omega
          clear hj hj3
          rcases hj2 with rfl | rfl | rfl | rfl | rfl | rfl | rfl | rfl | rfl | rfl | rfl | rfl | rfl | rfl | rfl | rfl
          · exact trivial
          · exact trivial
          · exact trivial
          · exact trivial
          · exact trivial
          · exact trivial
          · exact trivial
          · exact trivial
          · exact trivial
          · exact trivial
          · exact trivial
          · exact trivial
          · exact trivial
          · exact trivial
          · exact trivial
          · exact trivial
        · intro j hj0 hj
          exact absurd hj (Nat.not_lt.2 hj0)
        · intro i hi a wx who hG hF
          have hz : a.tmps.size = 57 := hG.size
          have hi3 : i < 16 := hi
          have hi2 : i = 0 ∨ i = 1 ∨ i = 2 ∨ i = 3 ∨ i = 4 ∨ i = 5 ∨ i = 6 ∨ i = 7 ∨ i = 8 ∨ i = 9 ∨ i = 10 ∨ i = 11 ∨ i = 12 ∨ i = 13 ∨ i = 14 ∨ i = 15 := by omega
          clear hi hi3
          rcases hi2 with rfl | rfl | rfl | rfl | rfl | rfl | rfl | rfl | rfl | rfl | rfl | rfl | rfl | rfl | rfl | rfl
          · exact rol_val rfl rfl rfl (by rw [hz]; decide) (ex_move (Or.inl rfl) (eval_slot ((hG.slots 4 (by decide)).trans rfl))) hG.below
          · exact rol_val rfl rfl rfl (by rw [hz]; decide) (ex_bin rfl (eval_slot (hF 0 (by decide))) rfl (by go_simp) (bin_eql0 HK0.out)) hG.below
          · exact rol_val rfl rfl rfl (by rw [hz]; decide) (ex_move (Or.inl rfl) (eval_slot (hF 1 (by decide)))) hG.below
          · exact rol_val_skip rfl (want_no rfl rfl (hF 2 (by decide)) (by decide)) rfl (by rw [hz]; decide) hG.below
          · exact rol_val_skip rfl (want_no rfl rfl (hF 2 (by decide)) (by decide)) rfl (by rw [hz]; decide) hG.below
          · exact rol_val_skip rfl (want_no rfl rfl (hF 2 (by decide)) (by decide)) rfl (by rw [hz]; decide) hG.below
          · exact rol_val_skip rfl (want_no rfl rfl (hF 2 (by decide)) (by decide)) rfl (by rw [hz]; decide) hG.below
          · exact rol_val_skip rfl (want_no rfl rfl (hF 2 (by decide)) (by decide)) rfl (by rw [hz]; decide) hG.below
          · exact rol_val_skip rfl (want_no rfl rfl (hF 2 (by decide)) (by decide)) rfl (by rw [hz]; decide) hG.below
          · exact rol_val_skip rfl (want_no rfl rfl (hF 2 (by decide)) (by decide)) rfl (by rw [hz]; decide) hG.below
          · exact rol_val_skip rfl (want_no rfl rfl (hF 2 (by decide)) (by decide)) rfl (by rw [hz]; decide) hG.below
          · exact rol_val_skip rfl (want_no rfl rfl (hF 2 (by decide)) (by decide)) rfl (by rw [hz]; decide) hG.below
          · exact rol_val_skip rfl (want_no rfl rfl (hF 2 (by decide)) (by decide)) rfl (by rw [hz]; decide) hG.below
          · exact rol_val_skip rfl (want_no rfl rfl (hF 2 (by decide)) (by decide)) rfl (by rw [hz]; decide) hG.below
          · exact rol_val_skip rfl (want_no rfl rfl (hF 2 (by decide)) (by decide)) rfl (by rw [hz]; decide) hG.below
          · exact rol_val rfl rfl rfl (by rw [hz]; decide) (ex_pick_yes rfl (eval_slot (hF 2 (by decide))) rfl) hG.below
        · intro a wx who hG hF
          have fv27 : a.tmps.getD 27 undef = .bool true := eval_slot (s := 27) (hF 15 (of_decide_eq_true (by kernel_rfl)) (of_decide_eq_true (by kernel_rfl)))
          have hbx := hG.below
          have hnx := hG.new
          rw [hG.frame]
          simp only [List.foldl_cons, List.foldl_nil, List.setIfInBounds_toArray, List.set_cons_zero, List.set_cons_succ]
          generalize a.tmps.getD 12 undef = u12
          generalize a.tmps.getD 13 undef = u13
          generalize a.tmps.getD 14 undef = u14
          generalize a.tmps.getD 15 undef = u15
          generalize a.tmps.getD 16 undef = u16
          generalize a.tmps.getD 17 undef = u17
          generalize a.tmps.getD 18 undef = u18
          generalize a.tmps.getD 19 undef = u19
          generalize a.tmps.getD 20 undef = u20
          generalize a.tmps.getD 21 undef = u21
          generalize a.tmps.getD 22 undef = u22
          generalize a.tmps.getD 23 undef = u23
          generalize a.tmps.getD 24 undef = u24
          generalize a.tmps.getD 25 undef = u25
          generalize a.tmps.getD 26 undef = u26
          rw [fv27]
          clear hF hG fv27
          have HBX := Lib.hid (show Below N0 w wx from HB.out.trans (hbx.mono HNS0.out)); have HNX5 := Lib.hid (Nat.le_trans HNS0.out hbx.size)
          have HOW := Lib.hid (HOW0.out.below hbx)
          have e0 := cell_keep C0.out hbx
          clear hbx hnx
          obtain ⟨ys, hr1, hI1⟩ := HOW.out
          have HI1 := Lib.hid hI1
          have HR1 := Lib.hid hr1
          clear hr1 hI1
          have hlt1 : t ≤ 1000000 := by omega
          go_upto_region 7 with (at_builtin; refine wpList_push_rw rfl _ _ rfl N0 (.slice a0 t c0) T ys (t) HTL.out HI1.out.1 rfl (by first | exact HR1.out | (have h := HR1.out; rw [HTL.out] at h; exact h)) (p2, []) (.slice none 0 0) rfl _ rfl rfl hlt1 HNX5.out ?_; intro a3 c3 w3 h3 hg3 ht3; have HX3 := Lib.hid h3; have HZ := Lib.hid (HI1.out.keep ht3); have HB6 := Lib.hid (HBX.out.grown hg3 HNX5.out (fun b e => (own_lt HR1.out e).1)); have HNS := Lib.hid (Nat.le_trans HNX5.out hg3.size); clear h3 hg3 ht3)
          obtain ⟨W6, hW6⟩ : ∃ v, v = w3 := ⟨_, rfl⟩
          subst hW6
          obtain ⟨Y, hYY⟩ : ∃ Y, Value.slice none 0 0 = Y := ⟨_, rfl⟩
          have HY := Lib.hid (show W6.ownsRow N0 9 1 Y ([] : List (List UInt8)).length (strC []) by rw [← hYY]; exact World.ownsRow_nil _ _ _ _)
          have hX3 := HX3.out
          rw [hYY, rwC_app [(p2, [])] [Y] HI1.out.1, rwC_one'] at hX3
          obtain ⟨T0, hT0⟩ : ∃ T0, T = T0 := ⟨_, rfl⟩
          obtain ⟨p, hp⟩ : ∃ p, p2 = p := ⟨_, rfl⟩
          obtain ⟨vs, hvs⟩ : ∃ vs, ([] : List (List UInt8)) = vs := ⟨_, rfl⟩
          obtain ⟨zs, hzs⟩ : ∃ zs, ys = zs := ⟨_, rfl⟩
          have hTl := HTL.out
          rw [hT0] at hTl hX3 HZ
          rw [hp, hzs] at hX3
          rw [hzs] at HZ
          rw [hvs] at HY
          have HX := Lib.hid (show W6.ownsRow N0 63 2 (.slice a3 (T0.length + 1) c3) (T0.length + 1) (rwC T0 zs ++ [.string (mkB p), Y]) by rw [hTl]; exact hX3)
          have HD := Lib.hid (show ∀ j, j < T0.length → ∀ b, (zs.getD j undef).ownBlock = some b → Y.ownBlock ≠ some b from fun j _ b _ e => by rw [← hYY] at e; cases e)
          obtain ⟨vs2, hvs2⟩ : ∃ l, l = vs ++ [v] := ⟨_, rfl⟩
          have HVS2 := Lib.hid hvs2
          have HPU := Lib.hid (show pushR T (p2, v) = T0 ++ [(p, vs2)] by rw [hvs2, ← hvs, ← hp, ← hT0]; exact push_ahead HAH.out)
          have hq0 : vs.length ≤ 1000000 := by rw [← hvs]; decide
          have ht5 : T0.length ≤ 100000 := by rw [hTl]; omega
          have hTl2 := Lib.hid hTl
          rw [← hTl]
          clear HX3 hX3 hT0 hp hvs hzs hTl hvs2 hYY HI1 HR1 HOW HTL HAH
          obtain ⟨ay, cy, rfl⟩ := own_form HY.out
          obtain ⟨gx, cx, cur, hXe, hgx, hrx⟩ := row_head HX.out
          first | subst hXe | (injection hXe with ea eb ec; subst ea; have ec2 := ec.symm; clear ec; subst ec2)
          obtain ⟨m, hm⟩ : ∃ m, T0.length = m := ⟨_, rfl⟩
          obtain ⟨q, hq⟩ : ∃ q, vs.length = q := ⟨_, rfl⟩
          have hcl := rwC_last (p := p) (Y := .slice ay vs.length cy) HZ.out.1 hm
          have hcell := fun w' hw j hj => cell_ofrow HX.out hrx w' hw j hj
          have hcsz := cur_size HX.out hrx
          rw [hm] at hcell hcsz HX
          rw [hq] at HX HY HD hcl hcell
          have HPC := Lib.hid (show ∀ w', w'.heap[gx]? = some (.cells cur 63 (0, 0)) → w'.cell? ⟨gx, m * 2, none⟩ = some (.string (mkB p)) from fun w' hw => (hcell w' hw (m * 2) (by omega)).trans hcl.1)
          have HYC := Lib.hid (show ∀ w', w'.heap[gx]? = some (.cells cur 63 (0, 0)) → w'.cell? ⟨gx, m * 2 + 1, none⟩ = some (.slice ay q cy) from fun w' hw => (hcell w' hw (m * 2 + 1) (by omega)).trans hcl.2)
          have HCS := Lib.hid (show m * 2 + 1 < cur.size by omega)
          have HGX := Lib.hid hgx; have RX := Lib.hid hrx; have HTM := Lib.hid hm; have HVQ := Lib.hid hq
          clear hcl hcell hcsz hgx hrx hm hq
          have HQB := Lib.hid (show q ≤ 1000000 by have := HVQ.out; omega)
          have hmb : m ≤ 100000 := by have := HTM.out; omega
          rw [HTM.out]
          obtain ⟨whoF, hwho⟩ : ∃ f : Nat → Nat, f = (fun b => if b = gx then 2 else if Value.ownBlock (.slice ay q cy) = some b then 1 else 3) := ⟨_, rfl⟩
          have HWX := Lib.hid (show whoF gx = 2 by rw [hwho]; exact if_pos rfl)
          have HWY := Lib.hid (show ∀ b, Value.ownBlock (.slice ay q cy) = some b → whoF b = 1 from fun b e => by rw [hwho]; exact (if_neg (fun q2 => own_nebox HY.out RX.out (by decide) (by rw [← q2]; exact e))).trans (if_pos e))
          have HWZ := Lib.hid (show ∀ j, j < T0.length → ∀ b, (zs.getD j undef).ownBlock = some b → whoF b = 3 from fun j hj b e => by rw [hwho]; exact (if_neg (fun q2 => own_nebox (HZ.out.2 j hj) RX.out (by decide) (by rw [← q2]; exact e))).trans (if_neg (HD.out j hj b e)))
          clear hwho
          go_upto_region 8 with fail
          refine rol_run (by kernel_rfl) [[], [], [], [], [2, 3], [2, 3, 4], [2, 3, 4, 5], [], [], [7, 8], [7, 8, 9], [7, 8, 9, 10], [7, 8, 9, 10, 11], [2, 3, 4, 5, 6, 7, 8, 9, 10, 11, 12], [0, 1, 2, 3, 4, 5, 6, 7, 8, 9, 10, 11, 12, 13], [0, 1, 2, 3, 4, 5, 6, 7, 8, 9, 10, 11, 12, 13, 14], [0, 1, 2, 3, 4, 5, 6, 7, 8, 9, 10, 11, 12, 13, 14, 15]] (by kernel_rfl) [40, 41, 42, 43, 44, 45, 46, 47, 48, 49, 50, 51, 52, 53, 54, 55] [[], [], [], [], [2, 3], [4], [5, 17], [], [], [7, 8], [9], [10], [11], [6, 12, 18], [0, 1], [14], [13, 17, 15]] [0, 0, 0, 0, 0, 0, 0, 0, 0, 0, 0, 0, 4, 1, 0, 0, 2, 2, 1, 3] [0, 0, 0, 0, 0, 0, 0, 0, 0, 0, 0, 0, 0, 1, 0, 0, 2] [1000, 1000, 1000, 1000, 1000, 1000, 1000, 1000, 1000, 1000, 1000, 1000, 1000, 1000, 1000, 1000, 1000, 16, 13, 1000] [.val 40 (.slice (some ⟨gx, 0, none⟩) (m + 1) cx), .val 41 (.int .i64 (m : Int)), .val 42 (.slice (some ⟨gx, 0, none⟩) (m + 1) cx), .val 43 (.int .i64 (m : Int)), .val 44 (.pointer (some ⟨gx, m * 2, none⟩)), .val 45 (.pointer (some ⟨gx, m * 2 + 1, none⟩)), .val 46 (.slice ay q cy), .val 47 (.slice (some ⟨bs, os, none⟩) n c), .val 48 (.int .i64 (k : Int)), .val 49 (.pointer (some ⟨bs, os + k * 2, none⟩)), .val 50 (.pointer (some ⟨bs, os + k * 2 + 1, none⟩)), .val 51 (.string (mkB v)), .mem 52 (blkG 9 #[.string (mkB v)] 1), .mem 53 (rowG N0 9 1 (q + 1) (strC vs2)), .val 54 (.pointer (some ⟨gx, m * 2, none⟩)), .val 55 (.pointer (some ⟨gx, m * 2 + 1, none⟩)), .mem 53 (rowsF gx cur (m * 2 + 1)), .box (gx) (.cells cur 63), .mem 3 (rowX (.slice ay q cy) N0 9 1 q (strC vs)), .mems 3 (vsI N0 zs T0)] (by kernel_rfl) ?_ (N0) (W6.heap.size) rfl HB6.out rfl (whoF) ?_ ?_ ?_
          · intro j hj
            have hj3 : j < 20 := hj
            have hj2 : j = 0 ∨ j = 1 ∨ j = 2 ∨ j = 3 ∨ j = 4 ∨ j = 5 ∨ j = 6 ∨ j = 7 ∨ j = 8 ∨ j = 9 ∨ j = 10 ∨ j = 11 ∨ j = 12 ∨ j = 13 ∨ j = 14 ∨ j = 15 ∨ j = 16 ∨ j = 17 ∨ j = 18 ∨ j = 19 := by omega
            clear hj hj3
            rcases hj2 with rfl | rfl | rfl | rfl | rfl | rfl | rfl | rfl | rfl | rfl | rfl | rfl | rfl | rfl | rfl | rfl | rfl | rfl | rfl | rfl
            · exact trivial
            · exact trivial
            · exact trivial
            · exact trivial
            · exact trivial
            · exact trivial
            · exact trivial
            · exact trivial
            · exact trivial
            · exact trivial
            · exact trivial
            · exact trivial
            · exact blkG_near
            · exact rowG_near
            · exact trivial
            · exact trivial
            · exact rowsF_near
            · exact trivial
            · exact rowX_near
            · exact vsI_near
          · intro j hj0 hj
            have hj1 : 17 ≤ j := hj0
            have hj3 : j < 20 := hj
            have hj2 : j = 17 ∨ j = 18 ∨ j = 19 := by omega
            clear hj0 hj hj1 hj3
            rcases hj2 with rfl | rfl | rfl
            · exact ⟨RX.out, HWX.out⟩
            · exact ⟨_, _, rfl, fun b e => ⟨(own_lt HY.out e).2, HWY.out b e⟩, HY.out, rfl⟩
            · exact ⟨_, fun b => ∃ j, j < T0.length ∧ (zs.getD j undef).ownBlock = some b, rfl, fun b e => by obtain ⟨j, hj, e⟩ := e; exact ⟨((HZ.out.2 j hj).lt b e).2, HWZ.out j hj b e⟩, HZ.out, fun j hj b e => ⟨j, hj, e⟩⟩
          · intro i hi a wx who hG hF
            have hz : a.tmps.size = 57 := hG.size
            have hi3 : i < 17 := hi
            have hi2 : i = 0 ∨ i = 1 ∨ i = 2 ∨ i = 3 ∨ i = 4 ∨ i = 5 ∨ i = 6 ∨ i = 7 ∨ i = 8 ∨ i = 9 ∨ i = 10 ∨ i = 11 ∨ i = 12 ∨ i = 13 ∨ i = 14 ∨ i = 15 ∨ i = 16 := by omega
            clear hi hi3
            rcases hi2 with rfl | rfl | rfl | rfl | rfl | rfl | rfl | rfl | rfl | rfl | rfl | rfl | rfl | rfl | rfl | rfl | rfl
            · exact rol_val rfl rfl rfl (by rw [hz]; decide) (ex_move (Or.inl rfl) (eval_slot ((hG.slots 3 (by decide)).trans rfl))) hG.below
            · exact rol_val rfl rfl rfl (by rw [hz]; decide) (ex_move (Or.inl rfl) (eval_slot ((hG.slots 5 (by decide)).trans rfl))) hG.below
            · exact rol_val rfl rfl rfl (by rw [hz]; decide) (ex_move (Or.inl rfl) (eval_slot ((hG.slots 3 (by decide)).trans rfl))) hG.below
            · exact rol_val rfl rfl rfl (by rw [hz]; decide) (ex_move (Or.inl rfl) (eval_slot ((hG.slots 5 (by decide)).trans rfl))) hG.below
            · exact rol_val rfl rfl rfl (by rw [hz]; decide) (ex_index rfl (eval_slot (hF 2 (by decide))) (eval_slot (hF 3 (by decide))) (by have h := idx_rws (b := gx) (off := 0) (n := m + 1) (c := cx) (k := m) (w := wx) (Nat.lt_succ_self m); rw [Nat.zero_add] at h; exact h)) hG.below
            · exact rol_val rfl rfl rfl (by rw [hz]; decide) (ex_field rfl (eval_slot (hF 4 (by decide))) (by go_simp)) hG.below
            · exact rol_val rfl rfl rfl (by rw [hz]; decide) (ex_load rfl (eval_slot (hF 5 (by decide))) (ld_stsT (HYC.out wx (hF 17 (by decide)).1))) hG.below
            · exact rol_val rfl rfl rfl (by rw [hz]; decide) (ex_move (Or.inl rfl) (eval_slot ((hG.slots 0 (by decide)).trans rfl))) hG.below
            · exact rol_val rfl rfl rfl (by rw [hz]; decide) (ex_move (Or.inl rfl) (eval_slot ((hG.slots 4 (by decide)).trans rfl))) hG.below
            · exact rol_val rfl rfl rfl (by rw [hz]; decide) (ex_index rfl (eval_slot (hF 7 (by decide))) (eval_slot (hF 8 (by decide))) (idx_nds HKN.out)) hG.below
            · exact rol_val rfl rfl rfl (by rw [hz]; decide) (ex_field rfl (eval_slot (hF 9 (by decide))) (by go_simp)) hG.below
            · exact rol_val rfl rfl rfl (by rw [hz]; decide) (ex_load rfl (eval_slot (hF 10 (by decide))) (ld_strT (cell_keep CV.out (by rw [HN0.out]; exact hG.below)))) hG.below
            · exact rol_newO rfl rfl rfl (by rw [hz]; decide) (x := .cells #[.string (mkB v)] 9) (v := .slice (some ⟨wx.heap.size, 0, none⟩) 1 1) (ex_slice rfl (vs := #[(0, .string (mkB v))]) (by simp only [List.map_toArray, List.map_cons, List.map_nil, eval_slot (hF 11 (by decide))]) (by go_simp)) ⟨_, rfl, rfl, heap_alloc_new _ _⟩ hG.below (Nat.le_trans HNS.out hG.new)
            · exact rol_pushS rfl rfl rfl (by rw [hz]; decide) rfl (hF 18 (by decide)) (eval_slot (hF 6 (by decide))) (hF 12 (by decide)) HQB.out hG.below (Nat.le_refl _) (Nat.le_trans HNS.out hG.new) rfl HVS2.out
            · exact rol_val rfl rfl rfl (by rw [hz]; decide) (ex_index rfl (eval_slot (hF 0 (by decide))) (eval_slot (hF 1 (by decide))) (by have h := idx_rws (b := gx) (off := 0) (n := m + 1) (c := cx) (k := m) (w := wx) (Nat.lt_succ_self m); rw [Nat.zero_add] at h; exact h)) hG.below
            · exact rol_val rfl rfl rfl (by rw [hz]; decide) (ex_field rfl (eval_slot (hF 14 (by decide))) (by go_simp)) hG.below
            · exact rol_setR rfl rfl rfl rfl (eval_slot (hF 15 (by decide))) (hF 13 (by decide)) (hF 17 (by decide)) HCS.out hG.below HGX.out
          · intro a wx who hG hF
            have hap := hF 13 (of_decide_eq_true (by kernel_rfl)) (of_decide_eq_true (by kernel_rfl))
            have hst := hF 16 (of_decide_eq_true (by kernel_rfl)) (of_decide_eq_true (by kernel_rfl))
            have hzz := hF 19 (of_decide_eq_true (by kernel_rfl)) (of_decide_eq_true (by kernel_rfl))
            have hbx := hG.below
            have hnx := hG.new
            rw [hG.frame]
            simp only [List.foldl_cons, List.foldl_nil, List.setIfInBounds_toArray, List.set_cons_zero, List.set_cons_succ]
            generalize a.tmps.getD 40 undef = u40
            generalize a.tmps.getD 41 undef = u41
            generalize a.tmps.getD 42 undef = u42
            generalize a.tmps.getD 43 undef = u43
            generalize a.tmps.getD 44 undef = u44
            generalize a.tmps.getD 45 undef = u45
            generalize a.tmps.getD 46 undef = u46
            generalize a.tmps.getD 47 undef = u47
            generalize a.tmps.getD 48 undef = u48
            generalize a.tmps.getD 49 undef = u49
            generalize a.tmps.getD 50 undef = u50
            generalize a.tmps.getD 51 undef = u51
            generalize a.tmps.getD 52 undef = u52
            generalize a.tmps.getD 53 undef = u53
            generalize a.tmps.getD 54 undef = u54
            generalize a.tmps.getD 55 undef = u55
            clear hF hG
            obtain ⟨va, oba, hva, hoba, hra, rfl⟩ := hap
            obtain ⟨vb, obb, hvb, -, -, hrb⟩ := hst
            have evb : va = vb := Option.some.inj (hva.symm.trans hvb)
            subst evb
            obtain ⟨_, bsz, -, hbz, hIz, hkz⟩ := hzz
            have HNX := Lib.hid (show OfI wx N0 (.slice (some ⟨gx, 0, none⟩) (m + 1) cx) (T0 ++ [(p, vs2)]) from .inr ⟨T0, p, vs2, zs, va, rfl, by rw [HTM.out]; have h5 := own_setlast (w := W6) (w' := wx) (T0 := T0) (zs := zs) (p := p) (Y := .slice ay q cy) (Y' := va) (cur := cur) (N := N0) (cap := cx) HZ.out.1 (by rw [HTM.out]; exact HX.out) RX.out (by rw [HTM.out]; exact hrb); rw [HTM.out] at h5; exact h5, hIz, by rw [show vs2.length = q + 1 by rw [HVS2.out, List.length_append, HVQ.out]; rfl]; exact hra, fun j hj b e q2 => by have h1 := (hbz b (hkz j hj b e)).2; have h2 := (hoba b q2).2; rw [h1] at h2; cases h2⟩)
            clear hva hvb hoba hra hrb hbz hIz hkz
            have HBN := Lib.hid hbx
            clear hbx hnx
            go_wp2
            go_roundw
            case rel => exact ⟨k + 1, _, by omega, by go_num, rfl, Lib.hid (by rw [HTK.out, HPU.out]; exact HNX.out), HBN⟩
            case measure => simp [intOf]; omega
      · have HK0 := Lib.hid (show decide (k = 0) = false from decide_eq_false h0)
        obtain ⟨kp, hkp⟩ : ∃ j, k = j + 1 := ⟨k - 1, by omega⟩
        obtain ⟨T0, vs, hT⟩ := HTP.out (by omega)
        rw [show k - 1 = kp by omega] at hT
        have hcp := cell_keep (HCP.out kp hkp) HBW.out
        obtain ⟨p, hp⟩ : ∃ p, p = (S.getD kp ([], [])).1 := ⟨_, rfl⟩
        rw [← hp] at hT hcp
        have CP := Lib.hid hcp; have HKP := Lib.hid hkp; have HKPN := Lib.hid (show kp < n by omega)
        clear hcp hp hkp h0 HTP HCP HT0
        by_cases hpq : p2 = p
        · have HPQ := Lib.hid (show decide (p2 = p) = !false by rw [decide_eq_true hpq]; rfl)
          have HVL1 := Lib.hid (HVL.out T0 p vs hT)
          obtain ⟨h5, -⟩ | ⟨T1, p1, vs1, zs, Y, h5, h1, h2, h3, h4⟩ := HO.out
          · exact absurd (hT.symm.trans h5) (by simp)
          obtain ⟨e1, e2⟩ := List.append_inj' (hT.symm.trans h5) rfl
          simp only [List.cons.injEq, Prod.mk.injEq, and_true] at e2
          obtain ⟨e2, e3⟩ := e2
          subst e1 e2 e3
          have HX := Lib.hid h1; have HZ := Lib.hid h2; have HY := Lib.hid h3; have HD := Lib.hid h4
          have hTl := HTL0.out
          rw [hT, List.length_append] at hTl
          have HTT := Lib.hid hT
          have htk2 : T0.length ≤ 10000 := by simp at hTl; omega
          clear h1 h2 h3 h4 h5 hT hTl HO HVL
          obtain ⟨vs2, hvs2⟩ : ∃ l, l = vs ++ [v] := ⟨_, rfl⟩
          have HVS2 := Lib.hid hvs2
          have HPU := Lib.hid (show pushR T (p2, v) = T0 ++ [(p, vs2)] by rw [hvs2, hpq, HTT.out]; exact push_same T0 p vs v)
          clear hvs2 hpq
          obtain ⟨ay, cy, rfl⟩ := own_form HY.out
          obtain ⟨gx, cx, cur, hXe, hgx, hrx⟩ := row_head HX.out
          first | subst hXe | (injection hXe with ea eb ec; subst ea; have ec2 := ec.symm; clear ec; subst ec2)
          obtain ⟨m, hm⟩ : ∃ m, T0.length = m := ⟨_, rfl⟩
          obtain ⟨q, hq⟩ : ∃ q, vs.length = q := ⟨_, rfl⟩
          have hcl := rwC_last (p := p) (Y := .slice ay vs.length cy) HZ.out.1 hm
          have hcell := fun w' hw j hj => cell_ofrow HX.out hrx w' hw j hj
          have hcsz := cur_size HX.out hrx
          rw [hm] at hcell hcsz HX
          rw [hq] at HX HY HD hcl hcell
          have HPC := Lib.hid (show ∀ w', w'.heap[gx]? = some (.cells cur 63 (0, 0)) → w'.cell? ⟨gx, m * 2, none⟩ = some (.string (mkB p)) from fun w' hw => (hcell w' hw (m * 2) (by omega)).trans hcl.1)
          have HYC := Lib.hid (show ∀ w', w'.heap[gx]? = some (.cells cur 63 (0, 0)) → w'.cell? ⟨gx, m * 2 + 1, none⟩ = some (.slice ay q cy) from fun w' hw => (hcell w' hw (m * 2 + 1) (by omega)).trans hcl.2)
          have HCS := Lib.hid (show m * 2 + 1 < cur.size by omega)
          have HGX := Lib.hid hgx; have RX := Lib.hid hrx; have HTM := Lib.hid hm; have HVQ := Lib.hid hq
          clear hcl hcell hcsz hgx hrx hm hq
          have HQB := Lib.hid (show q ≤ 1000000 by have := HVL1.out; have := HVQ.out; omega)
          have hmb : m ≤ 100000 := by have := HTM.out; omega
          rw [HTM.out]
          go_upto_region 5 with fail
          refine rol_run (by kernel_rfl) [[], [0], [0, 1], [0, 1, 2], [0, 1, 2], [0, 1, 2, 3, 4], [0, 1, 2, 3, 4, 5], [0, 1, 2, 3, 4, 5, 6], [0, 1, 2], [0, 1, 2], [0, 1, 2, 9], [0, 1, 2, 8, 9, 10], [0, 1, 2, 8, 9, 10, 11], [0, 1, 2, 8, 9, 10, 11, 12], [0, 1, 2, 3, 4, 5, 6, 7, 8, 9, 10, 11, 12, 13], [0, 1, 2, 3, 4, 5, 6, 7, 8, 9, 10, 11, 12, 13, 14]] (by kernel_rfl) [12, 13, 14, 15, 16, 17, 18, 19, 20, 21, 22, 23, 24, 25, 26, 27] [[], [0], [1], [2], [2], [2, 3, 4], [2, 5], [2, 6], [2], [2], [2, 9], [2, 8, 10], [2, 11], [2, 12], [2, 7, 13], [2, 14]] [0, 0, 0, 0, 0, 0, 0, 0, 0, 0, 0, 0, 0, 0, 0, 0] [0, 0, 0, 0, 0, 0, 0, 0, 0, 0, 0, 0, 0, 0, 0, 0] [1000, 1000, 1000, 1000, 1000, 1000, 1000, 1000, 1000, 1000, 1000, 1000, 1000, 1000, 1000, 1000] [.val 12 (.int .i64 (k : Int)), .val 13 (.bool false), .val 14 (.bool false), .val 15 (.slice (some ⟨bs, os, none⟩) n c), .val 16 (.int .i64 (k : Int)), .val 17 (.pointer (some ⟨bs, os + k * 2, none⟩)), .val 18 (.pointer (some ⟨bs, os + k * 2, none⟩)), .val 19 (.string (mkB p2)), .val 20 (.slice (some ⟨bs, os, none⟩) n c), .val 21 (.int .i64 (k : Int)), .val 22 (.int .i64 (kp : Int)), .val 23 (.pointer (some ⟨bs, os + kp * 2, none⟩)), .val 24 (.pointer (some ⟨bs, os + kp * 2, none⟩)), .val 25 (.string (mkB p)), .val 26 (.bool false), .val 27 (.bool false)] (by kernel_rfl) ?_ (wr.heap.size) (wr.heap.size) rfl (Below.refl _ _) rfl (fun _ => 0) ?_ ?_ ?_
          · intro j hj
            have hj3 : j < 16 := hj
            have hj2 : j = 0 ∨ j = 1 ∨ j = 2 ∨ j = 3 ∨ j = 4 ∨ j = 5 ∨ j = 6 ∨ j = 7 ∨ j = 8 ∨ j = 9 ∨ j = 10 ∨ j = 11 ∨ j = 12 ∨ j = 13 ∨ j = 14 ∨ j = 15 := by omega
            clear hj hj3
            rcases hj2 with rfl | rfl | rfl | rfl | rfl | rfl | rfl | rfl | rfl | rfl | rfl | rfl | rfl | rfl | rfl | rfl
            · exact trivial
            · exact trivial
            · exact trivial
            · exact trivial
            · exact trivial
            · exact trivial
            · exact trivial
            · exact trivial
            · exact trivial
            · exact trivial
            · exact trivial
            · exact trivial
            · exact trivial
            · exact trivial
            · exact trivial
            · exact trivial
          · intro j hj0 hj
            exact absurd hj (Nat.not_lt.2 hj0)
          · intro i hi a wx who hG hF
            have hz : a.tmps.size = 57 := hG.size
            have hi3 : i < 16 := hi
            have hi2 : i = 0 ∨ i = 1 ∨ i = 2 ∨ i = 3 ∨ i = 4 ∨ i = 5 ∨ i = 6 ∨ i = 7 ∨ i = 8 ∨ i = 9 ∨ i = 10 ∨ i = 11 ∨ i = 12 ∨ i = 13 ∨ i = 14 ∨ i = 15 := by omega
            clear hi hi3
            rcases hi2 with rfl | rfl | rfl | rfl | rfl | rfl | rfl | rfl | rfl | rfl | rfl | rfl | rfl | rfl | rfl | rfl
            · exact rol_val rfl rfl rfl (by rw [hz]; decide) (ex_move (Or.inl rfl) (eval_slot ((hG.slots 4 (by decide)).trans rfl))) hG.below
            · exact rol_val rfl rfl rfl (by rw [hz]; decide) (ex_bin rfl (eval_slot (hF 0 (by decide))) rfl (by go_simp) (bin_eql0 HK0.out)) hG.below
            · exact rol_val rfl rfl rfl (by rw [hz]; decide) (ex_move (Or.inl rfl) (eval_slot (hF 1 (by decide)))) hG.below
            · exact rol_val rfl (want_yes rfl rfl (hF 2 (by decide))) rfl (by rw [hz]; decide) (ex_move (Or.inl rfl) (eval_slot ((hG.slots 0 (by decide)).trans rfl))) hG.below
            · exact rol_val rfl (want_yes rfl rfl (hF 2 (by decide))) rfl (by rw [hz]; decide) (ex_move (Or.inl rfl) (eval_slot ((hG.slots 4 (by decide)).trans rfl))) hG.below
            · exact rol_val rfl (want_yes rfl rfl (hF 2 (by decide))) rfl (by rw [hz]; decide) (ex_index rfl (eval_slot (hF 3 (by decide))) (eval_slot (hF 4 (by decide))) (idx_nds HKN.out)) hG.below
            · exact rol_val rfl (want_yes rfl rfl (hF 2 (by decide))) rfl (by rw [hz]; decide) (ex_field rfl (eval_slot (hF 5 (by decide))) (by go_simp)) hG.below
            · exact rol_val rfl (want_yes rfl rfl (hF 2 (by decide))) rfl (by rw [hz]; decide) (ex_load rfl (eval_slot (hF 6 (by decide))) (ld_strT (cell_keep C0.out hG.below))) hG.below
            · exact rol_val rfl (want_yes rfl rfl (hF 2 (by decide))) rfl (by rw [hz]; decide) (ex_move (Or.inl rfl) (eval_slot ((hG.slots 0 (by decide)).trans rfl))) hG.below
            · exact rol_val rfl (want_yes rfl rfl (hF 2 (by decide))) rfl (by rw [hz]; decide) (ex_move (Or.inl rfl) (eval_slot ((hG.slots 4 (by decide)).trans rfl))) hG.below
            · exact rol_val rfl (want_yes rfl rfl (hF 2 (by decide))) rfl (by rw [hz]; decide) (ex_bin rfl (eval_slot (hF 9 (by decide))) rfl (by go_simp) (bin_sub1 HKP.out HKB.out)) hG.below
            · exact rol_val rfl (want_yes rfl rfl (hF 2 (by decide))) rfl (by rw [hz]; decide) (ex_index rfl (eval_slot (hF 8 (by decide))) (eval_slot (hF 10 (by decide))) (idx_nds HKPN.out)) hG.below
            · exact rol_val rfl (want_yes rfl rfl (hF 2 (by decide))) rfl (by rw [hz]; decide) (ex_field rfl (eval_slot (hF 11 (by decide))) (by go_simp)) hG.below
            · exact rol_val rfl (want_yes rfl rfl (hF 2 (by decide))) rfl (by rw [hz]; decide) (ex_load rfl (eval_slot (hF 12 (by decide))) (ld_strT (cell_keep CP.out hG.below))) hG.below
            · exact rol_val rfl (want_yes rfl rfl (hF 2 (by decide))) rfl (by rw [hz]; decide) (ex_bin rfl (eval_slot (hF 7 (by decide))) (eval_slot (hF 13 (by decide))) (by go_simp) (bin_neqs HPQ.out)) hG.below
            · exact rol_val rfl rfl rfl (by rw [hz]; decide) (ex_pick_no rfl (eval_slot (hF 2 (by decide))) (eval_slot (hF 14 (by decide)))) hG.below
          · intro a wx who hG hF
            have fv27 : a.tmps.getD 27 undef = .bool false := eval_slot (s := 27) (hF 15 (of_decide_eq_true (by kernel_rfl)) (of_decide_eq_true (by kernel_rfl)))
            have hbx := hG.below
            have hnx := hG.new
            rw [hG.frame]
            simp only [List.foldl_cons, List.foldl_nil, List.setIfInBounds_toArray, List.set_cons_zero, List.set_cons_succ]
            generalize a.tmps.getD 12 undef = u12
            generalize a.tmps.getD 13 undef = u13
            generalize a.tmps.getD 14 undef = u14
            generalize a.tmps.getD 15 undef = u15
            generalize a.tmps.getD 16 undef = u16
            generalize a.tmps.getD 17 undef = u17
            generalize a.tmps.getD 18 undef = u18
            generalize a.tmps.getD 19 undef = u19
            generalize a.tmps.getD 20 undef = u20
            generalize a.tmps.getD 21 undef = u21
            generalize a.tmps.getD 22 undef = u22
            generalize a.tmps.getD 23 undef = u23
            generalize a.tmps.getD 24 undef = u24
            generalize a.tmps.getD 25 undef = u25
            generalize a.tmps.getD 26 undef = u26
            rw [fv27]
            clear hF hG fv27
            obtain ⟨W6, hW6⟩ : ∃ v, v = wx := ⟨_, rfl⟩
            subst hW6
            have HB6 := Lib.hid (show Below N0 w W6 from HB.out.trans (hbx.mono HNS0.out)); have HNS := Lib.hid (Nat.le_trans HNS0.out hbx.size)
            replace HX := Lib.hid (ownsRow_belowB HX.out hbx); replace HZ := Lib.hid (HZ.out.below hbx); replace HY := Lib.hid (ownsRow_belowB HY.out hbx); replace RX := Lib.hid (row_keepB RX.out hbx)
            clear hbx hnx
            obtain ⟨whoF, hwho⟩ : ∃ f : Nat → Nat, f = (fun b => if b = gx then 2 else if Value.ownBlock (.slice ay q cy) = some b then 1 else 3) := ⟨_, rfl⟩
            have HWX := Lib.hid (show whoF gx = 2 by rw [hwho]; exact if_pos rfl)
            have HWY := Lib.hid (show ∀ b, Value.ownBlock (.slice ay q cy) = some b → whoF b = 1 from fun b e => by rw [hwho]; exact (if_neg (fun q2 => own_nebox HY.out RX.out (by decide) (by rw [← q2]; exact e))).trans (if_pos e))
            have HWZ := Lib.hid (show ∀ j, j < T0.length → ∀ b, (zs.getD j undef).ownBlock = some b → whoF b = 3 from fun j hj b e => by rw [hwho]; exact (if_neg (fun q2 => own_nebox (HZ.out.2 j hj) RX.out (by decide) (by rw [← q2]; exact e))).trans (if_neg (HD.out j hj b e)))
            clear hwho
            go_upto_region 8 with fail
            refine rol_run (by kernel_rfl) [[], [], [], [], [2, 3], [2, 3, 4], [2, 3, 4, 5], [], [], [7, 8], [7, 8, 9], [7, 8, 9, 10], [7, 8, 9, 10, 11], [2, 3, 4, 5, 6, 7, 8, 9, 10, 11, 12], [0, 1, 2, 3, 4, 5, 6, 7, 8, 9, 10, 11, 12, 13], [0, 1, 2, 3, 4, 5, 6, 7, 8, 9, 10, 11, 12, 13, 14], [0, 1, 2, 3, 4, 5, 6, 7, 8, 9, 10, 11, 12, 13, 14, 15]] (by kernel_rfl) [40, 41, 42, 43, 44, 45, 46, 47, 48, 49, 50, 51, 52, 53, 54, 55] [[], [], [], [], [2, 3], [4], [5, 17], [], [], [7, 8], [9], [10], [11], [6, 12, 18], [0, 1], [14], [13, 17, 15]] [0, 0, 0, 0, 0, 0, 0, 0, 0, 0, 0, 0, 4, 1, 0, 0, 2, 2, 1, 3] [0, 0, 0, 0, 0, 0, 0, 0, 0, 0, 0, 0, 0, 1, 0, 0, 2] [1000, 1000, 1000, 1000, 1000, 1000, 1000, 1000, 1000, 1000, 1000, 1000, 1000, 1000, 1000, 1000, 1000, 16, 13, 1000] [.val 40 (.slice (some ⟨gx, 0, none⟩) (m + 1) cx), .val 41 (.int .i64 (m : Int)), .val 42 (.slice (some ⟨gx, 0, none⟩) (m + 1) cx), .val 43 (.int .i64 (m : Int)), .val 44 (.pointer (some ⟨gx, m * 2, none⟩)), .val 45 (.pointer (some ⟨gx, m * 2 + 1, none⟩)), .val 46 (.slice ay q cy), .val 47 (.slice (some ⟨bs, os, none⟩) n c), .val 48 (.int .i64 (k : Int)), .val 49 (.pointer (some ⟨bs, os + k * 2, none⟩)), .val 50 (.pointer (some ⟨bs, os + k * 2 + 1, none⟩)), .val 51 (.string (mkB v)), .mem 52 (blkG 9 #[.string (mkB v)] 1), .mem 53 (rowG N0 9 1 (q + 1) (strC vs2)), .val 54 (.pointer (some ⟨gx, m * 2, none⟩)), .val 55 (.pointer (some ⟨gx, m * 2 + 1, none⟩)), .mem 53 (rowsF gx cur (m * 2 + 1)), .box (gx) (.cells cur 63), .mem 3 (rowX (.slice ay q cy) N0 9 1 q (strC vs)), .mems 3 (vsI N0 zs T0)] (by kernel_rfl) ?_ (N0) (W6.heap.size) rfl HB6.out rfl (whoF) ?_ ?_ ?_
            · intro j hj
              have hj3 : j < 20 := hj
              have hj2 : j = 0 ∨ j = 1 ∨ j = 2 ∨ j = 3 ∨ j = 4 ∨ j = 5 ∨ j = 6 ∨ j = 7 ∨ j = 8 ∨ j = 9 ∨ j = 10 ∨ j = 11 ∨ j = 12 ∨ j = 13 ∨ j = 14 ∨ j = 15 ∨ j = 16 ∨ j = 17 ∨ j = 18 ∨ j = 19 := by omega
              clear hj hj3
              rcases hj2 with rfl | rfl | rfl | rfl | rfl | rfl | rfl | rfl | rfl | rfl | rfl | rfl | rfl | rfl | rfl | rfl | rfl | rfl | rfl | rfl
              · exact trivial
              · exact trivial
              · exact trivial
              · exact trivial
              · exact trivial
              · exact trivial
              · exact trivial
              · exact trivial
              · exact trivial
              · exact trivial
              · exact trivial
              · exact trivial
              · exact blkG_near
              · exact rowG_near
              · exact trivial
              · exact trivial
              · exact rowsF_near
              · exact trivial
              · exact rowX_near
              · exact vsI_near
            · intro j hj0 hj
              have hj1 : 17 ≤ j := hj0
              have hj3 : j < 20 := hj
              have hj2 : j = 17 ∨ j = 18 ∨ j = 19 := by omega
              clear hj0 hj hj1 hj3
              rcases hj2 with rfl | rfl | rfl
              · exact ⟨RX.out, HWX.out⟩
              · exact ⟨_, _, rfl, fun b e => ⟨(own_lt HY.out e).2, HWY.out b e⟩, HY.out, rfl⟩
              · exact ⟨_, fun b => ∃ j, j < T0.length ∧ (zs.getD j undef).ownBlock = some b, rfl, fun b e => by obtain ⟨j, hj, e⟩ := e; exact ⟨((HZ.out.2 j hj).lt b e).2, HWZ.out j hj b e⟩, HZ.out, fun j hj b e => ⟨j, hj, e⟩⟩
            · intro i hi a wx who hG hF
              have hz : a.tmps.size = 57 := hG.size
              have hi3 : i < 17 := hi
              have hi2 : i = 0 ∨ i = 1 ∨ i = 2 ∨ i = 3 ∨ i = 4 ∨ i = 5 ∨ i = 6 ∨ i = 7 ∨ i = 8 ∨ i = 9 ∨ i = 10 ∨ i = 11 ∨ i = 12 ∨ i = 13 ∨ i = 14 ∨ i = 15 ∨ i = 16 := by omega
              clear hi hi3
              rcases hi2 with rfl | rfl | rfl | rfl | rfl | rfl | rfl | rfl | rfl | rfl | rfl | rfl | rfl | rfl | rfl | rfl | rfl
              · exact rol_val rfl rfl rfl (by rw [hz]; decide) (ex_move (Or.inl rfl) (eval_slot ((hG.slots 3 (by decide)).trans rfl))) hG.below
              · exact rol_val rfl rfl rfl (by rw [hz]; decide) (ex_move (Or.inl rfl) (eval_slot ((hG.slots 5 (by decide)).trans rfl))) hG.below
              · exact rol_val rfl rfl rfl (by rw [hz]; decide) (ex_move (Or.inl rfl) (eval_slot ((hG.slots 3 (by decide)).trans rfl))) hG.below
              · exact rol_val rfl rfl rfl (by rw [hz]; decide) (ex_move (Or.inl rfl) (eval_slot ((hG.slots 5 (by decide)).trans rfl))) hG.below
              · exact rol_val rfl rfl rfl (by rw [hz]; decide) (ex_index rfl (eval_slot (hF 2 (by decide))) (eval_slot (hF 3 (by decide))) (by have h := idx_rws (b := gx) (off := 0) (n := m + 1) (c := cx) (k := m) (w := wx) (Nat.lt_succ_self m); rw [Nat.zero_add] at h; exact h)) hG.below
              · exact rol_val rfl rfl rfl (by rw [hz]; decide) (ex_field rfl (eval_slot (hF 4 (by decide))) (by go_simp)) hG.below
              · exact rol_val rfl rfl rfl (by rw [hz]; decide) (ex_load rfl (eval_slot (hF 5 (by decide))) (ld_stsT (HYC.out wx (hF 17 (by decide)).1))) hG.below
              · exact rol_val rfl rfl rfl (by rw [hz]; decide) (ex_move (Or.inl rfl) (eval_slot ((hG.slots 0 (by decide)).trans rfl))) hG.below
              · exact rol_val rfl rfl rfl (by rw [hz]; decide) (ex_move (Or.inl rfl) (eval_slot ((hG.slots 4 (by decide)).trans rfl))) hG.below
              · exact rol_val rfl rfl rfl (by rw [hz]; decide) (ex_index rfl (eval_slot (hF 7 (by decide))) (eval_slot (hF 8 (by decide))) (idx_nds HKN.out)) hG.below
              · exact rol_val rfl rfl rfl (by rw [hz]; decide) (ex_field rfl (eval_slot (hF 9 (by decide))) (by go_simp)) hG.below
              · exact rol_val rfl rfl rfl (by rw [hz]; decide) (ex_load rfl (eval_slot (hF 10 (by decide))) (ld_strT (cell_keep CV.out (by rw [HN0.out]; exact hG.below)))) hG.below
              · exact rol_newO rfl rfl rfl (by rw [hz]; decide) (x := .cells #[.string (mkB v)] 9) (v := .slice (some ⟨wx.heap.size, 0, none⟩) 1 1) (ex_slice rfl (vs := #[(0, .string (mkB v))]) (by simp only [List.map_toArray, List.map_cons, List.map_nil, eval_slot (hF 11 (by decide))]) (by go_simp)) ⟨_, rfl, rfl, heap_alloc_new _ _⟩ hG.below (Nat.le_trans HNS.out hG.new)
              · exact rol_pushS rfl rfl rfl (by rw [hz]; decide) rfl (hF 18 (by decide)) (eval_slot (hF 6 (by decide))) (hF 12 (by decide)) HQB.out hG.below (Nat.le_refl _) (Nat.le_trans HNS.out hG.new) rfl HVS2.out
              · exact rol_val rfl rfl rfl (by rw [hz]; decide) (ex_index rfl (eval_slot (hF 0 (by decide))) (eval_slot (hF 1 (by decide))) (by have h := idx_rws (b := gx) (off := 0) (n := m + 1) (c := cx) (k := m) (w := wx) (Nat.lt_succ_self m); rw [Nat.zero_add] at h; exact h)) hG.below
              · exact rol_val rfl rfl rfl (by rw [hz]; decide) (ex_field rfl (eval_slot (hF 14 (by decide))) (by go_simp)) hG.below
              · exact rol_setR rfl rfl rfl rfl (eval_slot (hF 15 (by decide))) (hF 13 (by decide)) (hF 17 (by decide)) HCS.out hG.below HGX.out
            · intro a wx who hG hF
              have hap := hF 13 (of_decide_eq_true (by kernel_rfl)) (of_decide_eq_true (by kernel_rfl))
              have hst := hF 16 (of_decide_eq_true (by kernel_rfl)) (of_decide_eq_true (by kernel_rfl))
              have hzz := hF 19 (of_decide_eq_true (by kernel_rfl)) (of_decide_eq_true (by kernel_rfl))
              have hbx := hG.below
              have hnx := hG.new
              rw [hG.frame]
              simp only [List.foldl_cons, List.foldl_nil, List.setIfInBounds_toArray, List.set_cons_zero, List.set_cons_succ]
              generalize a.tmps.getD 40 undef = u40
              generalize a.tmps.getD 41 undef = u41
              generalize a.tmps.getD 42 undef = u42
              generalize a.tmps.getD 43 undef = u43
              generalize a.tmps.getD 44 undef = u44
              generalize a.tmps.getD 45 undef = u45
              generalize a.tmps.getD 46 undef = u46
              generalize a.tmps.getD 47 undef = u47
              generalize a.tmps.getD 48 undef = u48
              generalize a.tmps.getD 49 undef = u49
              generalize a.tmps.getD 50 undef = u50
              generalize a.tmps.getD 51 undef = u51
              generalize a.tmps.getD 52 undef = u52
              generalize a.tmps.getD 53 undef = u53
              generalize a.tmps.getD 54 undef = u54
              generalize a.tmps.getD 55 undef = u55
              clear hF hG
              obtain ⟨va, oba, hva, hoba, hra, rfl⟩ := hap
              obtain ⟨vb, obb, hvb, -, -, hrb⟩ := hst
              have evb : va = vb := Option.some.inj (hva.symm.trans hvb)
              subst evb
              obtain ⟨_, bsz, -, hbz, hIz, hkz⟩ := hzz
              have HNX := Lib.hid (show OfI wx N0 (.slice (some ⟨gx, 0, none⟩) (m + 1) cx) (T0 ++ [(p, vs2)]) from .inr ⟨T0, p, vs2, zs, va, rfl, by rw [HTM.out]; have h5 := own_setlast (w := W6) (w' := wx) (T0 := T0) (zs := zs) (p := p) (Y := .slice ay q cy) (Y' := va) (cur := cur) (N := N0) (cap := cx) HZ.out.1 (by rw [HTM.out]; exact HX.out) RX.out (by rw [HTM.out]; exact hrb); rw [HTM.out] at h5; exact h5, hIz, by rw [show vs2.length = q + 1 by rw [HVS2.out, List.length_append, HVQ.out]; rfl]; exact hra, fun j hj b e q2 => by have h1 := (hbz b (hkz j hj b e)).2; have h2 := (hoba b q2).2; rw [h1] at h2; cases h2⟩)
              clear hva hvb hoba hra hrb hbz hIz hkz
              have HBN := Lib.hid hbx
              clear hbx hnx
              go_wp2
              go_roundw
              case rel => exact ⟨k + 1, _, by omega, by go_num, rfl, Lib.hid (by rw [HTK.out, HPU.out]; exact HNX.out), HBN⟩
              case measure => simp [intOf]; omega
        · have HPQ := Lib.hid (show decide (p2 = p) = !true by rw [decide_eq_false hpq]; rfl)
          have HAH := Lib.hid (show True from trivial)
          have HPN := Lib.hid (show pushR T (p2, v) = T ++ [(p2, [v])] by rw [hT]; exact push_new T0 (p, vs) (p2, v) (fun e => hpq e.symm))
          clear hpq hT
          obtain ⟨a0, c0, rfl⟩ := HO.out.len
          obtain ⟨t, ht⟩ : ∃ t, T.length = t := ⟨_, rfl⟩
          have HOW0 := Lib.hid HO.out.own
          have htk2 : t ≤ 10000 := by have := HTL0.out; omega
          have HTL := Lib.hid ht
          rw [ht] at HOW0 ⊢
          clear ht HO
          go_upto_region 5 with fail
          refine rol_run (by kernel_rfl) [[], [0], [0, 1], [0, 1, 2], [0, 1, 2], [0, 1, 2, 3, 4], [0, 1, 2, 3, 4, 5], [0, 1, 2, 3, 4, 5, 6], [0, 1, 2], [0, 1, 2], [0, 1, 2, 9], [0, 1, 2, 8, 9, 10], [0, 1, 2, 8, 9, 10, 11], [0, 1, 2, 8, 9, 10, 11, 12], [0, 1, 2, 3, 4, 5, 6, 7, 8, 9, 10, 11, 12, 13], [0, 1, 2, 3, 4, 5, 6, 7, 8, 9, 10, 11, 12, 13, 14]] (by kernel_rfl) [12, 13, 14, 15, 16, 17, 18, 19, 20, 21, 22, 23, 24, 25, 26, 27] [[], [0], [1], [2], [2], [2, 3, 4], [2, 5], [2, 6], [2], [2], [2, 9], [2, 8, 10], [2, 11], [2, 12], [2, 7, 13], [2, 14]] [0, 0, 0, 0, 0, 0, 0, 0, 0, 0, 0, 0, 0, 0, 0, 0] [0, 0, 0, 0, 0, 0, 0, 0, 0, 0, 0, 0, 0, 0, 0, 0] [1000, 1000, 1000, 1000, 1000, 1000, 1000, 1000, 1000, 1000, 1000, 1000, 1000, 1000, 1000, 1000] [.val 12 (.int .i64 (k : Int)), .val 13 (.bool false), .val 14 (.bool false), .val 15 (.slice (some ⟨bs, os, none⟩) n c), .val 16 (.int .i64 (k : Int)), .val 17 (.pointer (some ⟨bs, os + k * 2, none⟩)), .val 18 (.pointer (some ⟨bs, os + k * 2, none⟩)), .val 19 (.string (mkB p2)), .val 20 (.slice (some ⟨bs, os, none⟩) n c), .val 21 (.int .i64 (k : Int)), .val 22 (.int .i64 (kp : Int)), .val 23 (.pointer (some ⟨bs, os + kp * 2, none⟩)), .val 24 (.pointer (some ⟨bs, os + kp * 2, none⟩)), .val 25 (.string (mkB p)), .val 26 (.bool true), .val 27 (.bool true)] (by kernel_rfl) ?_ (wr.heap.size) (wr.heap.size) rfl (Below.refl _ _) rfl (fun _ => 0) ?_ ?_ ?_
          · intro j hj
            have hj3 : j < 16 := hj
            have hj2 : j = 0 ∨ j = 1 ∨ j = 2 ∨ j = 3 ∨ j = 4 ∨ j = 5 ∨ j = 6 ∨ j = 7 ∨ j = 8 ∨ j = 9 ∨ j = 10 ∨ j = 11 ∨ j = 12 ∨ j = 13 ∨ j = 14 ∨ j = 15 := by omega
            clear hj hj3
            rcases hj2 with rfl | rfl | rfl | rfl | rfl | rfl | rfl | rfl | rfl | rfl | rfl | rfl | rfl | rfl | rfl | rfl
            · exact trivial
            · exact trivial
            · exact trivial
            · exact trivial
            · exact trivial
            · exact trivial
            · exact trivial
            · exact trivial
            · exact trivial
            · exact trivial
            · exact trivial
            · exact trivial
            · exact trivial
            · exact trivial
            · exact trivial
            · exact trivial
          · intro j hj0 hj
            exact absurd hj (Nat.not_lt.2 hj0)
          · intro i hi a wx who hG hF
            have hz : a.tmps.size = 57 := hG.size
            have hi3 : i < 16 := hi
            have hi2 : i = 0 ∨ i = 1 ∨ i = 2 ∨ i = 3 ∨ i = 4 ∨ i = 5 ∨ i = 6 ∨ i = 7 ∨ i = 8 ∨ i = 9 ∨ i = 10 ∨ i = 11 ∨ i = 12 ∨ i = 13 ∨ i = 14 ∨ i = 15 := by omega
            clear hi hi3
            rcases hi2 with rfl | rfl | rfl | rfl | rfl | rfl | rfl | rfl | rfl | rfl | rfl | rfl | rfl | rfl | rfl | rfl
            · exact rol_val rfl rfl rfl (by rw [hz]; decide) (ex_move (Or.inl rfl) (eval_slot ((hG.slots 4 (by decide)).trans rfl))) hG.below
            · exact rol_val rfl rfl rfl (by rw [hz]; decide) (ex_bin rfl (eval_slot (hF 0 (by decide))) rfl (by go_simp) (bin_eql0 HK0.out)) hG.below
            · exact rol_val rfl rfl rfl (by rw [hz]; decide) (ex_move (Or.inl rfl) (eval_slot (hF 1 (by decide)))) hG.below
            · exact rol_val rfl (want_yes rfl rfl (hF 2 (by decide))) rfl (by rw [hz]; decide) (ex_move (Or.inl rfl) (eval_slot ((hG.slots 0 (by decide)).trans rfl))) hG.below
            · exact rol_val rfl (want_yes rfl rfl (hF 2 (by decide))) rfl (by rw [hz]; decide) (ex_move (Or.inl rfl) (eval_slot ((hG.slots 4 (by decide)).trans rfl))) hG.below
            · exact rol_val rfl (want_yes rfl rfl (hF 2 (by decide))) rfl (by rw [hz]; decide) (ex_index rfl (eval_slot (hF 3 (by decide))) (eval_slot (hF 4 (by decide))) (idx_nds HKN.out)) hG.below
            · exact rol_val rfl (want_yes rfl rfl (hF 2 (by decide))) rfl (by rw [hz]; decide) (ex_field rfl (eval_slot (hF 5 (by decide))) (by go_simp)) hG.below
            · exact rol_val rfl (want_yes rfl rfl (hF 2 (by decide))) rfl (by rw [hz]; decide) (ex_load rfl (eval_slot (hF 6 (by decide))) (ld_strT (cell_keep C0.out hG.below))) hG.below
            · exact rol_val rfl (want_yes rfl rfl (hF 2 (by decide))) rfl (by rw [hz]; decide) (ex_move (Or.inl rfl) (eval_slot ((hG.slots 0 (by decide)).trans rfl))) hG.below
            · exact rol_val rfl (want_yes rfl rfl (hF 2 (by decide))) rfl (by rw [hz]; decide) (ex_move (Or.inl rfl) (eval_slot ((hG.slots 4 (by decide)).trans rfl))) hG.below
            · exact rol_val rfl (want_yes rfl rfl (hF 2 (by decide))) rfl (by rw [hz]; decide) (ex_bin rfl (eval_slot (hF 9 (by decide))) rfl (by go_simp) (bin_sub1 HKP.out HKB.out)) hG.below
            · exact rol_val rfl (want_yes rfl rfl (hF 2 (by decide))) rfl (by rw [hz]; decide) (ex_index rfl (eval_slot (hF 8 (by decide))) (eval_slot (hF 10 (by decide))) (idx_nds HKPN.out)) hG.below
            · exact rol_val rfl (want_yes rfl rfl (hF 2 (by decide))) rfl (by rw [hz]; decide) (ex_field rfl (eval_slot (hF 11 (by decide))) (by go_simp)) hG.below
            · exact rol_val rfl (want_yes rfl rfl (hF 2 (by decide))) rfl (by rw [hz]; decide) (ex_load rfl (eval_slot (hF 12 (by decide))) (ld_strT (cell_keep CP.out hG.below))) hG.below
            · exact rol_val rfl (want_yes rfl rfl (hF 2 (by decide))) rfl (by rw [hz]; decide) (ex_bin rfl (eval_slot (hF 7 (by decide))) (eval_slot (hF 13 (by decide))) (by go_simp) (bin_neqs HPQ.out)) hG.below
            · exact rol_val rfl rfl rfl (by rw [hz]; decide) (ex_pick_no rfl (eval_slot (hF 2 (by decide))) (eval_slot (hF 14 (by decide)))) hG.below
          · intro a wx who hG hF
            have fv27 : a.tmps.getD 27 undef = .bool true := eval_slot (s := 27) (hF 15 (of_decide_eq_true (by kernel_rfl)) (of_decide_eq_true (by kernel_rfl)))
            have hbx := hG.below
            have hnx := hG.new
            rw [hG.frame]
            simp only [List.foldl_cons, List.foldl_nil, List.setIfInBounds_toArray, List.set_cons_zero, List.set_cons_succ]
            generalize a.tmps.getD 12 undef = u12
            generalize a.tmps.getD 13 undef = u13
            generalize a.tmps.getD 14 undef = u14
            generalize a.tmps.getD 15 undef = u15
            generalize a.tmps.getD 16 undef = u16
            generalize a.tmps.getD 17 undef = u17
            generalize a.tmps.getD 18 undef = u18
            generalize a.tmps.getD 19 undef = u19
            generalize a.tmps.getD 20 undef = u20
            generalize a.tmps.getD 21 undef = u21
            generalize a.tmps.getD 22 undef = u22
            generalize a.tmps.getD 23 undef = u23
            generalize a.tmps.getD 24 undef = u24
            generalize a.tmps.getD 25 undef = u25
            generalize a.tmps.getD 26 undef = u26
            rw [fv27]
            clear hF hG fv27
            have HBX := Lib.hid (show Below N0 w wx from HB.out.trans (hbx.mono HNS0.out)); have HNX5 := Lib.hid (Nat.le_trans HNS0.out hbx.size)
            have HOW := Lib.hid (HOW0.out.below hbx)
            have e0 := cell_keep C0.out hbx
            clear hbx hnx
            obtain ⟨ys, hr1, hI1⟩ := HOW.out
            have HI1 := Lib.hid hI1
            have HR1 := Lib.hid hr1
            clear hr1 hI1
            have hlt1 : t ≤ 1000000 := by omega
            go_upto_region 7 with (at_builtin; refine wpList_push_rw rfl _ _ rfl N0 (.slice a0 t c0) T ys (t) HTL.out HI1.out.1 rfl (by first | exact HR1.out | (have h := HR1.out; rw [HTL.out] at h; exact h)) (p2, []) (.slice none 0 0) rfl _ rfl rfl hlt1 HNX5.out ?_; intro a3 c3 w3 h3 hg3 ht3; have HX3 := Lib.hid h3; have HZ := Lib.hid (HI1.out.keep ht3); have HB6 := Lib.hid (HBX.out.grown hg3 HNX5.out (fun b e => (own_lt HR1.out e).1)); have HNS := Lib.hid (Nat.le_trans HNX5.out hg3.size); clear h3 hg3 ht3)
            obtain ⟨W6, hW6⟩ : ∃ v, v = w3 := ⟨_, rfl⟩
            subst hW6
            obtain ⟨Y, hYY⟩ : ∃ Y, Value.slice none 0 0 = Y := ⟨_, rfl⟩
            have HY := Lib.hid (show W6.ownsRow N0 9 1 Y ([] : List (List UInt8)).length (strC []) by rw [← hYY]; exact World.ownsRow_nil _ _ _ _)
            have hX3 := HX3.out
            rw [hYY, rwC_app [(p2, [])] [Y] HI1.out.1, rwC_one'] at hX3
            obtain ⟨T0, hT0⟩ : ∃ T0, T = T0 := ⟨_, rfl⟩
            obtain ⟨p, hp⟩ : ∃ p, p2 = p := ⟨_, rfl⟩
            obtain ⟨vs, hvs⟩ : ∃ vs, ([] : List (List UInt8)) = vs := ⟨_, rfl⟩
            obtain ⟨zs, hzs⟩ : ∃ zs, ys = zs := ⟨_, rfl⟩
            have hTl := HTL.out
            rw [hT0] at hTl hX3 HZ
            rw [hp, hzs] at hX3
            rw [hzs] at HZ
            rw [hvs] at HY
            have HX := Lib.hid (show W6.ownsRow N0 63 2 (.slice a3 (T0.length + 1) c3) (T0.length + 1) (rwC T0 zs ++ [.string (mkB p), Y]) by rw [hTl]; exact hX3)
            have HD := Lib.hid (show ∀ j, j < T0.length → ∀ b, (zs.getD j undef).ownBlock = some b → Y.ownBlock ≠ some b from fun j _ b _ e => by rw [← hYY] at e; cases e)
            obtain ⟨vs2, hvs2⟩ : ∃ l, l = vs ++ [v] := ⟨_, rfl⟩
            have HVS2 := Lib.hid hvs2
            have HPU := Lib.hid (show pushR T (p2, v) = T0 ++ [(p, vs2)] by rw [hvs2, ← hvs, ← hp, ← hT0]; exact HPN.out)
            have hq0 : vs.length ≤ 1000000 := by rw [← hvs]; decide
            have ht5 : T0.length ≤ 100000 := by rw [hTl]; omega
            have hTl2 := Lib.hid hTl
            rw [← hTl]
            clear HX3 hX3 hT0 hp hvs hzs hTl hvs2 hYY HI1 HR1 HOW HTL HAH
            obtain ⟨ay, cy, rfl⟩ := own_form HY.out
            obtain ⟨gx, cx, cur, hXe, hgx, hrx⟩ := row_head HX.out
            first | subst hXe | (injection hXe with ea eb ec; subst ea; have ec2 := ec.symm; clear ec; subst ec2)
            obtain ⟨m, hm⟩ : ∃ m, T0.length = m := ⟨_, rfl⟩
            obtain ⟨q, hq⟩ : ∃ q, vs.length = q := ⟨_, rfl⟩
            have hcl := rwC_last (p := p) (Y := .slice ay vs.length cy) HZ.out.1 hm
            have hcell := fun w' hw j hj => cell_ofrow HX.out hrx w' hw j hj
            have hcsz := cur_size HX.out hrx
            rw [hm] at hcell hcsz HX
            rw [hq] at HX HY HD hcl hcell
            have HPC := Lib.hid (show ∀ w', w'.heap[gx]? = some (.cells cur 63 (0, 0)) → w'.cell? ⟨gx, m * 2, none⟩ = some (.string (mkB p)) from fun w' hw => (hcell w' hw (m * 2) (by omega)).trans hcl.1)
            have HYC := Lib.hid (show ∀ w', w'.heap[gx]? = some (.cells cur 63 (0, 0)) → w'.cell? ⟨gx, m * 2 + 1, none⟩ = some (.slice ay q cy) from fun w' hw => (hcell w' hw (m * 2 + 1) (by omega)).trans hcl.2)
            have HCS := Lib.hid (show m * 2 + 1 < cur.size by omega)
            have HGX := Lib.hid hgx; have RX := Lib.hid hrx; have HTM := Lib.hid hm; have HVQ := Lib.hid hq
            clear hcl hcell hcsz hgx hrx hm hq
            have HQB := Lib.hid (show q ≤ 1000000 by have := HVQ.out; omega)
            have hmb : m ≤ 100000 := by have := HTM.out; omega
            rw [HTM.out]
            obtain ⟨whoF, hwho⟩ : ∃ f : Nat → Nat, f = (fun b => if b = gx then 2 else if Value.ownBlock (.slice ay q cy) = some b then 1 else 3) := ⟨_, rfl⟩
            have HWX := Lib.hid (show whoF gx = 2 by rw [hwho]; exact if_pos rfl)
            have HWY := Lib.hid (show ∀ b, Value.ownBlock (.slice ay q cy) = some b → whoF b = 1 from fun b e => by rw [hwho]; exact (if_neg (fun q2 => own_nebox HY.out RX.out (by decide) (by rw [← q2]; exact e))).trans (if_pos e))
            have HWZ := Lib.hid (show ∀ j, j < T0.length → ∀ b, (zs.getD j undef).ownBlock = some b → whoF b = 3 from fun j hj b e => by rw [hwho]; exact (if_neg (fun q2 => own_nebox (HZ.out.2 j hj) RX.out (by decide) (by rw [← q2]; exact e))).trans (if_neg (HD.out j hj b e)))
            clear hwho
            go_upto_region 8 with fail
            refine rol_run (by kernel_rfl) [[], [], [], [], [2, 3], [2, 3, 4], [2, 3, 4, 5], [], [], [7, 8], [7, 8, 9], [7, 8, 9, 10], [7, 8, 9, 10, 11], [2, 3, 4, 5, 6, 7, 8, 9, 10, 11, 12], [0, 1, 2, 3, 4, 5, 6, 7, 8, 9, 10, 11, 12, 13], [0, 1, 2, 3, 4, 5, 6, 7, 8, 9, 10, 11, 12, 13, 14], [0, 1, 2, 3, 4, 5, 6, 7, 8, 9, 10, 11, 12, 13, 14, 15]] (by kernel_rfl) [40, 41, 42, 43, 44, 45, 46, 47, 48, 49, 50, 51, 52, 53, 54, 55] [[], [], [], [], [2, 3], [4], [5, 17], [], [], [7, 8], [9], [10], [11], [6, 12, 18], [0, 1], [14], [13, 17, 15]] [0, 0, 0, 0, 0, 0, 0, 0, 0, 0, 0, 0, 4, 1, 0, 0, 2, 2, 1, 3] [0, 0, 0, 0, 0, 0, 0, 0, 0, 0, 0, 0, 0, 1, 0, 0, 2] [1000, 1000, 1000, 1000, 1000, 1000, 1000, 1000, 1000, 1000, 1000, 1000, 1000, 1000, 1000, 1000, 1000, 16, 13, 1000] [.val 40 (.slice (some ⟨gx, 0, none⟩) (m + 1) cx), .val 41 (.int .i64 (m : Int)), .val 42 (.slice (some ⟨gx, 0, none⟩) (m + 1) cx), .val 43 (.int .i64 (m : Int)), .val 44 (.pointer (some ⟨gx, m * 2, none⟩)), .val 45 (.pointer (some ⟨gx, m * 2 + 1, none⟩)), .val 46 (.slice ay q cy), .val 47 (.slice (some ⟨bs, os, none⟩) n c), .val 48 (.int .i64 (k : Int)), .val 49 (.pointer (some ⟨bs, os + k * 2, none⟩)), .val 50 (.pointer (some ⟨bs, os + k * 2 + 1, none⟩)), .val 51 (.string (mkB v)), .mem 52 (blkG 9 #[.string (mkB v)] 1), .mem 53 (rowG N0 9 1 (q + 1) (strC vs2)), .val 54 (.pointer (some ⟨gx, m * 2, none⟩)), .val 55 (.pointer (some ⟨gx, m * 2 + 1, none⟩)), .mem 53 (rowsF gx cur (m * 2 + 1)), .box (gx) (.cells cur 63), .mem 3 (rowX (.slice ay q cy) N0 9 1 q (strC vs)), .mems 3 (vsI N0 zs T0)] (by kernel_rfl) ?_ (N0) (W6.heap.size) rfl HB6.out rfl (whoF) ?_ ?_ ?_
            · intro j hj
              have hj3 : j < 20 := hj
              have hj2 : j = 0 ∨ j = 1 ∨ j = 2 ∨ j = 3 ∨ j = 4 ∨ j = 5 ∨ j = 6 ∨ j = 7 ∨ j = 8 ∨ j = 9 ∨ j = 10 ∨ j = 11 ∨ j = 12 ∨ j = 13 ∨ j = 14 ∨ j = 15 ∨ j = 16 ∨ j = 17 ∨ j = 18 ∨ j = 19 := by omega
              clear hj hj3
              rcases hj2 with rfl | rfl | rfl | rfl | rfl | rfl | rfl | rfl | rfl | rfl | rfl | rfl | rfl | rfl | rfl | rfl | rfl | rfl | rfl | rfl
              · exact trivial
              · exact trivial
              · exact trivial
              · exact trivial
              · exact trivial
              · exact trivial
              · exact trivial
              · exact trivial
              · exact trivial
              · exact trivial
              · exact trivial
              · exact trivial
              · exact blkG_near
              · exact rowG_near
              · exact trivial
              · exact trivial
              · exact rowsF_near
              · exact trivial
              · exact rowX_near
              · exact vsI_near
            · intro j hj0 hj
              have hj1 : 17 ≤ j := hj0
              have hj3 : j < 20 := hj
              have hj2 : j = 17 ∨ j = 18 ∨ j = 19 := by omega
              clear hj0 hj hj1 hj3
              rcases hj2 with rfl | rfl | rfl
              · exact ⟨RX.out, HWX.out⟩
              · exact ⟨_, _, rfl, fun b e => ⟨(own_lt HY.out e).2, HWY.out b e⟩, HY.out, rfl⟩
              · exact ⟨_, fun b => ∃ j, j < T0.length ∧ (zs.getD j undef).ownBlock = some b, rfl, fun b e => by obtain ⟨j, hj, e⟩ := e; exact ⟨((HZ.out.2 j hj).lt b e).2, HWZ.out j hj b e⟩, HZ.out, fun j hj b e => ⟨j, hj, e⟩⟩
            · intro i hi a wx who hG hF
              have hz : a.tmps.size = 57 := hG.size
              have hi3 : i < 17 := hi
              have hi2 : i = 0 ∨ i = 1 ∨ i = 2 ∨ i = 3 ∨ i = 4 ∨ i = 5 ∨ i = 6 ∨ i = 7 ∨ i = 8 ∨ i = 9 ∨ i = 10 ∨ i = 11 ∨ i = 12 ∨ i = 13 ∨ i = 14 ∨ i = 15 ∨ i = 16 := by omega
              clear hi hi3
              rcases hi2 with rfl | rfl | rfl | rfl | rfl | rfl | rfl | rfl | rfl | rfl | rfl | rfl | rfl | rfl | rfl | rfl | rfl
              · exact rol_val rfl rfl rfl (by rw [hz]; decide) (ex_move (Or.inl rfl) (eval_slot ((hG.slots 3 (by decide)).trans rfl))) hG.below
              · exact rol_val rfl rfl rfl (by rw [hz]; decide) (ex_move (Or.inl rfl) (eval_slot ((hG.slots 5 (by decide)).trans rfl))) hG.below
              · exact rol_val rfl rfl rfl (by rw [hz]; decide) (ex_move (Or.inl rfl) (eval_slot ((hG.slots 3 (by decide)).trans rfl))) hG.below
              · exact rol_val rfl rfl rfl (by rw [hz]; decide) (ex_move (Or.inl rfl) (eval_slot ((hG.slots 5 (by decide)).trans rfl))) hG.below
              · exact rol_val rfl rfl rfl (by rw [hz]; decide) (ex_index rfl (eval_slot (hF 2 (by decide))) (eval_slot (hF 3 (by decide))) (by have h := idx_rws (b := gx) (off := 0) (n := m + 1) (c := cx) (k := m) (w := wx) (Nat.lt_succ_self m); rw [Nat.zero_add] at h; exact h)) hG.below
              · exact rol_val rfl rfl rfl (by rw [hz]; decide) (ex_field rfl (eval_slot (hF 4 (by decide))) (by go_simp)) hG.below
              · exact rol_val rfl rfl rfl (by rw [hz]; decide) (ex_load rfl (eval_slot (hF 5 (by decide))) (ld_stsT (HYC.out wx (hF 17 (by decide)).1))) hG.below
              · exact rol_val rfl rfl rfl (by rw [hz]; decide) (ex_move (Or.inl rfl) (eval_slot ((hG.slots 0 (by decide)).trans rfl))) hG.below
              · exact rol_val rfl rfl rfl (by rw [hz]; decide) (ex_move (Or.inl rfl) (eval_slot ((hG.slots 4 (by decide)).trans rfl))) hG.below
              · exact rol_val rfl rfl rfl (by rw [hz]; decide) (ex_index rfl (eval_slot (hF 7 (by decide))) (eval_slot (hF 8 (by decide))) (idx_nds HKN.out)) hG.below
              · exact rol_val rfl rfl rfl (by rw [hz]; decide) (ex_field rfl (eval_slot (hF 9 (by decide))) (by go_simp)) hG.below
              · exact rol_val rfl rfl rfl (by rw [hz]; decide) (ex_load rfl (eval_slot (hF 10 (by decide))) (ld_strT (cell_keep CV.out (by rw [HN0.out]; exact hG.below)))) hG.below
              · exact rol_newO rfl rfl rfl (by rw [hz]; decide) (x := .cells #[.string (mkB v)] 9) (v := .slice (some ⟨wx.heap.size, 0, none⟩) 1 1) (ex_slice rfl (vs := #[(0, .string (mkB v))]) (by simp only [List.map_toArray, List.map_cons, List.map_nil, eval_slot (hF 11 (by decide))]) (by go_simp)) ⟨_, rfl, rfl, heap_alloc_new _ _⟩ hG.below (Nat.le_trans HNS.out hG.new)
              · exact rol_pushS rfl rfl rfl (by rw [hz]; decide) rfl (hF 18 (by decide)) (eval_slot (hF 6 (by decide))) (hF 12 (by decide)) HQB.out hG.below (Nat.le_refl _) (Nat.le_trans HNS.out hG.new) rfl HVS2.out
              · exact rol_val rfl rfl rfl (by rw [hz]; decide) (ex_index rfl (eval_slot (hF 0 (by decide))) (eval_slot (hF 1 (by decide))) (by have h := idx_rws (b := gx) (off := 0) (n := m + 1) (c := cx) (k := m) (w := wx) (Nat.lt_succ_self m); rw [Nat.zero_add] at h; exact h)) hG.below
              · exact rol_val rfl rfl rfl (by rw [hz]; decide) (ex_field rfl (eval_slot (hF 14 (by decide))) (by go_simp)) hG.below
              · exact rol_setR rfl rfl rfl rfl (eval_slot (hF 15 (by decide))) (hF 13 (by decide)) (hF 17 (by decide)) HCS.out hG.below HGX.out
            · intro a wx who hG hF
              have hap := hF 13 (of_decide_eq_true (by kernel_rfl)) (of_decide_eq_true (by kernel_rfl))
              have hst := hF 16 (of_decide_eq_true (by kernel_rfl)) (of_decide_eq_true (by kernel_rfl))
              have hzz := hF 19 (of_decide_eq_true (by kernel_rfl)) (of_decide_eq_true (by kernel_rfl))
              have hbx := hG.below
              have hnx := hG.new
              rw [hG.frame]
              simp only [List.foldl_cons, List.foldl_nil, List.setIfInBounds_toArray, List.set_cons_zero, List.set_cons_succ]
              generalize a.tmps.getD 40 undef = u40
              generalize a.tmps.getD 41 undef = u41
              generalize a.tmps.getD 42 undef = u42
              generalize a.tmps.getD 43 undef = u43
              generalize a.tmps.getD 44 undef = u44
              generalize a.tmps.getD 45 undef = u45
              generalize a.tmps.getD 46 undef = u46
              generalize a.tmps.getD 47 undef = u47
              generalize a.tmps.getD 48 undef = u48
              generalize a.tmps.getD 49 undef = u49
              generalize a.tmps.getD 50 undef = u50
              generalize a.tmps.getD 51 undef = u51
              generalize a.tmps.getD 52 undef = u52
              generalize a.tmps.getD 53 undef = u53
              generalize a.tmps.getD 54 undef = u54
              generalize a.tmps.getD 55 undef = u55
              clear hF hG
              obtain ⟨va, oba, hva, hoba, hra, rfl⟩ := hap
              obtain ⟨vb, obb, hvb, -, -, hrb⟩ := hst
              have evb : va = vb := Option.some.inj (hva.symm.trans hvb)
              subst evb
              obtain ⟨_, bsz, -, hbz, hIz, hkz⟩ := hzz
              have HNX := Lib.hid (show OfI wx N0 (.slice (some ⟨gx, 0, none⟩) (m + 1) cx) (T0 ++ [(p, vs2)]) from .inr ⟨T0, p, vs2, zs, va, rfl, by rw [HTM.out]; have h5 := own_setlast (w := W6) (w' := wx) (T0 := T0) (zs := zs) (p := p) (Y := .slice ay q cy) (Y' := va) (cur := cur) (N := N0) (cap := cx) HZ.out.1 (by rw [HTM.out]; exact HX.out) RX.out (by rw [HTM.out]; exact hrb); rw [HTM.out] at h5; exact h5, hIz, by rw [show vs2.length = q + 1 by rw [HVS2.out, List.length_append, HVQ.out]; rfl]; exact hra, fun j hj b e q2 => by have h1 := (hbz b (hkz j hj b e)).2; have h2 := (hoba b q2).2; rw [h1] at h2; cases h2⟩)
              clear hva hvb hoba hra hrb hbz hIz hkz
              have HBN := Lib.hid hbx
              clear hbx hnx
              go_wp2
              go_roundw
              case rel => exact ⟨k + 1, _, by omega, by go_num, rfl, Lib.hid (by rw [HTK.out, HPU.out]; exact HNX.out), HBN⟩
              case measure => simp [intOf]; omega
    · have e : k = n := by omega
      subst e
      have hE : rwOf (S.take k) = R := by rw [List.take_of_length_le (by rw [HN.out]; exact Nat.le_refl _)]; exact HR.out
      rw [hE] at HO
      clear hE
      go_wp2
      go_ret
      exact ⟨_, rfl, HO.out.own, HB.out⟩
end Go.Proofs.YtlbibgofhhdgoaaGreat

namespace Go.Proofs.YtlbibgofhhdgoaaGreat
open Go.RowKit
set_option linter.unusedVariables false
set_option maxRecDepth 100000

set_option maxHeartbeats 1600000 in
theorem refmay_any16 (V : Value) (l : List Rw) (w : World) (hV : Rws w V l) (hl : l.length ≤ 100) (hv : ∀ r ∈ l, r.2.length ≤ 100) (hp : ∀ r ∈ l, r.1.length ≤ 1000000000) (hs : ∀ r ∈ l, ∀ x ∈ r.2, x.length ≤ 1000000000) :
    Calls Tryz.prog 14 #[V] w fun e w' => e = .returned (.bool (okR l)) ∧ Below w.heap.size w w' := by
  obtain ⟨a, c, rfl, -, -, -, -⟩ := hV.ex
  have hS : (rwAll l).length ≤ 10000 := Nat.le_trans (all_len (M := 100) hv) (by omega)
  have hsm : ∀ n ∈ rwAll l, smallN n := fun n hn => by
    obtain ⟨r, hr, e1, e2⟩ := rwAll_mem.1 hn
    exact ⟨by rw [← e1]; exact hp r hr, hs r hr _ e2⟩
  have ka := fun V w h => refall_any16 V l w h (by omega) (fun r hr => Nat.le_trans (hv r hr) (by decide))
  have kc := fun V w h => refncheck_any V (rwAll l) w h hsm
  have ko := fun V w h => refof_any16 V (rwAll l) w h hS
  have ks := fun U V w h h' => refsame16_any U V l (rwOf (rwAll l)) w h h'
  have hm := may_is l
  obtain ⟨x, hx⟩ : ∃ x, checkN (rwAll l) = x := ⟨_, rfl⟩
  obtain ⟨y, hy⟩ : ∃ y, decide (l = rwOf (rwAll l)) = y := ⟨_, rfl⟩
  rw [hx] at kc hm
  rw [hy] at ks hm
  rw [← hm]
  obtain ⟨S, hSS⟩ : ∃ S, rwAll l = S := ⟨_, rfl⟩
  rw [hSS] at ka kc ko ks
  obtain ⟨Z, hZ⟩ : ∃ Z, rwOf S = Z := ⟨_, rfl⟩
  rw [hZ] at ko ks
  have SV := Lib.hid hV; have KA := Lib.hid ka; have KC := Lib.hid kc; have KO := Lib.hid ko; have KS := Lib.hid ks
  clear hV hl hv hp hs hS hsm ka kc ko ks hm hx hy hSS hZ
  cases x
  · go_enter Tryz.func14, Tryz.ntmps14
    go_wp2_with (first
      | (go_at_call 36; refine (KA.out _ _ SV.out).mono ?_; rintro e w1 ⟨x1, rfl, ho1, hb1⟩; obtain ⟨a1, c1, rfl, hn1⟩ := ndsO ho1; have SN := Lib.hid hn1; have B := Lib.hid hb1; clear hb1 ho1 hn1)
      | (go_at_call 35; refine (KC.out _ _ SN.out).mono ?_; rintro e w2 ⟨rfl, hb2⟩; replace B := Lib.hid (below_step B.out hb2); clear hb2))
    go_ret
    exact ⟨rfl, B.out⟩
  · cases y
    all_goals
      go_enter Tryz.func14, Tryz.ntmps14
      go_wp2_with (first
        | (go_at_call 36; refine (KA.out _ _ SV.out).mono ?_; rintro e w1 ⟨x1, rfl, ho1, hb1⟩; obtain ⟨a1, c1, rfl, hn1⟩ := ndsO ho1; have SN := Lib.hid hn1; have B := Lib.hid hb1; clear hb1 ho1 hn1)
        | (go_at_call 35; refine (KC.out _ _ SN.out).mono ?_; rintro e w2 ⟨rfl, hb2⟩; replace B := Lib.hid (below_step B.out hb2); replace SN := Lib.hid (SN.out.below hb2); clear hb2)
        | (go_at_call 38; refine (KO.out _ _ SN.out).mono ?_; rintro e w3 ⟨x3, rfl, ho3, hb3⟩; obtain ⟨a3, c3, rfl, hr3⟩ := ho3.form; replace B := Lib.hid (below_step B.out hb3); have SR := Lib.hid hr3; clear hb3 ho3 hr3)
        | (go_at_call 37; refine (KS.out _ _ _ (SV.out.below B.out) SR.out).mono ?_; rintro e w4 ⟨rfl, hb4⟩; replace B := Lib.hid (below_step B.out hb4); clear hb4))
      go_ret
      exact ⟨rfl, B.out⟩

/-! ### Some rows -/
def fewRow (r : Rw) : Rw := (fewL r.1, (r.2.take 12).map fewL)
def fewR (l : List Rw) : List Rw := (l.take 12).map fewRow
theorem fewR_len (l : List Rw) : (fewR l).length ≤ 12 := by unfold fewR; rw [List.length_map, List.length_take]; omega
theorem fewR_vers {l : List Rw} : ∀ r ∈ fewR l, r.2.length ≤ 12 := fun r hr => by
  obtain ⟨x, -, rfl⟩ := List.mem_map.1 hr
  unfold fewRow; rw [List.length_map, List.length_take]; omega
theorem fewR_path {l : List Rw} : ∀ r ∈ fewR l, r.1.length ≤ 400 := fun r hr => by
  obtain ⟨x, -, rfl⟩ := List.mem_map.1 hr
  exact fewL_len _
theorem fewR_text {l : List Rw} : ∀ r ∈ fewR l, ∀ x ∈ r.2, x.length ≤ 400 := fun r hr x hx => by
  obtain ⟨y, -, rfl⟩ := List.mem_map.1 hr
  obtain ⟨z, -, rfl⟩ := List.mem_map.1 hx
  exact fewL_len _
def fitsR (l : List Rw) : Prop := ∀ r ∈ l, r.1.length ≤ maxLen ∧ ∀ x ∈ r.2, x.length ≤ maxLen

set_option maxHeartbeats 6400000 in
theorem few16_any (V : Value) (l : List Rw) (w : World) (hV : Rws w V l) (hf : fitsR l) :
    Calls Tryz.prog 8 #[V] w fun e w' => ∃ v, e = .returned v ∧ RwO w' w.heap.size v (fewR l) ∧ Below w.heap.size w w' := by
  obtain ⟨Al, cl, rfl, hl1, hl2, -, -⟩ := hV.ex
  unfold maxLen at hl2
  obtain ⟨n, hn⟩ : ∃ n, l.length = n := ⟨_, rfl⟩
  rw [hn] at hl1 hV ⊢
  have hnlt : (n : Int) < 9223372036854775808 := by omega
  obtain ⟨R, hR⟩ : ∃ R, fewR l = R := ⟨_, rfl⟩
  rw [hR]
  have SV := Lib.hid hV; have HN := Lib.hid hn; have HF := Lib.hid hf; have HR := Lib.hid hR
  obtain ⟨N0, hN0⟩ : ∃ N, w.heap.size = N := ⟨_, rfl⟩
  have HN0 := Lib.hid hN0
  rw [hN0]
  clear hV hn hf hR hN0
  have e1 : ∀ args w, (callFunc 9 args).run Tryz.prog w = .ok (.enter 9 args) w := enters_of Tryz.func9 (by kernel_rfl) rfl
  go_enter Tryz.func8, Tryz.ntmps8
  go_wp2
  go_loopw [3, 4] (fun v3 i wr => ∃ (k : Nat) (X : Value), k ≤ n ∧ k ≤ 12 ∧ i = .int .i64 k ∧ X = v3 ∧ Hid (RwO wr N0 X ((l.take k).map fewRow)) ∧ Hid (Below N0 w wr)) (fun _ i _ => n - (intOf i).toNat)
  case atStart => exact ⟨0, _, Nat.zero_le _, Nat.zero_le _, rfl, rfl, Lib.hid (RwO.nil _ _), Lib.hid (Below.refl _ _)⟩
  case round =>
    obtain ⟨k, X, hk, hk12, rfl, rfl, HO, HB⟩ := hrel
    by_cases hlt : k < n ∧ k < 12
    · obtain ⟨hlt, hlt12⟩ := hlt
      have hkl : k < l.length := by rw [HN.out]; exact hlt
      have hbw : Below w.heap.size w wr := by rw [HN0.out]; exact HB.out
      obtain ⟨bl, ol, ap, ny, cz, rfl, c0, c1, hsy⟩ := (SV.out.below hbw).at k hkl
      have htk : (l.take (k + 1)).map fewRow = (l.take k).map fewRow ++ [fewRow (l.getD k zR)] := by rw [List.take_succ_eq_append_getElem hkl, List.map_append, gd_at hkl]; rfl
      have hfy := HF.out _ (gd_in (z := zR) hkl)
      obtain ⟨y, hy⟩ : ∃ y, y = l.getD k zR := ⟨_, rfl⟩
      rw [← hy] at c0 hsy htk hfy
      obtain ⟨p0, vs⟩ := y
      simp only at c0 c1 hsy hfy
      have hrow : fewRow (p0, vs) = (fewL p0, (vs.take 12).map fewL) := rfl
      rw [hrow] at htk
      have hny := hsy.lenE
      obtain ⟨hvl, hny1, hny2⟩ := hny
      unfold maxLen at hny2
      have kf := fun w => few_l p0 w hfy.1
      obtain ⟨p, hp⟩ : ∃ p, fewL p0 = p := ⟨_, rfl⟩
      rw [hp] at kf htk
      have hkb : (k : Int) < (n : Int) := by omega
      have hkb12 : (k : Int) < 12 := by omega
      have HTK := Lib.hid htk; have SY := Lib.hid hsy; have HVL := Lib.hid hvl; have KF := Lib.hid kf; have HFX := Lib.hid hfy.2; have HNS := Lib.hid (show N0 ≤ wr.heap.size by rw [← HN0.out]; exact hbw.size); have HKN := Lib.hid hlt; have G1 := Lib.hid c1
      clear hy htk hfy hrow hsy hvl hp kf hbw
      go_upto_region 6 with (go_at_call 9; refine (KF.out _).mono ?_; rintro e w1 ⟨rfl, rfl⟩)
      obtain ⟨W5, gr, hW5, hgr, r5, hb5⟩ := boxT wr (.string (mkB p)) (.slice none 0 0) 63
      rw [hW5, hgr]
      obtain ⟨Y0, hY0⟩ : ∃ Y, Value.slice none 0 0 = Y := ⟨_, rfl⟩
      have RB := Lib.hid (show W5.heap[gr]? = some (.cells #[.string (mkB p), Y0] 63 (0, 0)) by rw [← hY0]; exact r5)
      have HY0 := Lib.hid (show W5.ownsRow gr 9 1 Y0 0 (strC []) by rw [← hY0]; exact World.ownsRow_nil _ _ _ _)
      have HGR := Lib.hid hgr
      rw [hgr] at hb5
      have HB5 := Lib.hid hb5
      clear hW5 hgr r5 hb5 hY0 c0 c1
      go_wp2
      go_loopw [6] (fun i ws => ∃ (j : Nat) (Y : Value) (K : List (List UInt8)), j ≤ ny ∧ j ≤ 12 ∧ i = .int .i64 j ∧ Hid (K = (vs.take j).map fewL) ∧ Hid (ws.ownsRow gr 9 1 Y j (strC K)) ∧ Hid (ws.heap[gr]? = some (.cells #[.string (mkB p), Y] 63 (0, 0))) ∧ Hid (Below gr wr ws)) (fun i _ => ny - (intOf i).toNat)
      case atStart => exact ⟨0, Y0, [], Nat.zero_le _, Nat.zero_le _, rfl, Lib.hid rfl, HY0, RB, HB5⟩
      case round =>
        obtain ⟨j, Y, K, hj, hj12, rfl, HK, HOW, HBX, HB6⟩ := hrel
        obtain ⟨W6, hW6⟩ : ∃ v, v = wr := ⟨_, rfl⟩
        subst hW6
        have g1 := cell_keep G1.out (show Below _ _ W6 by rw [HGR.out]; exact HB6.out)
        by_cases hlt2 : j < ny ∧ j < 12
        · obtain ⟨hlt2, hlt3⟩ := hlt2
          have hjl : j < vs.length := by rw [HVL.out]; exact hlt2
          obtain ⟨bz, oz, rfl, hcz⟩ := SY.out.atT j hjl
          have hxm := HFX.out _ (gd_in (z := []) hjl)
          have htj : (vs.take (j + 1)).map fewL = (vs.take j).map fewL ++ [fewL (vs.getD j [])] := by
            rw [List.take_succ_eq_append_getElem hjl, List.map_append, gd_at hjl]; rfl
          obtain ⟨x, hx⟩ : ∃ x, x = vs.getD j [] := ⟨_, rfl⟩
          rw [← hx] at hcz hxm htj
          obtain ⟨K2, hK2⟩ : ∃ K2, K2 = K ++ [fewL x] := ⟨_, rfl⟩
          obtain ⟨ay, cy, rfl⟩ := own_form HOW.out
          obtain ⟨q, hq⟩ : ∃ q, j = q := ⟨_, rfl⟩
          have HTJ := Lib.hid htj; have GX := Lib.hid hcz; have HXM := Lib.hid hxm; have HJN := Lib.hid hlt2; have HK2 := Lib.hid hK2; have HQB := Lib.hid (show q ≤ 1000000 by omega); have HGN := Lib.hid (show gr ≤ W6.heap.size from Nat.le_of_lt (Array.getElem?_eq_some_iff.1 HBX.out).1)
          have HQJ := Lib.hid hq
          have hjb : (j : Int) < (ny : Int) := by omega
          have hjb12 : (j : Int) < 12 := by omega
          clear hx htj hcz hxm hjl hK2 hq
          go_upto_region 9 with fail
          rw [HQJ.out] at HOW HBX
          clear g1
          refine rol_run (by kernel_rfl) [[], [0], [], [], [2, 3], [2, 3, 4], [2, 3, 4, 5], [], [2, 3, 4, 5, 6, 7], [2, 3, 4, 5, 6, 7, 8], [2, 3, 4, 5, 6, 7, 8, 9], [2, 3, 4, 5, 6, 7, 8, 9, 10], [0, 1, 2, 3, 4, 5, 6, 7, 8, 9, 10, 11], [0, 1, 2, 3, 4, 5, 6, 7, 8, 9, 10, 11, 12], [0, 1, 2, 3, 4, 5, 6, 7, 8, 9, 10, 11, 12, 13]] (by kernel_rfl) [38, 39, 40, 41, 42, 43, 44, 45, 46, 47, 48, 49, 50, 51] [[], [0, 15], [], [], [2, 3], [4], [5], [], [6, 7], [8], [9], [10], [1, 11, 16], [], [12, 13, 15]] [0, 0, 0, 0, 0, 0, 0, 0, 0, 0, 0, 4, 1, 0, 2, 2, 1] [0, 0, 0, 0, 0, 0, 0, 0, 0, 0, 0, 0, 1, 0, 2] [1000, 1000, 1000, 1000, 1000, 1000, 1000, 1000, 1000, 1000, 1000, 1000, 1000, 1000, 1000, 14, 12] [.val 38 (.pointer (some ⟨gr, 1, none⟩)), .val 39 (.slice ay q cy), .val 40 (.slice (some ⟨bl, ol, none⟩) n cl), .val 41 (.int .i64 (k : Int)), .val 42 (.pointer (some ⟨bl, ol + k * 2, none⟩)), .val 43 (.pointer (some ⟨bl, ol + k * 2 + 1, none⟩)), .val 44 (.slice (some ⟨bz, oz, none⟩) ny cz), .val 45 (.int .i64 (j : Int)), .val 46 (.pointer (some ⟨bz, oz + j, none⟩)), .val 47 (.string (mkB x)), .val 48 (.string (mkB (fewL x))), .mem 49 (blkG 9 #[.string (mkB (fewL x))] 1), .mem 50 (rowG gr 9 1 (q + 1) (strC K2)), .val 51 (.pointer (some ⟨gr, 1, none⟩)), .mem 50 (rowsF gr #[.string (mkB p), .slice ay q cy] 1), .box (gr) (.cells #[.string (mkB p), .slice ay q cy] 63), .mem 5 (rowX (.slice ay q cy) gr 9 1 q (strC K))] (by kernel_rfl) ?_ (gr) (W6.heap.size) rfl HB6.out rfl (fun b => if b = gr then 2 else 1) ?_ ?_ ?_
          · intro j hj
            have hj3 : j < 17 := hj
            have hj2 : j = 0 ∨ j = 1 ∨ j = 2 ∨ j = 3 ∨ j = 4 ∨ j = 5 ∨ j = 6 ∨ j = 7 ∨ j = 8 ∨ j = 9 ∨ j = 10 ∨ j = 11 ∨ j = 12 ∨ j = 13 ∨ j = 14 ∨ j = 15 ∨ j = 16 := by omega
            clear hj hj3
            rcases hj2 with rfl | rfl | rfl | rfl | rfl | rfl | rfl | rfl | rfl | rfl | rfl | rfl | rfl | rfl | rfl | rfl | rfl
            · exact trivial
            · exact trivial
            · exact trivial
            · exact trivial
            · exact trivial
            · exact trivial
            · exact trivial
            · exact trivial
            · exact trivial
            · exact trivial
            · exact trivial
            · exact blkG_near
            · exact rowG_near
            · exact trivial
            · exact rowsF_near
            · exact trivial
            · exact rowX_near
          · intro j hj0 hj
            have hj1 : 15 ≤ j := hj0
            have hj3 : j < 17 := hj
            have hj2 : j = 15 ∨ j = 16 := by omega
            clear hj0 hj hj1 hj3
            rcases hj2 with rfl | rfl
            · exact ⟨HBX.out, if_pos rfl⟩
            · exact ⟨_, _, rfl, fun b e => ⟨(own_lt HOW.out e).2, if_neg (fun q2 => own_nebox HOW.out HBX.out (by decide) (by rw [← q2]; exact e))⟩, HOW.out, rfl⟩
          · intro i hi a wx who hG hF
            have hz : a.tmps.size = 57 := hG.size
            have hi3 : i < 15 := hi
            have hi2 : i = 0 ∨ i = 1 ∨ i = 2 ∨ i = 3 ∨ i = 4 ∨ i = 5 ∨ i = 6 ∨ i = 7 ∨ i = 8 ∨ i = 9 ∨ i = 10 ∨ i = 11 ∨ i = 12 ∨ i = 13 ∨ i = 14 := by omega
            clear hi hi3
            rcases hi2 with rfl | rfl | rfl | rfl | rfl | rfl | rfl | rfl | rfl | rfl | rfl | rfl | rfl | rfl | rfl
            · exact rol_val rfl rfl rfl (by rw [hz]; decide) (ex_field rfl (eval_slot ((hG.slots 5 (by decide)).trans rfl)) (by go_simp)) hG.below
            · exact rol_val rfl rfl rfl (by rw [hz]; decide) (ex_load rfl (eval_slot (hF 0 (by decide))) (ld_stsT (row2 (hF 15 (by decide)).1).2.1)) hG.below
            · exact rol_val rfl rfl rfl (by rw [hz]; decide) (ex_move (Or.inl rfl) (eval_slot ((hG.slots 0 (by decide)).trans rfl))) hG.below
            · exact rol_val rfl rfl rfl (by rw [hz]; decide) (ex_move (Or.inl rfl) (eval_slot ((hG.slots 4 (by decide)).trans rfl))) hG.below
            · exact rol_val rfl rfl rfl (by rw [hz]; decide) (ex_index rfl (eval_slot (hF 2 (by decide))) (eval_slot (hF 3 (by decide))) (idx_rws HKN.out)) hG.below
            · exact rol_val rfl rfl rfl (by rw [hz]; decide) (ex_field rfl (eval_slot (hF 4 (by decide))) (by go_simp)) hG.below
            · exact rol_val rfl rfl rfl (by rw [hz]; decide) (ex_load rfl (eval_slot (hF 5 (by decide))) (ld_stsT (cell_keep G1.out (by rw [HGR.out]; exact hG.below)))) hG.below
            · exact rol_val rfl rfl rfl (by rw [hz]; decide) (ex_move (Or.inl rfl) (eval_slot ((hG.slots 6 (by decide)).trans rfl))) hG.below
            · exact rol_val rfl rfl rfl (by rw [hz]; decide) (ex_index rfl (eval_slot (hF 6 (by decide))) (eval_slot (hF 7 (by decide))) (idx_stsT HJN.out)) hG.below
            · exact rol_val rfl rfl rfl (by rw [hz]; decide) (ex_load rfl (eval_slot (hF 8 (by decide))) (ld_strT (cell_keep GX.out (by rw [HGR.out]; exact hG.below)))) hG.below
            · refine rol_call rfl rfl rfl (by rw [hz]; decide) (ex_call rfl (by simp [eval_slot (hF 9 (by decide))]) e1) (few_l x wx HXM.out) ?_ hG.below (Nat.le_trans HGN.out hG.new)
              rintro e w1 ⟨rfl, rfl⟩
              exact ⟨_, rfl, Below.refl _ _, .inl rfl⟩
            · exact rol_newO rfl rfl rfl (by rw [hz]; decide) (x := .cells #[.string (mkB (fewL x))] 9) (v := .slice (some ⟨wx.heap.size, 0, none⟩) 1 1) (ex_slice rfl (vs := #[(0, .string (mkB (fewL x)))]) (by simp only [List.map_toArray, List.map_cons, List.map_nil, eval_slot (hF 10 (by decide))]) (by go_simp)) ⟨_, rfl, rfl, heap_alloc_new _ _⟩ hG.below (Nat.le_trans HGN.out hG.new)
            · exact rol_pushS rfl rfl rfl (by rw [hz]; decide) rfl (hF 16 (by decide)) (eval_slot (hF 1 (by decide))) (hF 11 (by decide)) HQB.out hG.below (Nat.le_refl _) (Nat.le_trans HGN.out hG.new) rfl HK2.out
            · exact rol_val rfl rfl rfl (by rw [hz]; decide) (ex_field rfl (eval_slot ((hG.slots 5 (by decide)).trans rfl)) (by go_simp)) hG.below
            · exact rol_setR rfl rfl rfl rfl (eval_slot (hF 13 (by decide))) (hF 12 (by decide)) (hF 15 (by decide)) (show 1 < 2 from Nat.lt_succ_self 1) hG.below (Nat.le_refl _)
          · intro a wx who hG hF
            have hap := hF 12 (of_decide_eq_true (by kernel_rfl)) (of_decide_eq_true (by kernel_rfl))
            have hst := hF 14 (of_decide_eq_true (by kernel_rfl)) (of_decide_eq_true (by kernel_rfl))
            have hbx := hG.below
            have hnx := hG.new
            rw [hG.frame]
            simp only [List.foldl_cons, List.foldl_nil, List.setIfInBounds_toArray, List.set_cons_zero, List.set_cons_succ]
            generalize a.tmps.getD 38 undef = u38
            generalize a.tmps.getD 39 undef = u39
            generalize a.tmps.getD 40 undef = u40
            generalize a.tmps.getD 41 undef = u41
            generalize a.tmps.getD 42 undef = u42
            generalize a.tmps.getD 43 undef = u43
            generalize a.tmps.getD 44 undef = u44
            generalize a.tmps.getD 45 undef = u45
            generalize a.tmps.getD 46 undef = u46
            generalize a.tmps.getD 47 undef = u47
            generalize a.tmps.getD 48 undef = u48
            generalize a.tmps.getD 49 undef = u49
            generalize a.tmps.getD 50 undef = u50
            generalize a.tmps.getD 51 undef = u51
            clear hF hG
            obtain ⟨va, oba, hva, hoba, hra, rfl⟩ := hap
            obtain ⟨vb, obb, hvb, -, -, hrb⟩ := hst
            have evb : va = vb := Option.some.inj (hva.symm.trans hvb)
            subst evb
            have HOW7 := Lib.hid (show wx.ownsRow gr 9 1 va (j + 1) (strC K2) by rw [HQJ.out]; exact hra); have HBX7 := Lib.hid (show wx.heap[gr]? = some (.cells #[.string (mkB p), va] 63 (0, 0)) from hrb); have HB7 := Lib.hid hbx
            clear hva hvb hoba hra hrb hbx hnx
            go_wp2
            go_roundw
            case rel => exact ⟨j + 1, va, K2, by omega, by omega, by go_num, Lib.hid (by rw [HK2.out, HK.out, HTJ.out]), HOW7, HBX7, HB7⟩
            case measure => simp [intOf]; omega
        · have hKE : (vs.take 12).map fewL = K := by
            rw [HK.out]
            by_cases h12 : j = 12
            · rw [h12]
            · have hjn : j = ny := by omega
              rw [List.take_of_length_le (by rw [HVL.out]; omega), List.take_of_length_le (by rw [HVL.out]; omega)]
          have hjK : K.length = j := by rw [← hKE, List.length_map, List.length_take, HVL.out]; omega
          obtain ⟨d0, d1, -, -⟩ := row2 HBX.out
          obtain ⟨ay, cy, rfl⟩ := own_form HOW.out
          have hbw6 : Below w.heap.size w W6 := by rw [HN0.out]; exact HB.out.trans (HB6.out.mono (by rw [← HGR.out]; exact HNS.out))
          have HO6 := Lib.hid (HO.out.below (show Below _ _ W6 by rw [HGR.out]; exact HB6.out))
          obtain ⟨ys, hr1, hI1⟩ := HO6.out
          have hTl : ((l.take k).map fewRow).length = k := by rw [List.length_map, List.length_take, HN.out]; omega
          have hr1 := hr1
          have HB8 := Lib.hid (show Below N0 w W6 by rw [← HN0.out]; exact hbw6)
          have HNX := Lib.hid (show N0 ≤ W6.heap.size by rw [← HN0.out]; exact hbw6.size)
          rw [hTl] at hr1
          have HR1 := Lib.hid hr1; have HI1 := Lib.hid hI1; have HTL := Lib.hid hTl; have HKE := Lib.hid hKE; have HJK := Lib.hid hjK
          have HYO := Lib.hid (row_base HOW.out (show N0 ≤ gr by rw [← HGR.out]; exact HNS.out))
          have hjno : ¬ ((j : Int) < (ny : Int) ∧ (j : Int) < 12) := by omega
          clear hr1 hI1 hTl hKE hjK hbw6 HO6
          by_cases hjn : j < ny
          · have hj5 : ¬ j < 12 := by omega
            have hjnb : (j : Int) < (ny : Int) := by omega
            have hj5b : ¬ (j : Int) < 12 := by omega
            clear hjno hlt2
            go_wp2_with (at_builtin; refine wpList_push_rw rfl _ _ rfl N0 X ((l.take k).map fewRow) ys k HTL.out HI1.out.1 rfl HR1.out (p, (vs.take 12).map fewL) (.slice ay j cy) rfl _ rfl rfl (by omega) HNX.out ?_; intro a3 c3 w3 h3 hg3 ht3; have HX3 := Lib.hid (show RwO w3 N0 (.slice a3 (k + 1) c3) ((l.take k).map fewRow ++ [(p, (vs.take 12).map fewL)]) from ⟨_, by rw [List.length_append, HTL.out]; exact h3, (HI1.out.keep ht3).snoc (r := (p, (vs.take 12).map fewL)) (by rw [HKE.out, HJK.out]; exact row_heap HYO.out (fun b e => by obtain ⟨cs, hc⟩ := own_block HYO.out e; exact ht3 b cs hc))⟩); have B3 := Lib.hid (HB8.out.grown hg3 HNX.out (fun b e => (own_lt HR1.out e).1)); clear h3 hg3 ht3 d0 d1)
            go_roundw
            case rel => exact ⟨k + 1, _, by omega, by omega, by go_num, rfl, Lib.hid (by rw [HTK.out]; exact HX3.out), B3⟩
            case measure => simp [intOf]; omega
          · have hjnb : ¬ (j : Int) < (ny : Int) := by omega
            clear hjno hlt2
            go_wp2_with (at_builtin; refine wpList_push_rw rfl _ _ rfl N0 X ((l.take k).map fewRow) ys k HTL.out HI1.out.1 rfl HR1.out (p, (vs.take 12).map fewL) (.slice ay j cy) rfl _ rfl rfl (by omega) HNX.out ?_; intro a3 c3 w3 h3 hg3 ht3; have HX3 := Lib.hid (show RwO w3 N0 (.slice a3 (k + 1) c3) ((l.take k).map fewRow ++ [(p, (vs.take 12).map fewL)]) from ⟨_, by rw [List.length_append, HTL.out]; exact h3, (HI1.out.keep ht3).snoc (r := (p, (vs.take 12).map fewL)) (by rw [HKE.out, HJK.out]; exact row_heap HYO.out (fun b e => by obtain ⟨cs, hc⟩ := own_block HYO.out e; exact ht3 b cs hc))⟩); have B3 := Lib.hid (HB8.out.grown hg3 HNX.out (fun b e => (own_lt HR1.out e).1)); clear h3 hg3 ht3 d0 d1)
            go_roundw
            case rel => exact ⟨k + 1, _, by omega, by omega, by go_num, rfl, Lib.hid (by rw [HTK.out]; exact HX3.out), B3⟩
            case measure => simp [intOf]; omega
    · have hE : (l.take k).map fewRow = R := by
        rw [← HR.out]; unfold fewR
        by_cases h12 : k = 12
        · rw [h12]
        · have hkn : k = n := by omega
          rw [List.take_of_length_le (by rw [HN.out]; omega), List.take_of_length_le (by rw [HN.out]; omega)]
      rw [hE] at HO
      by_cases hkn : k < n
      · have hk5 : ¬ (k : Int) < 12 := by omega
        have hkb : (k : Int) < (n : Int) := by omega
        clear hlt hE hk12
        go_wp2
        go_ret
        exact ⟨_, rfl, HO.out, HB.out⟩
      · have hkb : ¬ (k : Int) < (n : Int) := by omega
        clear hlt hE
        go_wp2
        go_ret
        exact ⟨_, rfl, HO.out, HB.out⟩
end Go.Proofs.YtlbibgofhhdgoaaGreat

namespace Go.Proofs.YtlbibgofhhdgoaaGreat
open Go.RowKit Go.ChangeShapes Go.WideShapes
set_option linter.unusedVariables false
set_option maxRecDepth 100000

section
variable {H : Type} {enc : TypeId × Value → H} {w : World} {base : Nat} {spare : Nat → Bool} {held : Bool}
theorem rws_open {fuel : Nat} {a : Option Addr} {len cap : Nat} {x : DataW H × List MemPlace} (h : DataW.trod enc Tryz.prog w base spare held fuel 23 [.slice a len cap] = some x) :
    ∃ l, Rws w (.slice a len cap) l ∧ fitsR l := by
  rcases Go.Deep.open_slice_pairs Tryz.underlying23 Tryz.underlying63 (by kernel_rfl) rfl rfl (by kernel_rfl) (by kernel_rfl) h with ⟨hcs, _⟩ | ⟨ad, l, c, m, n, V0, V1, D0, D1, P0, P1, hcs, _, hl, hm, hmm, _, hx⟩
  · simp only [List.cons.injEq, Value.slice.injEq, and_true] at hcs
    obtain ⟨rfl, rfl, rfl⟩ := hcs
    exact ⟨[], rws_none w, fun r hr => by cases hr⟩
  · simp only [List.cons.injEq, Value.slice.injEq, and_true] at hcs
    obtain ⟨rfl, rfl, rfl⟩ := hcs
    have each : ∀ i, i < m → ∃ r : Rw, ∃ a' n' c', w.cell? (ad.add (i * 2)) = some (.string (mkB r.1)) ∧ w.cell? (ad.add (i * 2 + 1)) = some (.slice a' n' c') ∧ Strs w (.slice a' n' c') r.2 ∧ r.1.length ≤ maxLen ∧ ∀ x ∈ r.2, x.length ≤ maxLen := by
      intro i hi
      obtain ⟨h0, h1, t0, t1⟩ := hx i hi
      obtain ⟨s0, e0, _, z0⟩ := DataW.trod_string Tryz.underlying9 t0
      simp only [List.cons.injEq, and_true] at e0
      rw [Lib.size_eq] at z0
      have f0 : ∃ a len cap, V1 i = .slice a len cap := by
        rcases Go.Deep.open_slice Tryz.underlying61 t1 with ⟨hcs, _⟩ | ⟨ad, l, c, m, n, D, Pl, hcs, _⟩
        · simp only [List.cons.injEq, and_true] at hcs; exact ⟨_, _, _, hcs⟩
        · simp only [List.cons.injEq, and_true] at hcs; exact ⟨_, _, _, hcs⟩
      obtain ⟨a', n', c', e1⟩ := f0
      rw [e1] at t1 h1
      obtain ⟨zs, hz, hf⟩ := strs_open t1
      refine ⟨(s0.data.toList, zs), a', n', c', ?_, h1, hz, z0, hf⟩
      rw [h0, e0]; simp only [mkB, Lib.mk_data]
    obtain ⟨E, hE⟩ := Go.Deep.choose_lt each
    have hlm : len ≤ m := by rw [hmm]; split <;> omega
    refine ⟨(List.range len).map E, ?_, fun r hr => ?_⟩
    · have e : ((List.range len).map E).length = len := by simp
      refine ⟨some ad, cap, by rw [e], by rw [e]; exact hl, hm, (fun h => by cases h), fun hp => ?_⟩
      rw [e] at hp ⊢
      obtain ⟨b, off, spot⟩ := ad
      obtain ⟨a0, n0, c0, h0, -⟩ := hE 0 (by omega)
      have hspot : spot = none := by simpa [Addr.add] using World.cell?_spot h0
      subst hspot
      refine ⟨b, off, rfl, fun j hj => ?_⟩
      obtain ⟨a', n', c', h1, h2, h3, -⟩ := hE j (by omega)
      have hd : ((List.range len).map E).getD j zR = E j := by simp [List.getD_eq_getElem?_getD, hj]
      rw [addr_add] at h1 h2
      rw [hd]
      exact ⟨a', n', c', h1, by rw [Nat.add_assoc]; exact h2, h3⟩
    · obtain ⟨i, hi, rfl⟩ := List.mem_map.1 hr
      obtain ⟨_, _, _, _, _, _, hf1, hf2⟩ := hE i (by have := List.mem_range.1 hi; omega)
      exact ⟨hf1, hf2⟩
end

/-! ### The chapter's examples -/
def vT9 : List UInt8 := [118, 49, 46, 57, 46, 48]
def vT10 : List UInt8 := [118, 49, 46, 49, 48, 46, 48]
theorem exT1 : rowsE [([97], vT10), ([97], vT9)] = ([([97], [vT9, vT10])], 0) := by decide +kernel
theorem exT2 : bestE [([97], [vT9, vT10])] [97] = (vT10, 0) := by decide +kernel
theorem exT3 : dropE [([97], [vT9, vT10])] ([97], vT10) = ([([97], [vT9])], 0) := by decide +kernel
theorem exT4 : bestE [([97], [vT9])] [97] = (vT9, 0) := by decide +kernel
theorem exT5 : bestE [([97], [vT9])] [98] = ([], 2) := by decide +kernel
theorem exQ1 : ((mkB vT10).toList == [118, 49, 46, 49, 48, 46, 48]) = true := by rw [Lib.toList_data, mkB_list]; decide
theorem exQ2 : ((mkB vT9).toList == [118, 49, 46, 57, 46, 48]) = true := by rw [Lib.toList_data, mkB_list]; decide
theorem exP1 : ∀ r ∈ ([([97], [vT9, vT10])] : List Rw), r.1.length ≤ 1000000000 := fun r hr => by rw [List.mem_singleton.1 hr]; decide
theorem exP2 : ∀ r ∈ ([([97], [vT9, vT10])] : List Rw), ∀ x ∈ r.2, x.length ≤ 1000000000 := fun r hr x hx => by
  rw [List.mem_singleton.1 hr] at hx
  simp only [List.mem_cons, List.not_mem_nil, or_false] at hx
  rcases hx with rfl | rfl <;> decide
theorem exP3 : ∀ r ∈ ([([97], [vT9])] : List Rw), r.1.length ≤ 1000000000 := fun r hr => by rw [List.mem_singleton.1 hr]; decide
theorem exP4 : ∀ r ∈ ([([97], [vT9])] : List Rw), ∀ x ∈ r.2, x.length ≤ 1000000000 := fun r hr x hx => by
  rw [List.mem_singleton.1 hr] at hx
  simp only [List.mem_cons, List.not_mem_nil, or_false] at hx
  rw [hx]; decide
theorem exP5 : ∀ r ∈ ([([97], [vT9, vT10])] : List Rw), r.2.length ≤ 10000 := fun r hr => by rw [List.mem_singleton.1 hr]; decide
theorem exP6 : ∀ n ∈ ([([97], vT10), ([97], vT9)] : List Nd), smallN n := fun n hn => by
  simp only [List.mem_cons, List.not_mem_nil, or_false] at hn
  rcases hn with rfl | rfl <;> exact ⟨by decide, by decide⟩
theorem RwO.slice {w : World} {N n : Nat} {v : Value} {rs : List Rw} (h : RwO w N v rs) (hn : rs.length = n) : ∃ a c, v = .slice a n c ∧ Rws w (.slice a n c) rs := by
  subst hn; exact h.form
theorem Rws.slice {w : World} {n : Nat} {v : Value} {rs : List Rw} (h : Rws w v rs) (hn : rs.length = n) : ∃ a c, v = .slice a n c ∧ Rws w (.slice a n c) rs := by
  subst hn
  obtain ⟨a, c, rfl, -⟩ := h.ex
  exact ⟨a, c, rfl, h⟩

end Go.Proofs.YtlbibgofhhdgoaaGreat
