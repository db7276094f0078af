/- THE TEXTS OF NodR OctR TalQ TalR TalS: What comes into the laws: a node, a list of nodes. What comes into the laws: a list of texts. Which rows may be: of the document; some rows of a list. What comes in; the chapter's examples of rows. What the laws of rows lean on: a node is put into a box; how many rows there are, and how long; plain facts. -/
import Derived.Test.YtnngfcjfhhfafaaGreatNodW
import Derived.Deep.SlicePairs
import Derived.Lib.SmallJoins
import Derived.Test.YtnngfcjfhhfafaaGreatOctP
import Derived.Deep.Strs
import Derived.Test.YtnngfcjfhhfafaaGreatTalP
namespace Go.Proofs.YtnngfcjfhhfafaaGreat
open Go.RowKit Go.ChangeShapes Go.WideShapes
set_option maxRecDepth 100000

section
variable {H : Type} {enc : TypeId × Value → H} {w : World} {base : Nat} {spare : Nat → Bool} {held : Bool}
theorem node_open {r : Reach} {b0 : Nat} {v : Value} {d : DataW H} {p : List MemPlace} (hv : Value.okWide Tryz.prog w r b0 24 v) (h : DataW.Trod enc Tryz.prog w base spare held 24 v d p) :
    ∃ n : Nd, v = .agg #[.string (mkB n.1), .string (mkB n.2)] ∧ fitsN n := by
  obtain ⟨v0, v1, y0, y1, n, rfl, _, _, t0, t1⟩ := Go.Joins.open_agg2 Tryz.underlying24 (by kernel_rfl) (by kernel_rfl) hv h
  obtain ⟨s0, e0, _, z0⟩ := DataW.trod_string Tryz.underlying9 t0
  obtain ⟨s1, e1, _, z1⟩ := DataW.trod_string Tryz.underlying9 t1
  simp only [List.cons.injEq, and_true] at e0 e1
  subst e0 e1
  rw [Lib.size_eq] at z0 z1
  exact ⟨(s0.data.toList, s1.data.toList), by simp only [mkB, Lib.mk_data], z0, z1⟩
theorem nds_of {a : Addr} {len cap m : Nat} {V0 V1 : Nat → Value} (hl : len ≤ cap) (hm : cap ≤ maxLen) (hlm : len ≤ m) (hx : ∀ i, i < m → w.cell? (a.add (i * 2)) = some (V0 i) ∧ w.cell? (a.add (i * 2 + 1)) = some (V1 i) ∧ ∃ n : Nd, V0 i = .string (mkB n.1) ∧ V1 i = .string (mkB n.2) ∧ fitsN n) :
    ∃ l, Nds w (.slice (some a) len cap) l ∧ ∀ n ∈ l, fitsN n := by
  have hch : ∀ i, ∃ n : Nd, i < m → V0 i = .string (mkB n.1) ∧ V1 i = .string (mkB n.2) ∧ fitsN n := fun i => by
    by_cases h : i < m
    · obtain ⟨n, hn⟩ := (hx i h).2.2; exact ⟨n, fun _ => hn⟩
    · exact ⟨([], []), fun k => absurd k h⟩
  obtain ⟨f, hf⟩ := Classical.axiomOfChoice hch
  refine ⟨(List.range len).map f, ?_, fun n hn => ?_⟩
  · have e : ((List.range len).map f).length = len := by simp
    refine ⟨some a, cap, by rw [e], by rw [e]; exact hl, hm, (fun h => by cases h), fun hp => ?_⟩
    rw [e] at hp ⊢
    obtain ⟨b, off, spot⟩ := a
    have h0 := (hx 0 (by omega)).1
    have hspot : spot = none := by simpa [Addr.add] using World.cell?_spot h0
    subst hspot
    have hadd : ∀ j, (⟨b, off, none⟩ : Addr).add j = ⟨b, off + j, none⟩ := fun j => by unfold Addr.add; split <;> simp_all
    refine ⟨b, off, rfl, ?_, fun j hj => ?_⟩
    · have := World.block_lt_of_cell? w _ h0
      simpa [Addr.add] using this
    · obtain ⟨h1, h2, _⟩ := hx j (by omega)
      obtain ⟨g1, g2, _⟩ := hf j (by omega)
      have hd : ((List.range len).map f).getD j ([], []) = f j := by simp [List.getD_eq_getElem?_getD, hj]
      rw [hadd] at h1 h2
      rw [← Nat.add_assoc] at h2
      rw [hd, h1, h2, g1, g2]
      exact ⟨rfl, rfl⟩
  · obtain ⟨i, hi, rfl⟩ := List.mem_map.1 hn
    exact (hf i (by have := List.mem_range.1 hi; omega)).2.2
theorem nds_open {fuel : Nat} {a : Option Addr} {len cap : Nat} {x : DataW H × List MemPlace} (h : DataW.trod enc Tryz.prog w base spare held fuel 35 [.slice a len cap] = some x) :
    ∃ l, Nds w (.slice a len cap) l ∧ ∀ n ∈ l, fitsN n := by
  rcases Go.Deep.open_slice_pairs Tryz.underlying35 Tryz.underlying24 (by kernel_rfl) rfl rfl (by kernel_rfl) (by kernel_rfl) h with ⟨hcs, _⟩ | ⟨ad, l, c, m, n, V0, V1, D0, D1, P0, P1, hcs, _, hl, hm, hmm, _, hx⟩
  · simp only [List.cons.injEq, Value.slice.injEq, and_true] at hcs
    obtain ⟨rfl, rfl, rfl⟩ := hcs
    exact ⟨[], nds_none w, fun l hl => by cases hl⟩
  · simp only [List.cons.injEq, Value.slice.injEq, and_true] at hcs
    obtain ⟨rfl, rfl, rfl⟩ := hcs
    refine nds_of (m := m) (V0 := V0) (V1 := V1) hl hm (by rw [hmm]; split <;> omega) fun i hi => ?_
    obtain ⟨h0, h1, t0, t1⟩ := hx i hi
    obtain ⟨s0, e0, _, z0⟩ := DataW.trod_string Tryz.underlying9 t0
    obtain ⟨s1, e1, _, z1⟩ := DataW.trod_string Tryz.underlying9 t1
    simp only [List.cons.injEq, and_true] at e0 e1
    rw [Lib.size_eq] at z0 z1
    exact ⟨h0, h1, (s0.data.toList, s1.data.toList), by rw [e0]; simp only [mkB, Lib.mk_data], by rw [e1]; simp only [mkB, Lib.mk_data], z0, z1⟩
end
end Go.Proofs.YtnngfcjfhhfafaaGreat

namespace Go.Proofs.YtnngfcjfhhfafaaGreat
open Go.RowKit Go.ChangeShapes Go.WideShapes
set_option maxRecDepth 100000

theorem strs_of {w : World} {a : Addr} {len cap m : Nat} {Sx : Nat → ByteArray} (hl : len ≤ cap) (hm : cap ≤ maxLen) (hlm : len ≤ m) (hx : ∀ i, i < m → w.cell? (a.add i) = some (.string (Sx i)) ∧ (Sx i).size ≤ maxLen) :
    ∃ zs, Strs w (.slice (some a) len cap) zs ∧ ∀ l ∈ zs, l.length ≤ maxLen := by
  refine ⟨(List.range len).map fun i => (Sx i).data.toList, ?_, fun l hl => ?_⟩
  · have e : ((List.range len).map fun i => (Sx i).data.toList).length = len := by simp
    refine ⟨some a, cap, by rw [e], by rw [e]; exact hl, hm, (fun h => by cases h), fun hp => ?_⟩
    rw [e] at hp ⊢
    obtain ⟨b, off, spot⟩ := a
    have h0 := (hx 0 (by omega)).1
    have hspot : spot = none := by simpa [Addr.add] using World.cell?_spot h0
    subst hspot
    refine ⟨b, off, rfl, ?_, fun j hj => ?_⟩
    · have := World.block_lt_of_cell? w _ h0
      simpa [Addr.add] using this
    · have h1 := (hx j (by omega)).1
      have h2 : (⟨b, off, none⟩ : Addr).add j = ⟨b, off + j, none⟩ := by unfold Addr.add; split <;> simp_all
      rw [h2] at h1
      rw [h1]
      unfold strV
      congr 2
      have : ((List.range len).map fun i => (Sx i).data.toList).getD j [] = (Sx j).data.toList := by
        simp [List.getD_eq_getElem?_getD, hj]
      rw [this, Lib.mk_data]
  · obtain ⟨i, hi, rfl⟩ := List.mem_map.1 hl
    have := (hx i (by have := List.mem_range.1 hi; omega)).2
    rw [Lib.size_eq] at this
    exact this

section
variable {H : Type} {enc : TypeId × Value → H} {w : World} {base : Nat} {spare : Nat → Bool} {held : Bool}
theorem strs_open {fuel : Nat} {a : Option Addr} {len cap : Nat} {x : DataW H × List MemPlace} (h : DataW.trod enc Tryz.prog w base spare held fuel 56 [.slice a len cap] = some x) :
    ∃ zs, Strs w (.slice a len cap) zs ∧ ∀ l ∈ zs, l.length ≤ maxLen := by
  rcases Go.Deep.open_strs Tryz.underlying56 Tryz.underlying9 (by kernel_rfl) h with ⟨hcs, _⟩ | ⟨ad, l, c, m, Sx, hcs, _, hl, hm, hmm, _, hx⟩
  · simp only [List.cons.injEq, Value.slice.injEq, and_true] at hcs
    obtain ⟨rfl, rfl, rfl⟩ := hcs
    exact ⟨[], strs_none w, fun l hl => by cases hl⟩
  · simp only [List.cons.injEq, Value.slice.injEq, and_true] at hcs
    obtain ⟨rfl, rfl, rfl⟩ := hcs
    exact strs_of hl hm (by rw [hmm]; split <;> omega) hx
end
end Go.Proofs.YtnngfcjfhhfafaaGreat

namespace Go.Proofs.YtnngfcjfhhfafaaGreat
open Go.RowKit
set_option linter.unusedVariables false
set_option maxRecDepth 100000

set_option maxHeartbeats 1600000 in
theorem refmay_any16 (V : Value) (l : List Rw) (w : World) (hV : Rws w V l) (hl : l.length ≤ 100) (hv : ∀ r ∈ l, r.2.length ≤ 100) (hp : ∀ r ∈ l, r.1.length ≤ 1000000000) (hs : ∀ r ∈ l, ∀ x ∈ r.2, x.length ≤ 1000000000) :
    Calls Tryz.prog 13 #[V] w fun e w' => e = .returned (.bool (okR l)) ∧ Below w.heap.size w w' := by
  obtain ⟨a, c, rfl, -, -, -, -⟩ := hV.ex
  have hS : (rwAll l).length ≤ 10000 := Nat.le_trans (all_len (M := 100) hv) (by omega)
  have hsm : ∀ n ∈ rwAll l, smallN n := fun n hn => by
    obtain ⟨r, hr, e1, e2⟩ := rwAll_mem.1 hn
    exact ⟨by rw [← e1]; exact hp r hr, hs r hr _ e2⟩
  have ka := fun V w h => refall_any16 V l w h (by omega) (fun r hr => Nat.le_trans (hv r hr) (by decide))
  have kc := fun V w h => refncheck_any V (rwAll l) w h hsm
  have ko := fun V w h => refof_any16 V (rwAll l) w h hS
  have ks := fun U V w h h' => refsame16_any U V l (rwOf (rwAll l)) w h h'
  have hm := may_is l
  obtain ⟨x, hx⟩ : ∃ x, checkN (rwAll l) = x := ⟨_, rfl⟩
  obtain ⟨y, hy⟩ : ∃ y, decide (l = rwOf (rwAll l)) = y := ⟨_, rfl⟩
  rw [hx] at kc hm
  rw [hy] at ks hm
  rw [← hm]
  obtain ⟨S, hSS⟩ : ∃ S, rwAll l = S := ⟨_, rfl⟩
  rw [hSS] at ka kc ko ks
  obtain ⟨Z, hZ⟩ : ∃ Z, rwOf S = Z := ⟨_, rfl⟩
  rw [hZ] at ko ks
  have SV := Lib.hid hV; have KA := Lib.hid ka; have KC := Lib.hid kc; have KO := Lib.hid ko; have KS := Lib.hid ks
  clear hV hl hv hp hs hS hsm ka kc ko ks hm hx hy hSS hZ
  cases x
  · go_enter Tryz.func13, Tryz.ntmps13
    go_wp2_with (first
      | (go_at_call 18; refine (KA.out _ _ SV.out).mono ?_; rintro e w1 ⟨x1, rfl, ho1, hb1⟩; obtain ⟨a1, c1, rfl, hn1⟩ := ndsO ho1; have SN := Lib.hid hn1; have B := Lib.hid hb1; clear hb1 ho1 hn1)
      | (go_at_call 33; refine (KC.out _ _ SN.out).mono ?_; rintro e w2 ⟨rfl, hb2⟩; replace B := Lib.hid (below_step B.out hb2); clear hb2))
    go_ret
    exact ⟨rfl, B.out⟩
  · cases y
    all_goals
      go_enter Tryz.func13, Tryz.ntmps13
      go_wp2_with (first
        | (go_at_call 18; refine (KA.out _ _ SV.out).mono ?_; rintro e w1 ⟨x1, rfl, ho1, hb1⟩; obtain ⟨a1, c1, rfl, hn1⟩ := ndsO ho1; have SN := Lib.hid hn1; have B := Lib.hid hb1; clear hb1 ho1 hn1)
        | (go_at_call 33; refine (KC.out _ _ SN.out).mono ?_; rintro e w2 ⟨rfl, hb2⟩; replace B := Lib.hid (below_step B.out hb2); replace SN := Lib.hid (SN.out.below hb2); clear hb2)
        | (go_at_call 20; refine (KO.out _ _ SN.out).mono ?_; rintro e w3 ⟨x3, rfl, ho3, hb3⟩; obtain ⟨a3, c3, rfl, hr3⟩ := ho3.form; replace B := Lib.hid (below_step B.out hb3); have SR := Lib.hid hr3; clear hb3 ho3 hr3)
        | (go_at_call 15; refine (KS.out _ _ _ (SV.out.below B.out) SR.out).mono ?_; rintro e w4 ⟨rfl, hb4⟩; replace B := Lib.hid (below_step B.out hb4); clear hb4))
      go_ret
      exact ⟨rfl, B.out⟩

/-! ### Some rows -/
def fewRow (r : Rw) : Rw := (fewL r.1, (r.2.take 12).map fewL)
def fewR (l : List Rw) : List Rw := (l.take 12).map fewRow
theorem fewR_len (l : List Rw) : (fewR l).length ≤ 12 := by unfold fewR; rw [List.length_map, List.length_take]; omega
theorem fewR_vers {l : List Rw} : ∀ r ∈ fewR l, r.2.length ≤ 12 := fun r hr => by
  obtain ⟨x, -, rfl⟩ := List.mem_map.1 hr
  unfold fewRow; rw [List.length_map, List.length_take]; omega
theorem fewR_path {l : List Rw} : ∀ r ∈ fewR l, r.1.length ≤ 400 := fun r hr => by
  obtain ⟨x, -, rfl⟩ := List.mem_map.1 hr
  exact fewL_len _
theorem fewR_text {l : List Rw} : ∀ r ∈ fewR l, ∀ x ∈ r.2, x.length ≤ 400 := fun r hr x hx => by
  obtain ⟨y, -, rfl⟩ := List.mem_map.1 hr
  obtain ⟨z, -, rfl⟩ := List.mem_map.1 hx
  exact fewL_len _
def fitsR (l : List Rw) : Prop := ∀ r ∈ l, r.1.length ≤ maxLen ∧ ∀ x ∈ r.2, x.length ≤ maxLen

set_option maxHeartbeats 6400000 in
theorem few16_any (V : Value) (l : List Rw) (w : World) (hV : Rws w V l) (hf : fitsR l) :
    Calls Tryz.prog 8 #[V] w fun e w' => ∃ v, e = .returned v ∧ RwO w' w.heap.size v (fewR l) ∧ Below w.heap.size w w' := by
  obtain ⟨Al, cl, rfl, hl1, hl2, -, -⟩ := hV.ex
  unfold maxLen at hl2
  obtain ⟨n, hn⟩ : ∃ n, l.length = n := ⟨_, rfl⟩
  rw [hn] at hl1 hV ⊢
  have hnlt : (n : Int) < 9223372036854775808 := by omega
  obtain ⟨R, hR⟩ : ∃ R, fewR l = R := ⟨_, rfl⟩
  rw [hR]
  have SV := Lib.hid hV; have HN := Lib.hid hn; have HF := Lib.hid hf; have HR := Lib.hid hR
  obtain ⟨N0, hN0⟩ : ∃ N, w.heap.size = N := ⟨_, rfl⟩
  have HN0 := Lib.hid hN0
  rw [hN0]
  clear hV hn hf hR hN0
  have e1 : ∀ args w, (callFunc 24 args).run Tryz.prog w = .ok (.enter 24 args) w := enters_of Tryz.func24 (by kernel_rfl) rfl
  go_enter Tryz.func8, Tryz.ntmps8
  go_wp2
  go_loopw [3, 4] (fun v3 i wr => ∃ (k : Nat) (X : Value), k ≤ n ∧ k ≤ 12 ∧ i = .int .i64 k ∧ X = v3 ∧ Hid (RwO wr N0 X ((l.take k).map fewRow)) ∧ Hid (Below N0 w wr)) (fun _ i _ => n - (intOf i).toNat)
  case atStart => exact ⟨0, _, Nat.zero_le _, Nat.zero_le _, rfl, rfl, Lib.hid (RwO.nil _ _), Lib.hid (Below.refl _ _)⟩
  case round =>
    obtain ⟨k, X, hk, hk12, rfl, rfl, HO, HB⟩ := hrel
    by_cases hlt : k < n ∧ k < 12
    · obtain ⟨hlt, hlt12⟩ := hlt
      have hkl : k < l.length := by rw [HN.out]; exact hlt
      have hbw : Below w.heap.size w wr := by rw [HN0.out]; exact HB.out
      obtain ⟨bl, ol, ap, ny, cz, rfl, c0, c1, hsy⟩ := (SV.out.below hbw).at k hkl
      have htk : (l.take (k + 1)).map fewRow = (l.take k).map fewRow ++ [fewRow (l.getD k zR)] := by rw [List.take_succ_eq_append_getElem hkl, List.map_append, gd_at hkl]; rfl
      have hfy := HF.out _ (gd_in (z := zR) hkl)
      obtain ⟨y, hy⟩ : ∃ y, y = l.getD k zR := ⟨_, rfl⟩
      rw [← hy] at c0 hsy htk hfy
      obtain ⟨p0, vs⟩ := y
      simp only at c0 c1 hsy hfy
      have hrow : fewRow (p0, vs) = (fewL p0, (vs.take 12).map fewL) := rfl
      rw [hrow] at htk
      have hny := hsy.lenE
      obtain ⟨hvl, hny1, hny2⟩ := hny
      unfold maxLen at hny2
      have kf := fun w => few_l p0 w hfy.1
      obtain ⟨p, hp⟩ : ∃ p, fewL p0 = p := ⟨_, rfl⟩
      rw [hp] at kf htk
      have hkb : (k : Int) < (n : Int) := by omega
      have hkb12 : (k : Int) < 12 := by omega
      have HTK := Lib.hid htk; have SY := Lib.hid hsy; have HVL := Lib.hid hvl; have KF := Lib.hid kf; have HFX := Lib.hid hfy.2; have HNS := Lib.hid (show N0 ≤ wr.heap.size by rw [← HN0.out]; exact hbw.size); have HKN := Lib.hid hlt; have G1 := Lib.hid c1
      clear hy htk hfy hrow hsy hvl hp kf hbw
      go_upto_region 6 with (go_at_call 24; refine (KF.out _).mono ?_; rintro e w1 ⟨rfl, rfl⟩)
      obtain ⟨W5, gr, hW5, hgr, r5, hb5⟩ := boxT wr (.string (mkB p)) (.slice none 0 0) 58
      rw [hW5, hgr]
      obtain ⟨Y0, hY0⟩ : ∃ Y, Value.slice none 0 0 = Y := ⟨_, rfl⟩
      have RB := Lib.hid (show W5.heap[gr]? = some (.cells #[.string (mkB p), Y0] 58 (0, 0)) by rw [← hY0]; exact r5)
      have HY0 := Lib.hid (show W5.ownsRow gr 9 1 Y0 0 (strC []) by rw [← hY0]; exact World.ownsRow_nil _ _ _ _)
      have HGR := Lib.hid hgr
      rw [hgr] at hb5
      have HB5 := Lib.hid hb5
      clear hW5 hgr r5 hb5 hY0 c0 c1
      go_wp2
      go_loopw [6] (fun i ws => ∃ (j : Nat) (Y : Value) (K : List (List UInt8)), j ≤ ny ∧ j ≤ 12 ∧ i = .int .i64 j ∧ Hid (K = (vs.take j).map fewL) ∧ Hid (ws.ownsRow gr 9 1 Y j (strC K)) ∧ Hid (ws.heap[gr]? = some (.cells #[.string (mkB p), Y] 58 (0, 0))) ∧ Hid (Below gr wr ws)) (fun i _ => ny - (intOf i).toNat)
      case atStart => exact ⟨0, Y0, [], Nat.zero_le _, Nat.zero_le _, rfl, Lib.hid rfl, HY0, RB, HB5⟩
      case round =>
        obtain ⟨j, Y, K, hj, hj12, rfl, HK, HOW, HBX, HB6⟩ := hrel
        obtain ⟨W6, hW6⟩ : ∃ v, v = wr := ⟨_, rfl⟩
        subst hW6
        have g1 := cell_keep G1.out (show Below _ _ W6 by rw [HGR.out]; exact HB6.out)
        by_cases hlt2 : j < ny ∧ j < 12
        · obtain ⟨hlt2, hlt3⟩ := hlt2
          have hjl : j < vs.length := by rw [HVL.out]; exact hlt2
          obtain ⟨bz, oz, rfl, hcz⟩ := SY.out.atT j hjl
          have hxm := HFX.out _ (gd_in (z := []) hjl)
          have htj : (vs.take (j + 1)).map fewL = (vs.take j).map fewL ++ [fewL (vs.getD j [])] := by
            rw [List.take_succ_eq_append_getElem hjl, List.map_append, gd_at hjl]; rfl
          obtain ⟨x, hx⟩ : ∃ x, x = vs.getD j [] := ⟨_, rfl⟩
          rw [← hx] at hcz hxm htj
          obtain ⟨K2, hK2⟩ : ∃ K2, K2 = K ++ [fewL x] := ⟨_, rfl⟩
          obtain ⟨ay, cy, rfl⟩ := own_form HOW.out
          obtain ⟨q, hq⟩ : ∃ q, j = q := ⟨_, rfl⟩
          have HTJ := Lib.hid htj; have GX := Lib.hid hcz; have HXM := Lib.hid hxm; have HJN := Lib.hid hlt2; have HK2 := Lib.hid hK2; have HQB := Lib.hid (show q ≤ 1000000 by omega); have HGN := Lib.hid (show gr ≤ W6.heap.size from Nat.le_of_lt (Array.getElem?_eq_some_iff.1 HBX.out).1)
          have HQJ := Lib.hid hq
          have hjb : (j : Int) < (ny : Int) := by omega
          have hjb12 : (j : Int) < 12 := by omega
          clear hx htj hcz hxm hjl hK2 hq
          go_upto_region 9 with fail
          rw [HQJ.out] at HOW HBX
          clear g1
          refine rol_run (by kernel_rfl) [[], [0], [], [], [2, 3], [2, 3, 4], [2, 3, 4, 5], [], [2, 3, 4, 5, 6, 7], [2, 3, 4, 5, 6, 7, 8], [2, 3, 4, 5, 6, 7, 8, 9], [2, 3, 4, 5, 6, 7, 8, 9, 10], [0, 1, 2, 3, 4, 5, 6, 7, 8, 9, 10, 11], [0, 1, 2, 3, 4, 5, 6, 7, 8, 9, 10, 11, 12], [0, 1, 2, 3, 4, 5, 6, 7, 8, 9, 10, 11, 12, 13]] (by kernel_rfl) [38, 39, 40, 41, 42, 43, 44, 45, 46, 47, 48, 49, 50, 51] [[], [0, 15], [], [], [2, 3], [4], [5], [], [6, 7], [8], [9], [10], [1, 11, 16], [], [12, 13, 15]] [0, 0, 0, 0, 0, 0, 0, 0, 0, 0, 0, 4, 1, 0, 2, 2, 1] [0, 0, 0, 0, 0, 0, 0, 0, 0, 0, 0, 0, 1, 0, 2] [1000, 1000, 1000, 1000, 1000, 1000, 1000, 1000, 1000, 1000, 1000, 1000, 1000, 1000, 1000, 14, 12] [.val 38 (.pointer (some ⟨gr, 1, none⟩)), .val 39 (.slice ay q cy), .val 40 (.slice (some ⟨bl, ol, none⟩) n cl), .val 41 (.int .i64 (k : Int)), .val 42 (.pointer (some ⟨bl, ol + k * 2, none⟩)), .val 43 (.pointer (some ⟨bl, ol + k * 2 + 1, none⟩)), .val 44 (.slice (some ⟨bz, oz, none⟩) ny cz), .val 45 (.int .i64 (j : Int)), .val 46 (.pointer (some ⟨bz, oz + j, none⟩)), .val 47 (.string (mkB x)), .val 48 (.string (mkB (fewL x))), .mem 49 (blkG 9 #[.string (mkB (fewL x))] 1), .mem 50 (rowG gr 9 1 (q + 1) (strC K2)), .val 51 (.pointer (some ⟨gr, 1, none⟩)), .mem 50 (rowsF gr #[.string (mkB p), .slice ay q cy] 1), .box (gr) (.cells #[.string (mkB p), .slice ay q cy] 58), .mem 5 (rowX (.slice ay q cy) gr 9 1 q (strC K))] (by kernel_rfl) ?_ (gr) (W6.heap.size) rfl HB6.out rfl (fun b => if b = gr then 2 else 1) ?_ ?_ ?_
          · intro j hj
            have hj3 : j < 17 := hj
            have hj2 : j = 0 ∨ j = 1 ∨ j = 2 ∨ j = 3 ∨ j = 4 ∨ j = 5 ∨ j = 6 ∨ j = 7 ∨ j = 8 ∨ j = 9 ∨ j = 10 ∨ j = 11 ∨ j = 12 ∨ j = 13 ∨ j = 14 ∨ j = 15 ∨ j = 16 := by omega
            clear hj hj3
            rcases hj2 with rfl | rfl | rfl | rfl | rfl | rfl | rfl | rfl | rfl | rfl | rfl | rfl | rfl | rfl | rfl | rfl | rfl
            · exact trivial
            · exact trivial
            · exact trivial
            · exact trivial
            · exact trivial
            · exact trivial
            · exact trivial
            · exact trivial
            · exact trivial
            · exact trivial
            · exact trivial
            · exact blkG_near
            · exact rowG_near
            · exact trivial
            · exact rowsF_near
            · exact trivial
            · exact rowX_near
          · intro j hj0 hj
            have hj1 : 15 ≤ j := hj0
            have hj3 : j < 17 := hj
            have hj2 : j = 15 ∨ j = 16 := by omega
            clear hj0 hj hj1 hj3
            rcases hj2 with rfl | rfl
            · exact ⟨HBX.out, if_pos rfl⟩
            · exact ⟨_, _, rfl, fun b e => ⟨(own_lt HOW.out e).2, if_neg (fun q2 => own_nebox HOW.out HBX.out (by decide) (by rw [← q2]; exact e))⟩, HOW.out, rfl⟩
          · intro i hi a wx who hG hF
            have hz : a.tmps.size = 57 := hG.size
            have hi3 : i < 15 := hi
            have hi2 : i = 0 ∨ i = 1 ∨ i = 2 ∨ i = 3 ∨ i = 4 ∨ i = 5 ∨ i = 6 ∨ i = 7 ∨ i = 8 ∨ i = 9 ∨ i = 10 ∨ i = 11 ∨ i = 12 ∨ i = 13 ∨ i = 14 := by omega
            clear hi hi3
            rcases hi2 with rfl | rfl | rfl | rfl | rfl | rfl | rfl | rfl | rfl | rfl | rfl | rfl | rfl | rfl | rfl
            · exact rol_val rfl rfl rfl (by rw [hz]; decide) (ex_field rfl (eval_slot ((hG.slots 5 (by decide)).trans rfl)) (by go_simp)) hG.below
            · exact rol_val rfl rfl rfl (by rw [hz]; decide) (ex_load rfl (eval_slot (hF 0 (by decide))) (ld_stsT (row2 (hF 15 (by decide)).1).2.1)) hG.below
            · exact rol_val rfl rfl rfl (by rw [hz]; decide) (ex_move (Or.inl rfl) (eval_slot ((hG.slots 0 (by decide)).trans rfl))) hG.below
            · exact rol_val rfl rfl rfl (by rw [hz]; decide) (ex_move (Or.inl rfl) (eval_slot ((hG.slots 4 (by decide)).trans rfl))) hG.below
            · exact rol_val rfl rfl rfl (by rw [hz]; decide) (ex_index rfl (eval_slot (hF 2 (by decide))) (eval_slot (hF 3 (by decide))) (idx_rws HKN.out)) hG.below
            · exact rol_val rfl rfl rfl (by rw [hz]; decide) (ex_field rfl (eval_slot (hF 4 (by decide))) (by go_simp)) hG.below
            · exact rol_val rfl rfl rfl (by rw [hz]; decide) (ex_load rfl (eval_slot (hF 5 (by decide))) (ld_stsT (cell_keep G1.out (by rw [HGR.out]; exact hG.below)))) hG.below
            · exact rol_val rfl rfl rfl (by rw [hz]; decide) (ex_move (Or.inl rfl) (eval_slot ((hG.slots 6 (by decide)).trans rfl))) hG.below
            · exact rol_val rfl rfl rfl (by rw [hz]; decide) (ex_index rfl (eval_slot (hF 6 (by decide))) (eval_slot (hF 7 (by decide))) (idx_stsT HJN.out)) hG.below
            · exact rol_val rfl rfl rfl (by rw [hz]; decide) (ex_load rfl (eval_slot (hF 8 (by decide))) (ld_strT (cell_keep GX.out (by rw [HGR.out]; exact hG.below)))) hG.below
            · refine rol_call rfl rfl rfl (by rw [hz]; decide) (ex_call rfl (by simp [eval_slot (hF 9 (by decide))]) e1) (few_l x wx HXM.out) ?_ hG.below (Nat.le_trans HGN.out hG.new)
              rintro e w1 ⟨rfl, rfl⟩
              exact ⟨_, rfl, Below.refl _ _, .inl rfl⟩
            · exact rol_newO rfl rfl rfl (by rw [hz]; decide) (x := .cells #[.string (mkB (fewL x))] 9) (v := .slice (some ⟨wx.heap.size, 0, none⟩) 1 1) (ex_slice rfl (vs := #[(0, .string (mkB (fewL x)))]) (by simp only [List.map_toArray, List.map_cons, List.map_nil, eval_slot (hF 10 (by decide))]) (by go_simp)) ⟨_, rfl, rfl, heap_alloc_new _ _⟩ hG.below (Nat.le_trans HGN.out hG.new)
            · exact rol_pushS rfl rfl rfl (by rw [hz]; decide) rfl (hF 16 (by decide)) (eval_slot (hF 1 (by decide))) (hF 11 (by decide)) HQB.out hG.below (Nat.le_refl _) (Nat.le_trans HGN.out hG.new) rfl HK2.out
            · exact rol_val rfl rfl rfl (by rw [hz]; decide) (ex_field rfl (eval_slot ((hG.slots 5 (by decide)).trans rfl)) (by go_simp)) hG.below
            · exact rol_setR rfl rfl rfl rfl (eval_slot (hF 13 (by decide))) (hF 12 (by decide)) (hF 15 (by decide)) (show 1 < 2 from Nat.lt_succ_self 1) hG.below (Nat.le_refl _)
          · intro a wx who hG hF
            have hap := hF 12 (of_decide_eq_true (by kernel_rfl)) (of_decide_eq_true (by kernel_rfl))
            have hst := hF 14 (of_decide_eq_true (by kernel_rfl)) (of_decide_eq_true (by kernel_rfl))
            have hbx := hG.below
            have hnx := hG.new
            rw [hG.frame]
            simp only [List.foldl_cons, List.foldl_nil, List.setIfInBounds_toArray, List.set_cons_zero, List.set_cons_succ]
            generalize a.tmps.getD 38 undef = u38
            generalize a.tmps.getD 39 undef = u39
            generalize a.tmps.getD 40 undef = u40
            generalize a.tmps.getD 41 undef = u41
            generalize a.tmps.getD 42 undef = u42
            generalize a.tmps.getD 43 undef = u43
            generalize a.tmps.getD 44 undef = u44
            generalize a.tmps.getD 45 undef = u45
            generalize a.tmps.getD 46 undef = u46
            generalize a.tmps.getD 47 undef = u47
            generalize a.tmps.getD 48 undef = u48
            generalize a.tmps.getD 49 undef = u49
            generalize a.tmps.getD 50 undef = u50
            generalize a.tmps.getD 51 undef = u51
            clear hF hG
            obtain ⟨va, oba, hva, hoba, hra, rfl⟩ := hap
            obtain ⟨vb, obb, hvb, -, -, hrb⟩ := hst
            have evb : va = vb := Option.some.inj (hva.symm.trans hvb)
            subst evb
            have HOW7 := Lib.hid (show wx.ownsRow gr 9 1 va (j + 1) (strC K2) by rw [HQJ.out]; exact hra); have HBX7 := Lib.hid (show wx.heap[gr]? = some (.cells #[.string (mkB p), va] 58 (0, 0)) from hrb); have HB7 := Lib.hid hbx
            clear hva hvb hoba hra hrb hbx hnx
            go_wp2
            go_roundw
            case rel => exact ⟨j + 1, va, K2, by omega, by omega, by go_num, Lib.hid (by rw [HK2.out, HK.out, HTJ.out]), HOW7, HBX7, HB7⟩
            case measure => simp [intOf]; omega
        · have hKE : (vs.take 12).map fewL = K := by
            rw [HK.out]
            by_cases h12 : j = 12
            · rw [h12]
            · have hjn : j = ny := by omega
              rw [List.take_of_length_le (by rw [HVL.out]; omega), List.take_of_length_le (by rw [HVL.out]; omega)]
          have hjK : K.length = j := by rw [← hKE, List.length_map, List.length_take, HVL.out]; omega
          obtain ⟨d0, d1, -, -⟩ := row2 HBX.out
          obtain ⟨ay, cy, rfl⟩ := own_form HOW.out
          have hbw6 : Below w.heap.size w W6 := by rw [HN0.out]; exact HB.out.trans (HB6.out.mono (by rw [← HGR.out]; exact HNS.out))
          have HO6 := Lib.hid (HO.out.below (show Below _ _ W6 by rw [HGR.out]; exact HB6.out))
          obtain ⟨ys, hr1, hI1⟩ := HO6.out
          have hTl : ((l.take k).map fewRow).length = k := by rw [List.length_map, List.length_take, HN.out]; omega
          have hr1 := hr1
          have HB8 := Lib.hid (show Below N0 w W6 by rw [← HN0.out]; exact hbw6)
          have HNX := Lib.hid (show N0 ≤ W6.heap.size by rw [← HN0.out]; exact hbw6.size)
          rw [hTl] at hr1
          have HR1 := Lib.hid hr1; have HI1 := Lib.hid hI1; have HTL := Lib.hid hTl; have HKE := Lib.hid hKE; have HJK := Lib.hid hjK
          have HYO := Lib.hid (row_base HOW.out (show N0 ≤ gr by rw [← HGR.out]; exact HNS.out))
          have hjno : ¬ ((j : Int) < (ny : Int) ∧ (j : Int) < 12) := by omega
          clear hr1 hI1 hTl hKE hjK hbw6 HO6
          by_cases hjn : j < ny
          · have hj5 : ¬ j < 12 := by omega
            have hjnb : (j : Int) < (ny : Int) := by omega
            have hj5b : ¬ (j : Int) < 12 := by omega
            clear hjno hlt2
            go_wp2_with (at_builtin; refine wpList_push_rw rfl _ _ rfl N0 X ((l.take k).map fewRow) ys k HTL.out HI1.out.1 rfl HR1.out (p, (vs.take 12).map fewL) (.slice ay j cy) rfl _ rfl rfl (by omega) HNX.out ?_; intro a3 c3 w3 h3 hg3 ht3; have HX3 := Lib.hid (show RwO w3 N0 (.slice a3 (k + 1) c3) ((l.take k).map fewRow ++ [(p, (vs.take 12).map fewL)]) from ⟨_, by rw [List.length_append, HTL.out]; exact h3, (HI1.out.keep ht3).snoc (r := (p, (vs.take 12).map fewL)) (by rw [HKE.out, HJK.out]; exact row_heap HYO.out (fun b e => by obtain ⟨cs, hc⟩ := own_block HYO.out e; exact ht3 b cs hc))⟩); have B3 := Lib.hid (HB8.out.grown hg3 HNX.out (fun b e => (own_lt HR1.out e).1)); clear h3 hg3 ht3 d0 d1)
            go_roundw
            case rel => exact ⟨k + 1, _, by omega, by omega, by go_num, rfl, Lib.hid (by rw [HTK.out]; exact HX3.out), B3⟩
            case measure => simp [intOf]; omega
          · have hjnb : ¬ (j : Int) < (ny : Int) := by omega
            clear hjno hlt2
            go_wp2_with (at_builtin; refine wpList_push_rw rfl _ _ rfl N0 X ((l.take k).map fewRow) ys k HTL.out HI1.out.1 rfl HR1.out (p, (vs.take 12).map fewL) (.slice ay j cy) rfl _ rfl rfl (by omega) HNX.out ?_; intro a3 c3 w3 h3 hg3 ht3; have HX3 := Lib.hid (show RwO w3 N0 (.slice a3 (k + 1) c3) ((l.take k).map fewRow ++ [(p, (vs.take 12).map fewL)]) from ⟨_, by rw [List.length_append, HTL.out]; exact h3, (HI1.out.keep ht3).snoc (r := (p, (vs.take 12).map fewL)) (by rw [HKE.out, HJK.out]; exact row_heap HYO.out (fun b e => by obtain ⟨cs, hc⟩ := own_block HYO.out e; exact ht3 b cs hc))⟩); have B3 := Lib.hid (HB8.out.grown hg3 HNX.out (fun b e => (own_lt HR1.out e).1)); clear h3 hg3 ht3 d0 d1)
            go_roundw
            case rel => exact ⟨k + 1, _, by omega, by omega, by go_num, rfl, Lib.hid (by rw [HTK.out]; exact HX3.out), B3⟩
            case measure => simp [intOf]; omega
    · have hE : (l.take k).map fewRow = R := by
        rw [← HR.out]; unfold fewR
        by_cases h12 : k = 12
        · rw [h12]
        · have hkn : k = n := by omega
          rw [List.take_of_length_le (by rw [HN.out]; omega), List.take_of_length_le (by rw [HN.out]; omega)]
      rw [hE] at HO
      by_cases hkn : k < n
      · have hk5 : ¬ (k : Int) < 12 := by omega
        have hkb : (k : Int) < (n : Int) := by omega
        clear hlt hE hk12
        go_wp2
        go_ret
        exact ⟨_, rfl, HO.out, HB.out⟩
      · have hkb : ¬ (k : Int) < (n : Int) := by omega
        clear hlt hE
        go_wp2
        go_ret
        exact ⟨_, rfl, HO.out, HB.out⟩
end Go.Proofs.YtnngfcjfhhfafaaGreat

namespace Go.Proofs.YtnngfcjfhhfafaaGreat
open Go.RowKit Go.ChangeShapes Go.WideShapes
set_option linter.unusedVariables false
set_option maxRecDepth 100000

section
variable {H : Type} {enc : TypeId × Value → H} {w : World} {base : Nat} {spare : Nat → Bool} {held : Bool}
theorem rws_open {fuel : Nat} {a : Option Addr} {len cap : Nat} {x : DataW H × List MemPlace} (h : DataW.trod enc Tryz.prog w base spare held fuel 22 [.slice a len cap] = some x) :
    ∃ l, Rws w (.slice a len cap) l ∧ fitsR l := by
  rcases Go.Deep.open_slice_pairs Tryz.underlying22 Tryz.underlying58 (by kernel_rfl) rfl rfl (by kernel_rfl) (by kernel_rfl) h with ⟨hcs, _⟩ | ⟨ad, l, c, m, n, V0, V1, D0, D1, P0, P1, hcs, _, hl, hm, hmm, _, hx⟩
  · simp only [List.cons.injEq, Value.slice.injEq, and_true] at hcs
    obtain ⟨rfl, rfl, rfl⟩ := hcs
    exact ⟨[], rws_none w, fun r hr => by cases hr⟩
  · simp only [List.cons.injEq, Value.slice.injEq, and_true] at hcs
    obtain ⟨rfl, rfl, rfl⟩ := hcs
    have each : ∀ i, i < m → ∃ r : Rw, ∃ a' n' c', w.cell? (ad.add (i * 2)) = some (.string (mkB r.1)) ∧ w.cell? (ad.add (i * 2 + 1)) = some (.slice a' n' c') ∧ Strs w (.slice a' n' c') r.2 ∧ r.1.length ≤ maxLen ∧ ∀ x ∈ r.2, x.length ≤ maxLen := by
      intro i hi
      obtain ⟨h0, h1, t0, t1⟩ := hx i hi
      obtain ⟨s0, e0, _, z0⟩ := DataW.trod_string Tryz.underlying9 t0
      simp only [List.cons.injEq, and_true] at e0
      rw [Lib.size_eq] at z0
      have f0 : ∃ a len cap, V1 i = .slice a len cap := by
        rcases Go.Deep.open_slice Tryz.underlying56 t1 with ⟨hcs, _⟩ | ⟨ad, l, c, m, n, D, Pl, hcs, _⟩
        · simp only [List.cons.injEq, and_true] at hcs; exact ⟨_, _, _, hcs⟩
        · simp only [List.cons.injEq, and_true] at hcs; exact ⟨_, _, _, hcs⟩
      obtain ⟨a', n', c', e1⟩ := f0
      rw [e1] at t1 h1
      obtain ⟨zs, hz, hf⟩ := strs_open t1
      refine ⟨(s0.data.toList, zs), a', n', c', ?_, h1, hz, z0, hf⟩
      rw [h0, e0]; simp only [mkB, Lib.mk_data]
    obtain ⟨E, hE⟩ := Go.Deep.choose_lt each
    have hlm : len ≤ m := by rw [hmm]; split <;> omega
    refine ⟨(List.range len).map E, ?_, fun r hr => ?_⟩
    · have e : ((List.range len).map E).length = len := by simp
      refine ⟨some ad, cap, by rw [e], by rw [e]; exact hl, hm, (fun h => by cases h), fun hp => ?_⟩
      rw [e] at hp ⊢
      obtain ⟨b, off, spot⟩ := ad
      obtain ⟨a0, n0, c0, h0, -⟩ := hE 0 (by omega)
      have hspot : spot = none := by simpa [Addr.add] using World.cell?_spot h0
      subst hspot
      refine ⟨b, off, rfl, fun j hj => ?_⟩
      obtain ⟨a', n', c', h1, h2, h3, -⟩ := hE j (by omega)
      have hd : ((List.range len).map E).getD j zR = E j := by simp [List.getD_eq_getElem?_getD, hj]
      rw [addr_add] at h1 h2
      rw [hd]
      exact ⟨a', n', c', h1, by rw [Nat.add_assoc]; exact h2, h3⟩
    · obtain ⟨i, hi, rfl⟩ := List.mem_map.1 hr
      obtain ⟨_, _, _, _, _, _, hf1, hf2⟩ := hE i (by have := List.mem_range.1 hi; omega)
      exact ⟨hf1, hf2⟩
end

/-! ### The chapter's examples -/
def vT9 : List UInt8 := [118, 49, 46, 57, 46, 48]
def vT10 : List UInt8 := [118, 49, 46, 49, 48, 46, 48]
theorem exT1 : rowsE [([97], vT10), ([97], vT9)] = ([([97], [vT9, vT10])], 0) := by decide +kernel
theorem exT2 : bestE [([97], [vT9, vT10])] [97] = (vT10, 0) := by decide +kernel
theorem exT3 : dropE [([97], [vT9, vT10])] ([97], vT10) = ([([97], [vT9])], 0) := by decide +kernel
theorem exT4 : bestE [([97], [vT9])] [97] = (vT9, 0) := by decide +kernel
theorem exT5 : bestE [([97], [vT9])] [98] = ([], 2) := by decide +kernel
theorem exQ1 : ((mkB vT10).toList == [118, 49, 46, 49, 48, 46, 48]) = true := by rw [Lib.toList_data, mkB_list]; decide
theorem exQ2 : ((mkB vT9).toList == [118, 49, 46, 57, 46, 48]) = true := by rw [Lib.toList_data, mkB_list]; decide
theorem exP1 : ∀ r ∈ ([([97], [vT9, vT10])] : List Rw), r.1.length ≤ 1000000000 := fun r hr => by rw [List.mem_singleton.1 hr]; decide
theorem exP2 : ∀ r ∈ ([([97], [vT9, vT10])] : List Rw), ∀ x ∈ r.2, x.length ≤ 1000000000 := fun r hr x hx => by
  rw [List.mem_singleton.1 hr] at hx
  simp only [List.mem_cons, List.not_mem_nil, or_false] at hx
  rcases hx with rfl | rfl <;> decide
theorem exP3 : ∀ r ∈ ([([97], [vT9])] : List Rw), r.1.length ≤ 1000000000 := fun r hr => by rw [List.mem_singleton.1 hr]; decide
theorem exP4 : ∀ r ∈ ([([97], [vT9])] : List Rw), ∀ x ∈ r.2, x.length ≤ 1000000000 := fun r hr x hx => by
  rw [List.mem_singleton.1 hr] at hx
  simp only [List.mem_cons, List.not_mem_nil, or_false] at hx
  rw [hx]; decide
theorem exP5 : ∀ r ∈ ([([97], [vT9, vT10])] : List Rw), r.2.length ≤ 10000 := fun r hr => by rw [List.mem_singleton.1 hr]; decide
theorem exP6 : ∀ n ∈ ([([97], vT10), ([97], vT9)] : List Nd), smallN n := fun n hn => by
  simp only [List.mem_cons, List.not_mem_nil, or_false] at hn
  rcases hn with rfl | rfl <;> exact ⟨by decide, by decide⟩
theorem RwO.slice {w : World} {N n : Nat} {v : Value} {rs : List Rw} (h : RwO w N v rs) (hn : rs.length = n) : ∃ a c, v = .slice a n c ∧ Rws w (.slice a n c) rs := by
  subst hn; exact h.form
theorem Rws.slice {w : World} {n : Nat} {v : Value} {rs : List Rw} (h : Rws w v rs) (hn : rs.length = n) : ∃ a c, v = .slice a n c ∧ Rws w (.slice a n c) rs := by
  subst hn
  obtain ⟨a, c, rfl, -⟩ := h.ex
  exact ⟨a, c, rfl, h⟩

set_option maxHeartbeats 3200000 in
theorem tawake_any (w : World) : Calls Tryz.prog 17 #[] w fun e w' => e = .returned (.bool true) ∧ Below w.heap.size w w' := by
  have h1 := fun V w h => trows_any V [([97], vT10), ([97], vT9)] w h exP6 (by decide)
  have h2 := fun V w h => tbest_any V [([97], [vT9, vT10])] [97] w h (by decide) exP1 exP2 (by decide)
  have h3 := fun V w h => tdrop_any V [([97], [vT9, vT10])] [97] vT10 w h (by decide) exP5 exP1 exP2 (by decide) (by decide)
  have h4 := fun V w h => tbest_any V [([97], [vT9])] [97] w h (by decide) exP3 exP4 (by decide)
  have h5 := fun V w h => tbest_any V [([97], [vT9])] [98] w h (by decide) exP3 exP4 (by decide)
  rw [exT1] at h1
  rw [exT2] at h2
  rw [exT3] at h3
  rw [exT4] at h4
  rw [exT5] at h5
  simp only at h1 h2 h3 h4 h5
  have H1 := Lib.hid h1; have H2 := Lib.hid h2; have H3 := Lib.hid h3; have H4 := Lib.hid h4; have H5 := Lib.hid h5
  clear h1 h2 h3 h4 h5
  go_enter Tryz.func17, Tryz.ntmps17
  go_upto_region 2 with fail
  obtain ⟨W, g1, g2, hW, hg1, hg2, a0, a1, b0, b1, hb⟩ := boxB2 w (.string (mkB [97])) (.string (mkB vT9)) (.string (mkB [97])) (.string (mkB vT10)) 24
  change Code.wp _ _ _ _ ((w.alloc (.cells #[.string (mkB [97]), .string (mkB vT9)] 24)).alloc (.cells #[.string (mkB [97]), .string (mkB vT10)] 24))
  rw [hW, hg2, hg1]
  have BB := Lib.hid hb
  have hown := World.ownsRow_lit (base := 0) (size := 2) (e := 24) W #[.string (mkB [97]), .string (mkB vT10), .string (mkB [97]), .string (mkB vT9)] 2 (Nat.zero_le _) (by decide) rfl
  have hu := Nds.owned (ns := [([97], vT10), ([97], vT9)]) hown
  have hbx : Below W.heap.size W (W.alloc (.cells #[.string (mkB [97]), .string (mkB vT10), .string (mkB [97]), .string (mkB vT9)] 24)) := (Below.refl _ _).alloc (Nat.le_refl _) _
  have HU := Lib.hid hu; have BX := Lib.hid hbx
  clear hW hg1 hg2 hb hu hbx hown
  have a0' := fun o => cell_alloc a0 o
  have a1' := fun o => cell_alloc a1 o
  have b0' := fun o => cell_alloc b0 o
  have b1' := fun o => cell_alloc b1 o
  go_upto_region 3 with (go_at_call 26; refine (H1.out _ _ HU.out).mono ?_; rintro e w1 ⟨v1, rfl, ho1, hb1⟩; obtain ⟨k1, c1, rfl, hd⟩ := ho1.slice (n := 1) rfl; have hbw := below_step BX.out hb1; replace a0 := cell_keep a0 hbw; replace a1 := cell_keep a1 hbw; replace b0 := cell_keep b0 hbw; replace b1 := cell_keep b1 hbw; replace BB := Lib.hid (below_step BB.out hbw); have S1 := Lib.hid hd; clear hb1 hbw ho1 hd a0' a1' b0' b1')
  clear H1
  go_upto_region 4 with (go_at_call 27; refine (H2.out _ _ S1.out).mono ?_; rintro e w2 ⟨rfl, hb1⟩; replace BB := Lib.hid (below_step BB.out hb1); replace S1 := Lib.hid (S1.out.below hb1); replace a0 := cell_keep a0 hb1; replace a1 := cell_keep a1 hb1; replace b0 := cell_keep b0 hb1; replace b1 := cell_keep b1 hb1; clear hb1)
  clear H2
  go_upto_region 5 with (go_at_call 11; refine (H3.out _ _ S1.out).mono ?_; rintro e w3 ⟨v3, rfl, hr3, hb1⟩; obtain ⟨k3, c3, rfl, hd⟩ := hr3.slice (n := 1) rfl; replace BB := Lib.hid (below_step BB.out hb1); have S3 := Lib.hid hd; clear hb1 hr3 hd a0 a1 b0 b1)
  clear H3
  go_upto_region 6 with (go_at_call 27; refine (H4.out _ _ S3.out).mono ?_; rintro e w4 ⟨rfl, hb1⟩; replace BB := Lib.hid (below_step BB.out hb1); replace S3 := Lib.hid (S3.out.below hb1); clear hb1)
  clear H4
  have q1 := exQ1
  have q2 := exQ2
  go_wp2_with (go_at_call 27; refine (H5.out _ _ S3.out).mono ?_; rintro e w5 ⟨rfl, hb1⟩; replace BB := Lib.hid (below_step BB.out hb1); clear hb1)
  go_ret
  exact ⟨rfl, BB.out⟩
end Go.Proofs.YtnngfcjfhhfafaaGreat

namespace Go.Proofs.YtnngfcjfhhfafaaGreat
open Go.RowKit
set_option linter.unusedVariables false
set_option maxRecDepth 100000

theorem st_ndT {w : World} {g : Nat} {q1 q2 : List UInt8} {x0 y0 : Value} {t : TypeId} (h : w.heap[g]? = some (.cells #[x0, y0] t (0, 0))) : Sem.run Tryz.prog (Instr.storeAt 24 (.pointer (some ⟨g, 0, none⟩)) (.agg #[.string (mkB q1), .string (mkB q2)])) w = .ok () ((w.setCell ⟨g, 0, none⟩ (.string (mkB q1))).setCell ⟨g, 1, none⟩ (.string (mkB q2))) := by
  obtain ⟨d0, d1, f0, f1⟩ := row2 h
  go_simp
section
variable {ops : Array Oper} {Q : Exit → Act → World → Prop} {a : Act} {w w0 : World} {who : Nat → Nat} {i B r ro : Nat} {o : Oper}
/-- A node is put into a box. -/
theorem rol_box_ndT (ho : ops[i]? = some o) (hw : Region.wanted o (yielded ops a.tmps) = true) (hd : o.dst = none) {x y : Operand} {g : Nat} (hop : o.op = .store 24 x y) (hx : a.eval x = .pointer (some ⟨g, 0, none⟩)) {q1 q2 : List UInt8} (hy : a.eval y = .agg #[.string (mkB q1), .string (mkB q2)])
    {x0 y0 : Value} {ty : TypeId} (hg : (RLeaf.box g (.cells #[x0, y0] ty)).holds r a w who) (hb : Below B w0 w) (hB : B ≤ g) : wpOp Tryz.prog ops Q i (RPost ops i r r (.box g (.cells #[.string (mkB q1), .string (mkB q2)] ty)) B w0 a w who) a w := by
  refine rol_store ho hw hd (ex_store hop hx hy (st_ndT hg.1)) hg (row2_set hg.1 _ _) (fun k hk => ?_) (by simp [World.setCell]) ((hb.setCell hB _).setCell hB _)
  rw [Below.heap_setCell _ ⟨g, 1, none⟩ _ k hk, Below.heap_setCell _ ⟨g, 0, none⟩ _ k hk]
end
theorem mkB_all (a : ByteArray) : ∃ l, a = mkB l ∧ l.length = a.size := ⟨a.data.toList, by simp only [mkB, Lib.mk_data], by rw [Lib.size_eq]⟩
theorem str_nil : ((mkB []).toList == []) = true := by rw [Lib.toList_data, mkB_list]; rfl
theorem dec_rows (l : List Rw) : decide (l = l) = true := decide_eq_true rfl
theorem dec_nds (l : List Nd) : decide (l = l) = true := decide_eq_true rfl

/-! ### How many rows there are, and how long -/
structure SzR (k : Nat) (l : List Rw) : Prop where
  len : l.length ≤ k
  vers : ∀ r ∈ l, r.2.length ≤ k
  path : ∀ r ∈ l, r.1.length ≤ 1000000000
  text : ∀ r ∈ l, ∀ x ∈ r.2, x.length ≤ 1000000000
theorem SzR.few (l : List Rw) : SzR 12 (fewR l) := ⟨fewR_len l, fewR_vers, fun r hr => Nat.le_trans (fewR_path r hr) (by decide), fun r hr x hx => Nat.le_trans (fewR_text r hr x hx) (by decide)⟩
theorem SzR.nil : SzR 0 [] := ⟨Nat.le_refl _, fun r hr => (by cases hr), fun r hr => (by cases hr), fun r hr => (by cases hr)⟩
theorem SzR.mono {k k' : Nat} {l : List Rw} (h : SzR k l) (hk : k ≤ k') : SzR k' l := ⟨Nat.le_trans h.len hk, fun r hr => Nat.le_trans (h.vers r hr) hk, h.path, h.text⟩
theorem SzR.versK {k k' : Nat} {l : List Rw} (h : SzR k l) (hk : k ≤ k') : ∀ r ∈ l, r.2.length ≤ k' := fun r hr => Nat.le_trans (h.vers r hr) hk
theorem SzR.nds {k : Nat} {l : List Rw} (h : SzR k l) : ∀ n ∈ rwAll l, smallN n := fun n hn => by
  obtain ⟨r, hr, h1, h2⟩ := rwAll_mem.1 hn
  exact ⟨by rw [← h1]; exact h.path r hr, h.text r hr _ h2⟩
theorem SzR.many {k : Nat} {l : List Rw} (h : SzR k l) : (rwAll l).length ≤ k * k := Nat.le_trans (all_len h.vers) (Nat.mul_le_mul_right _ h.len)
theorem SzR.push {k : Nat} {l : List Rw} {n : Nd} (h : SzR k l) (hn : smallN n) : SzR (k + 1) (pushR l n) := by
  rcases snoc_cases l with rfl | ⟨m, r, rfl⟩
  · rw [push_nil]
    refine ⟨by simp, fun r hr => ?_, fun r hr => ?_, fun r hr x hx => ?_⟩ <;> (rw [List.mem_singleton] at hr; subst hr)
    · simp
    · exact hn.1
    · rw [List.mem_singleton] at hx; subst hx; exact hn.2
  · have hm : ∀ s ∈ m, s ∈ m ++ [r] := fun s hs => List.mem_append.2 (.inl hs)
    have hr0 : r ∈ m ++ [r] := List.mem_append.2 (.inr (List.mem_singleton.2 rfl))
    have hlen := h.len
    rw [List.length_append, List.length_singleton] at hlen
    obtain ⟨p, vs⟩ := r
    obtain ⟨q, v⟩ := n
    by_cases e : p = q
    · subst e
      rw [push_same]
      refine ⟨by rw [List.length_append, List.length_singleton]; omega, fun s hs => ?_, fun s hs => ?_, fun s hs x hx => ?_⟩ <;> rcases List.mem_append.1 hs with k | k
      · have := h.vers s (hm s k); omega
      · rw [List.mem_singleton] at k; subst k; have := h.vers (p, vs) hr0; simp only [List.length_append, List.length_singleton] at this ⊢; omega
      · exact h.path s (hm s k)
      · rw [List.mem_singleton] at k; subst k; exact h.path (p, vs) hr0
      · exact h.text s (hm s k) x hx
      · rw [List.mem_singleton] at k; subst k
        rcases List.mem_append.1 hx with k | k
        · exact h.text (p, vs) hr0 x k
        · rw [List.mem_singleton] at k; subst k; exact hn.2
    · rw [push_new m (p, vs) (q, v) e]
      refine ⟨by rw [List.length_append, List.length_append, List.length_singleton, List.length_singleton]; omega, fun s hs => ?_, fun s hs => ?_, fun s hs x hx => ?_⟩ <;> rcases List.mem_append.1 hs with k | k
      · have := h.vers s k; omega
      · rw [List.mem_singleton] at k; subst k; simp
      · exact h.path s k
      · rw [List.mem_singleton] at k; subst k; exact hn.1
      · exact h.text s k x hx
      · rw [List.mem_singleton] at k; subst k; rw [List.mem_singleton] at hx; subst hx; exact hn.2
theorem SzR.fold : ∀ (s : List Nd) {k : Nat} {l : List Rw}, SzR k l → (∀ n ∈ s, smallN n) → SzR (k + s.length) (s.foldl pushR l)
  | [], _, _, h, _ => h
  | n :: s, k, l, h, hs => by
    have := SzR.fold s (h.push (hs n (List.mem_cons_self ..))) fun x hx => hs x (List.mem_cons_of_mem _ hx)
    rw [List.length_cons, List.foldl_cons]
    exact this.mono (by omega)
theorem SzR.of {s : List Nd} {k : Nat} (hs : ∀ n ∈ s, smallN n) (hl : s.length ≤ k) : SzR k (rwOf s) := (SzR.fold s SzR.nil hs).mono (by omega)
theorem small_with {s : List Nd} {n : Nd} (hs : ∀ x ∈ s, smallN x) (hn : smallN n) : ∀ x ∈ withN s n, smallN x := fun x hx => by
  unfold withN at hx
  rcases List.mem_append.1 hx with k | k
  · exact hs x (List.mem_filter.1 k).1
  · rcases List.mem_cons.1 k with rfl | k
    · exact hn
    · exact hs x (List.mem_filter.1 k).1
theorem small_minus {s m : List Nd} (hs : ∀ x ∈ s, smallN x) : ∀ x ∈ minusN s m, smallN x := fun x hx => hs x ((minusN_mem x).1 hx).1
theorem small_set {s : List Nd} (hs : ∀ x ∈ s, smallN x) : ∀ x ∈ setN s, smallN x := by
  have key : ∀ (s a : List Nd), (∀ x ∈ s, smallN x) → (∀ x ∈ a, smallN x) → ∀ x ∈ s.foldl withN a, smallN x := by
    intro s
    induction s with
    | nil => exact fun a _ h => h
    | cons n s ih => exact fun a h k => ih _ (fun x hx => h x (List.mem_cons_of_mem _ hx)) (small_with k (h n (List.mem_cons_self ..)))
  exact key s [] hs fun x hx => by cases hx
/-! ### Plain facts -/
theorem with_ne {l : List Rw} {n : Nd} (h : okR l = true) (hn : okN n = true) (hm : hasN (rwAll l) n = false) : rwOf (withN (rwAll l) n) ≠ l := fun e => by
  have h1 := congrArg rwAll e
  rw [all_of] at h1
  have h2 : n ∈ withN (rwAll l) n := (withN_mem (all_okN h) hn n).2 (.inr rfl)
  rw [h1] at h2
  exact hasN_not.1 hm h2
end Go.Proofs.YtnngfcjfhhfafaaGreat
