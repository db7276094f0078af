/- THE TEXTS OF DifF DifG DifH DifI: Two nodes' order, of nodes that may be: and no draw is taken back. The library's sort at nodes, and what it leaves: a list's nodes in order; the keys of a map of counts, sorted. The edits of a map of counts. Two lists of nodes held against one another. -/
import Derived.Test.YtopcbmmnjmmoiaaGreatDifE
import Derived.Test.YtopcbmmnjmmoiaaGreatOctT
import Derived.Shelf.SlSortCmp.NoneTotal
namespace Go.Proofs.YtopcbmmnjmmoiaaGreat
open Go.RowKit
set_option linter.unusedVariables false
set_option maxRecDepth 100000

set_option maxHeartbeats 800000 in
theorem ncmp_bel (p v p' v' : List UInt8) (w : World) (hp : p.length ≤ 1000000000) (hv : v.length ≤ 1000000000) (hp' : p'.length ≤ 1000000000) (hv' : v'.length ≤ 1000000000) (o : okN (p, v) = true) (o' : okN (p', v') = true) :
    Calls Tryz.prog 54 #[.agg #[.string (mkB p), .string (mkB v)], .agg #[.string (mkB p'), .string (mkB v')]] w fun e w' => e = .returned (.tuple #[.int .i64 (ordN (p, v) (p', v')), .int .i64 0]) ∧ Bel w.heap.size w w' := by
  obtain ⟨W, g, g', hW, hg, hg', c0, c1, d0, d1, hb⟩ := box2 w (.string (mkB p)) (.string (mkB v)) (.string (mkB p')) (.string (mkB v')) 40
  have B := Lib.hid hb; have HW := Lib.hid hW; have HG := Lib.hid hg; have HG' := Lib.hid hg'; clear hb hW hg hg'
  obtain ⟨T, hT⟩ : ∃ T, ordN (p, v) (p', v') = T := ⟨_, rfl⟩
  rw [hT]
  have HX := Lib.hid o; have HY := Lib.hid o'; have HT := Lib.hid hT; clear o o' hT
  go_enter Tryz.func54, Tryz.ntmps54
  go_upto_region 1 with fail
  rw [HW.out, HG'.out, HG.out]
  go_wp2_with (first
    | (go_at_call 22; refine (nmay_bel _ _ _ (by first | exact hp | exact hp') (by first | exact hv | exact hv')).mono ?_; rintro e w1 ⟨rfl, hb1⟩; (first | rw [HX.out] | rw [HY.out]); replace B := Lib.hid (bel_step B.out hb1); replace d0 := bel_keep d0 hb1; replace d1 := bel_keep d1 hb1; replace c0 := bel_keep c0 hb1; replace c1 := bel_keep c1 hb1; clear hb1)
    | (go_at_call 43; refine (norder_bel _ _ _ _ _ hv hv' HX.out HY.out).mono ?_; rintro e w1 ⟨rfl, hb1⟩; rw [HT.out]; replace B := Lib.hid (bel_step B.out hb1); clear hb1))
  go_ret2
  exact ⟨rfl, B.out⟩
set_option maxHeartbeats 800000 in
theorem dorder_bel (p v p' v' : List UInt8) (w : World) (hp : p.length ≤ 1000000000) (hv : v.length ≤ 1000000000) (hp' : p'.length ≤ 1000000000) (hv' : v'.length ≤ 1000000000) (o : okN (p, v) = true) (o' : okN (p', v') = true) :
    Calls Tryz.prog 39 #[.agg #[.string (mkB p), .string (mkB v)], .agg #[.string (mkB p'), .string (mkB v')]] w fun e w' => e = .returned (.int .i64 (ordN (p, v) (p', v'))) ∧ Bel w.heap.size w w' := by
  obtain ⟨W, g, g', hW, hg, hg', c0, c1, d0, d1, hb⟩ := box2 w (.string (mkB p)) (.string (mkB v)) (.string (mkB p')) (.string (mkB v')) 40
  have B := Lib.hid hb; have HW := Lib.hid hW; have HG := Lib.hid hg; have HG' := Lib.hid hg'; clear hb hW hg hg'
  have K := Lib.hid fun w => ncmp_bel p v p' v' w hp hv hp' hv' o o'
  clear o o'
  obtain ⟨T, hT⟩ : ∃ T, ordN (p, v) (p', v') = T := ⟨_, rfl⟩
  rw [hT] at K ⊢
  clear hT
  go_enter Tryz.func39, Tryz.ntmps39
  go_upto_region 1 with fail
  rw [HW.out, HG'.out, HG.out]
  go_wp2_with (go_at_call 54; refine (K.out _).mono ?_; rintro e w1 ⟨rfl, hb1⟩; replace B := Lib.hid (bel_step B.out hb1); clear hb1)
  go_ret
  exact ⟨rfl, B.out⟩
theorem dorder_any (p v p' v' : List UInt8) (w : World) (hp : p.length ≤ 1000000000) (hv : v.length ≤ 1000000000) (hp' : p'.length ≤ 1000000000) (hv' : v'.length ≤ 1000000000) (o : okN (p, v) = true) (o' : okN (p', v') = true) :
    Calls Tryz.prog 39 #[.agg #[.string (mkB p), .string (mkB v)], .agg #[.string (mkB p'), .string (mkB v')]] w fun e w' => e = .returned (.int .i64 (ordN (p, v) (p', v'))) ∧ Below w.heap.size w w' :=
  (dorder_bel p v p' v' w hp hv hp' hv' o o').mono fun _ _ ⟨h, k⟩ => ⟨h, k.toBelow⟩
end Go.Proofs.YtopcbmmnjmmoiaaGreat

namespace Go.Proofs.YtopcbmmnjmmoiaaGreat
open Go.RowKit
set_option linter.unusedVariables false
set_option maxRecDepth 100000

abbrev NdS := {n : Nd // okN n = true ∧ smallN n}
def encS (x : NdS) : List Value := [.string (mkB x.1.1), .string (mkB x.1.2)]
def cmpS (x y : NdS) : Int := ordN x.1 y.1
theorem lt_cmpS (x y : NdS) : ltOf cmpS x y = ltN x.1 y.1 := rfl
theorem swo_cmpS : Sort.SWO (ltOf cmpS) where
  irrefl x := ltN_irrefl x.1
  trans x y z h k := ltN_trans h k
  ntrans x y z h k := by
    rw [lt_cmpS, ltN_no] at *
    have e1 := ordN_swap x.1 y.1
    have e2 := ordN_swap y.1 z.1
    have e3 := ordN_swap x.1 z.1
    have := (ordN_trans z.1 y.1 x.1 (by omega) (by omega)).1
    omega
theorem cmplaysS [Inhabited NdS] (blk off size : Nat) (w : World) : CmpLays Tryz.prog 39 #[] encS 2 cmpS blk off size w := fun _ _ _ _ x y =>
  (dorder_bel x.1.1 x.1.2 y.1.1 y.1.2 _ x.2.2.1 x.2.2.2 y.2.2.1 y.2.2.2 x.2.1 y.2.1).mono fun _ _ ⟨he, hb⟩ => ⟨he, hb.grows⟩

/-! ### A row of nodes -/
theorem flat_nds [Inhabited NdS] (d : Array NdS) : (Sort.flatK encS 2 d).toList = ndsC (d.toList.map (·.1)) := by
  apply List.ext_getElem?
  intro t
  by_cases ht : t < d.size * 2
  · obtain ⟨j, hj⟩ : ∃ j, t / 2 = j := ⟨_, rfl⟩
    have hjd : j < d.size := by omega
    have hjl : j < (d.toList.map (·.1)).length := by simpa using hjd
    obtain ⟨h0, h1⟩ := ndsC_at (d.toList.map (·.1)) j hjl
    have hd : (d.toList.map (·.1)).getD j ([], []) = (d[j]!).1 := by rw [nd_getD hjl, getElem!_pos d j hjd]; simp
    rw [hd] at h0 h1
    have e : (Sort.flatK encS 2 d).toList[t]? = some ((encS d[j]!)[t % 2]!) := by simp [Sort.flatK, ht, hj]
    rw [e]
    rcases Nat.mod_two_eq_zero_or_one t with hm | hm
    · have e2 : t = j * 2 := by omega
      rw [hm, e2, h0]; rfl
    · have e2 : t = j * 2 + 1 := by omega
      rw [hm, e2, h1]; rfl
  · rw [List.getElem?_eq_none (by simp; omega), List.getElem?_eq_none (by rw [ndsC_len]; simp; omega)]
theorem holds_row {w : World} {g : Nat} {cur F : Array Value} {e : TypeId} (hb : w.heap[g]? = some (.cells cur e (0, 0))) (ht : cur.toList.take F.size = F.toList) : Sort.Holds id w g 0 F := by
  intro j hj
  refine ⟨?_, by simp [World.frozen?, hb]⟩
  have h1 : (cur.toList.take F.size)[j]? = F.toList[j]? := by rw [ht]
  rw [List.getElem?_take_of_lt hj] at h1
  simp only [World.cell?, hb, Nat.zero_add]
  simp only [Option.isSome_none, Bool.false_eq_true, if_false]
  rw [← Array.getElem?_toList, h1]
  simp [hj]
theorem heap_row {w : World} {g n : Nat} {os : Array Obj} {cur : Array Value} {e : TypeId} {fr : Nat × Nat} (F : Array Value) (hb : w.heap[g]? = some (.cells cur e fr)) :
    (Sort.grow (Sort.putRow id (Sort.ahead w n) g 0 F) os).heap[g]? = some (.cells (Sort.putCells id 0 F cur) e fr) := by
  have hg : g < w.heap.size := (Array.getElem?_eq_some_iff.1 hb).1
  rw [Sort.heap_grow_old _ _ (by simpa using hg)]
  simp [Sort.putRow, Sort.mapBlock, Sort.ahead, Array.getElem?_modify, hb, Sort.onCells]
theorem grownBy_row {w : World} {g n : Nat} {os : Array Obj} (F : Array Value) : w.grownBy (Sort.grow (Sort.putRow id (Sort.ahead w n) g 0 F) os) (some g) := by
  refine ⟨rfl, rfl, rfl, by simp, fun k hk hne => ?_⟩
  rw [Sort.heap_grow_old _ _ (by simpa using hk)]
  have : g ≠ k := fun e => hne (by rw [e])
  simp [Sort.putRow, Sort.mapBlock, Sort.ahead, Array.getElem?_modify, this]
theorem take_row (cur F : Array Value) (h : F.size ≤ cur.size) : (Sort.putCells id 0 F cur).toList.take F.size = F.toList := by
  apply List.ext_getElem?
  intro j
  by_cases hj : j < F.size
  · rw [List.getElem?_take_of_lt hj, Array.getElem?_toList]
    simp [Sort.putCells, hj, show j < cur.size by omega]
  · rw [List.getElem?_take_eq_none (by omega), List.getElem?_eq_none (by simp; omega)]

theorem rises_sorted [Inhabited NdS] {d d' : Array NdS} (hp : Sort.PermIn 0 d.size d d') (hs : Sort.SortedIn (ltOf cmpS) 0 d.size d') (hn : (d.toList.map (·.1)).Nodup) :
    Rises (d'.toList.map (·.1)) ∧ (∀ n, n ∈ d'.toList.map (·.1) ↔ n ∈ d.toList.map (·.1)) ∧ d'.size = d.size := by
  obtain ⟨hsz, _, hperm⟩ := hp
  have e : d.extract 0 d.size = d := by simp
  have e' : d'.extract 0 d.size = d' := by rw [← hsz]; simp
  rw [e, e'] at hperm
  have hpm : (d'.toList.map (·.1)).Perm (d.toList.map (·.1)) := hperm.map _
  have hn' : (d'.toList.map (·.1)).Nodup := hpm.nodup_iff.2 hn
  refine ⟨?_, fun n => hpm.mem_iff, hsz⟩
  show List.Pairwise _ _
  rw [List.pairwise_iff_getElem]
  intro i j hi hj hij
  have h1 : i < d'.size := by simpa using hi
  have h2 : j < d'.size := by simpa using hj
  have h := hs i j (Nat.zero_le _) hij (by omega)
  rw [lt_cmpS, getElem!_pos d' j h2, getElem!_pos d' i h1] at h
  have g1 : (d'.toList.map (·.1))[i] = d'[i].1 := by simp
  have g2 : (d'.toList.map (·.1))[j] = d'[j].1 := by simp
  rw [g1, g2]
  rcases ltN_tri d'[i].2.1 d'[j].2.1 with k | k | k
  · exact k
  · have e : i = j := (List.getElem_inj hn').1 (by rw [g1, g2, k])
    omega
  · rw [k] at h; cases h

/-! ### The sort of a row of the call's own -/
theorem nsort_any (w : World) (base : Nat) (v : Value) (ss : List Nd) (hown : w.ownsRow base 40 2 v ss.length (ndsC ss)) (hok : ∀ n ∈ ss, okN n = true ∧ smallN n) (hn : ss.Nodup) (hlen : ss.length ≤ 1000000) :
    Calls Tryz.prog 52 #[v, .func (.func 39) #[] #[]] w fun e w' => e = .returned (.tuple #[]) ∧ ∃ ts, Rises ts ∧ (∀ n, n ∈ ts ↔ n ∈ ss) ∧ ts.length = ss.length ∧ w'.ownsRow base 40 2 v ts.length (ndsC ts) ∧ w.grownBy w' v.ownBlock := by
  rcases ss with _ | ⟨x, ss'⟩
  · have hnil : ∃ p c, v = .slice p 0 c := by
      rcases hown.2 with ⟨rfl, _⟩ | ⟨g, cap, cur, rfl, _⟩
      · exact ⟨_, _, rfl⟩
      · exact ⟨_, _, rfl⟩
    obtain ⟨p, c, rfl⟩ := hnil
    exact (AnyF.slices_SortFunc_none Tryz.sortN p c (.func (.func 39) #[] #[]) w).mono fun _ w' ⟨he, hw⟩ => by
      subst hw
      exact ⟨he, [], List.Pairwise.nil, fun _ => Iff.rfl, rfl, hown, ⟨rfl, rfl, rfl, Nat.le_refl _, fun _ _ _ => rfl⟩⟩
  · haveI : Inhabited NdS := ⟨⟨x, hok x (by simp)⟩⟩
    obtain ⟨ss, hss⟩ : ∃ ss, x :: ss' = ss := ⟨_, rfl⟩
    have hpos : 0 < ss.length := by rw [← hss]; simp
    rw [hss] at hown hok hn hlen ⊢
    clear hss
    obtain ⟨d, hd⟩ : ∃ d : Array NdS, d.toList.map (·.1) = ss := ⟨(ss.attach.map fun n => ⟨n.1, hok n.1 n.2⟩).toArray, by rw [List.toList_toArray, List.map_map]; exact List.attach_map_subtype_val ss⟩
    have hds : d.size = ss.length := by rw [← hd]; simp
    rcases hown.2 with ⟨rfl, h0⟩ | ⟨g, cap, cur, rfl, hbase, hb, h1, h2, h3, h4⟩
    · omega
    · have hF := flat_nds d
      rw [hd] at hF
      have hFs : (Sort.flatK encS 2 d).size = ss.length * 2 := by rw [Sort.size_flatK, hds]
      have hH : Sort.HoldsK encS 2 w g 0 d := holds_row hb (by rw [hFs, hF]; exact h4)
      have hg : g < w.heap.size := (Array.getElem?_eq_some_iff.1 hb).1
      have eg : ∀ args w, (callFunc 39 args).run Tryz.prog w = .ok (.enter 39 args) w := enters_of Tryz.func39 (by kernel_rfl) rfl
      have hcon := AnyQ.slices_SortFunc Tryz.sortN 2 Tryz.isAgg40 Tryz.sizeOf40 encS (fun _ => rfl) (fun x v hv => by simp [encS] at hv; rcases hv with rfl | rfl <;> rfl) cmpS swo_cmpS 39 #[] g 0 cap d w eg (cmplaysS g 0 d.size w) hH hg (by omega)
      rw [hds] at hcon
      refine hcon.mono ?_
      rintro e w' ⟨rfl, d', n, os, hp, hs, rfl⟩
      rw [← hds] at hp hs
      obtain ⟨hr, hm, hsz⟩ := rises_sorted hp hs (by rw [hd]; exact hn)
      have hF' := flat_nds d'
      have hFs' : (Sort.flatK encS 2 d').size = ss.length * 2 := by rw [Sort.size_flatK, hsz, hds]
      have hl : (d'.toList.map (·.1)).length = ss.length := by simp [hsz, hds]
      have h5 := Nat.mul_le_mul_right 2 h1
      refine ⟨rfl, d'.toList.map (·.1), hr, fun n => by rw [hm, hd], hl, ?_, ?_⟩
      · refine ⟨by rw [ndsC_len], .inr ⟨g, cap, _, by rw [hl], hbase, heap_row _ hb, by omega, h2, by simp [Sort.putCells, h3], ?_⟩⟩
        rw [hl, ← hFs', ← hF']
        exact take_row cur _ (by omega)
      · exact grownBy_row _

theorem nodup_len : ∀ {s K : List Nd}, s.Nodup → (∀ n ∈ s, n ∈ K) → s.length ≤ K.length
  | [], _, _, _ => Nat.zero_le _
  | x :: s, K, hn, h => by
    have hx := h x (by simp)
    have hi := nodup_len (s := s) (K := K.erase x) (List.nodup_cons.1 hn).2 (fun n hm => (List.mem_erase_of_ne (by intro e; subst e; exact (List.nodup_cons.1 hn).1 hm)).2 (h n (by simp [hm])))
    rw [List.length_erase_of_mem hx] at hi
    have hp := List.length_pos_of_mem hx
    simp only [List.length_cons]; omega
set_option maxHeartbeats 800000 in
theorem nsorted_any (Bm b nn : Nat) (K : List Nd) (f : Nd → Int) (w : World) (hBm : Bm < w.heap.size) (hm : w.cell? ⟨Bm, 0, none⟩ = some (.map (some b))) (hown : CMap w b nn K f) (hok : ∀ n ∈ K, okN n = true ∧ smallN n) (hnn : nn ≤ 1000000) (hKl : K.length ≤ 1000000) :
    Calls Tryz.prog 37 #[.func (.func 53) #[] #[.pointer (some ⟨Bm, 0, none⟩)], .func (.func 39) #[] #[]] w fun e w' => ∃ v ss, e = .returned v ∧ Rises ss ∧ (∀ n, n ∈ ss ↔ n ∈ K) ∧ w'.ownsRow w.heap.size 40 2 v ss.length (ndsC ss) ∧ Below w.heap.size w w' := by
  have hco := callsIn_wide.1 (collect_in Fence.wide 5 trivial trivial rfl (by decide) 53 #[.pointer (some ⟨Bm, 0, none⟩)] trivial (enters_of Tryz.func53 (by kernel_rfl) rfl) _ nn (by unfold maxLen; omega) (by omega) w (keys_stops Fence.wide (5 - 1 - 1) trivial rfl (by decide) Bm b nn K f w hBm hm hown))
  have HOK := Lib.hid hok
  clear hBm hm hown hok
  go_enter Tryz.func37, Tryz.ntmps37
  go_wp2_with (first
    | (go_at_call 51; refine hco.mono ?_; rintro e w1 ⟨v, ss, rfl, ⟨hnd, hmem⟩, hrow, -, hb1⟩; have HR := Lib.hid hrow; have B := Lib.hid hb1; clear hrow hb1 hco)
    | (go_at_call 52; refine (nsort_any _ _ _ ss HR.out (fun n hn => HOK.out n ((hmem n).1 hn)) hnd (Nat.le_trans (nodup_len hnd fun n hn => (hmem n).1 hn) hKl)).mono ?_; rintro e w2 ⟨rfl, ts, hrs, hmt, -, hrow2, hg⟩))
  go_ret
  exact ⟨v, ts, rfl, hrs, fun n => (hmt n).trans (hmem n), hrow2, B.out.grown hg B.out.size (fun k hk => (HR.out.lt k hk).1)⟩

end Go.Proofs.YtopcbmmnjmmoiaaGreat

namespace Go.Proofs.YtopcbmmnjmmoiaaGreat
open Go.RowKit Go.Maps
set_option linter.unusedVariables false
set_option maxRecDepth 100000

theorem fit_small1 {n : Nd} (h : smallN n) : fitsN n := ⟨Nat.le_trans h.1 (by decide), Nat.le_trans h.2 (by decide)⟩
section
variable {wr : World} {ops : Array Oper} {rest : List Oper} {o : Oper} {a : Act} {Q : Exit → Act → World → Prop}
/-- 'm[n]'. -/
theorem wpList_look_cmap (hgd : o.guard = none) (m x : Operand) (ho : o.op = .lookup 48 m x false) {b n : Nat} {K : List Nd} {f : Nd → Int} {p v : List UInt8} (hm : a.eval m = .map (some b)) (h : CMap wr b n K f) (hx : a.eval x = .agg #[.string (mkB p), .string (mkB v)]) (hf : fitsN (p, v))
    {z : Int} (hz : f (p, v) = z) (hK : wpList Tryz.prog ops Q rest (a.put o.dst (.int .i64 z)) wr) : wpList Tryz.prog ops Q (o :: rest) a wr := by
  subst hz
  refine wpList_plain hgd fun K' hK' => ?_
  have hr := look_cmap h hf
  unfold Oper.wp
  simp [execOp, ho, hm, hx, hr, Result.andThen]
  exact hK' _ _ hK
end
set_option maxHeartbeats 1600000 in
theorem edits_any (b nn : Nat) (K : List Nd) (f : Nd → Int) (w : World) (h : CMap w b nn K f) (hok : ∀ n ∈ K, okN n = true ∧ smallN n) (hnn : nn ≤ 1000000) (hK : K.length ≤ 1000000) :
    Calls Tryz.prog 23 #[.map (some b)] w fun e w' => ∃ v, e = .returned v ∧ w'.ownsRow w.heap.size 42 3 v (mkD (setN K) f).length (dfC (mkD (setN K) f)) ∧ Below w.heap.size w w' := by
  have hsl := setN_len K
  have hss : ∀ s, Rises s → (∀ n, n ∈ s ↔ n ∈ K) → s = setN K := fun s h1 h2 => setN_is (fun n hn => (hok n hn).1) h1 h2
  have hso : ∀ n ∈ setN K, smallN n := fun n hn => (hok n ((setN_mem (fun n hn => (hok n hn).1) n).1 hn)).2
  obtain ⟨S, hS⟩ : ∃ S, setN K = S := ⟨_, rfl⟩
  obtain ⟨R, hR⟩ : ∃ R, mkD S f = R := ⟨_, rfl⟩
  rw [hS] at hsl hss hso ⊢
  rw [hR]
  obtain ⟨n, hn⟩ : ∃ n, S.length = n := ⟨_, rfl⟩
  rw [hn] at hsl
  have HM := Lib.hid h; have HOK := Lib.hid hok; have HSS := Lib.hid hss; have HSO := Lib.hid hso; have HR := Lib.hid hR; have HN := Lib.hid hn
  clear h hok hss hso hR hn hS
  go_enter Tryz.func23, Tryz.ntmps23
  go_wp2_with (first
    | (go_at_call 38; refine (callsIn_wide.1 (keys_in Fence.wide 5 trivial rfl (some b) _)).mono ?_; rintro e w2 ⟨rfl, rfl⟩; have MP2 := Lib.hid (HM.out.alloc (.cells #[.map (some b)] 48)); have hck := cell_new (X := w) (cs := #[.map (some b)]) (t := 48) (i := 0) rfl rfl; have B := Lib.hid ((Below.refl w.heap.size w).alloc (Nat.le_refl _) (.cells #[.map (some b)] 48)))
    | (go_at_call 37; refine (nsorted_any _ _ _ K f _ (by simp) hck MP2.out HOK.out hnn hK).mono ?_; rintro e w3 ⟨v, ss, rfl, hrs, hmem, hrow, hb3⟩; obtain rfl := HSS.out ss hrs hmem; obtain ⟨a, c, rfl, hnd⟩ := ndsO hrow; have SN := Lib.hid hnd; have B3 := Lib.hid (below_step B.out hb3); clear hrs hmem hrow hnd hb3))
  rw [HN.out] at SN ⊢
  clear MP2 hck B HSS HOK
  go_loopw [3, 11] (fun v i wr => ∃ (k : Nat) (acc : List De), k ≤ n ∧ i = .int .i64 k ∧ acc.length ≤ k ∧ Hid (acc = mkD (ss.take k) f) ∧ wr.ownsRow w3.heap.size 42 3 v acc.length (dfC acc) ∧ Hid (Below w3.heap.size w3 wr)) (fun _ i _ => n - (intOf i).toNat)
  case atStart => exact ⟨0, [], Nat.zero_le _, rfl, Nat.le_refl _, Lib.hid rfl, World.ownsRow_nil _ _ _ _, Lib.hid (Below.refl _ _)⟩
  case round =>
    obtain ⟨k, acc, hk, rfl, hal, HACC, hown, HB3⟩ := hrel
    have HB := Lib.hid (below_step B3.out HB3.out)
    by_cases hlt : k < n
    · have hkl : k < ss.length := by rw [HN.out]; exact hlt
      obtain ⟨g, off, rfl, -, hc0, hc1⟩ := (SN.out.below HB3.out).at k hkl
      have htk := mkD_take hkl f
      have hsm := HSO.out _ (nd_mem hkl)
      obtain ⟨y, hy⟩ : ∃ y, y = ss.getD k ([], []) := ⟨_, rfl⟩
      rw [← hy] at hc0 hc1 htk hsm
      obtain ⟨y1, y2⟩ := y
      simp only at hc0 hc1
      obtain ⟨z, hz⟩ : ∃ z, f (y1, y2) = z := ⟨_, rfl⟩
      rw [hz] at htk
      have HTK := Lib.hid htk; have HZ := Lib.hid hz; have HF := Lib.hid (fit_small1 hsm); have HOWN := Lib.hid hown; have HMR := Lib.hid (HM.out.below HB.out)
      clear hy htk hz hsm hown
      have hkb : (k : Int) < (n : Int) := by omega
      by_cases h0 : z = 0
      · have hz1 : (z != 0) = false := by simp [h0]
        have HAC : Hid (acc = mkD (ss.take (k + 1)) f) := Lib.hid (by rw [HTK.out, HACC.out, if_pos h0, List.append_nil])
        clear h0
        go_upto_region 5 with fail
        obtain ⟨X, q, hX, hq, d0, d1, hxb⟩ := boxB1 wr (.string (mkB y1)) (.string (mkB y2)) 40
        rw [hX, hq]
        have BX := Lib.hid hxb; have HMX := Lib.hid (HMR.out.below hxb)
        clear hX hq hc0 hc1 hxb
        go_wp2_with (at_lookup; refine wpList_look_cmap rfl _ _ rfl rfl HMX.out rfl HF.out HZ.out ?_)
        go_roundw
        case rel => exact ⟨k + 1, acc, by omega, by go_num, by omega, HAC, ownsRow_belowB HOWN.out BX.out, Lib.hid (below_step HB3.out BX.out)⟩
        case measure => simp [intOf]; omega
      · have hz1 : (z != 0) = true := by simp [h0]
        have HAC : Hid (acc ++ [((y1, y2), z)] = mkD (ss.take (k + 1)) f) := Lib.hid (by rw [HTK.out, HACC.out, if_neg h0])
        clear h0
        go_upto_region 5 with fail
        obtain ⟨X, q, hX, hq, d0, d1, hxb⟩ := boxB1 wr (.string (mkB y1)) (.string (mkB y2)) 40
        rw [hX, hq]
        have BX := Lib.hid hxb; have HMX := Lib.hid (HMR.out.below hxb); have HO1 := Lib.hid (ownsRow_belowB HOWN.out hxb); have HB31 := Lib.hid (below_step HB3.out hxb)
        clear hX hq hc0 hc1 hxb
        go_wp2_with (first
          | (at_lookup; refine wpList_look_cmap rfl _ _ rfl rfl HMX.out rfl HF.out HZ.out ?_)
          | (at_builtin; refine wpList_append_new rfl _ _ 24 rfl w3.heap.size 42 zDV 3 40 Tryz.underlying24 Tryz.info_df rfl (by decide) _ _ _ rfl HO1.out [.string (mkB y1), .string (mkB y2), .int .i64 z] rfl rfl rfl (by omega) (by unfold maxLen; omega) HB31.out.size ?_))
        intro v' w' hown' hb'
        have e2 : dfC acc ++ [.string (mkB y1), .string (mkB y2), .int .i64 z] = dfC (acc ++ [((y1, y2), z)]) := (dfC_snoc acc ((y1, y2), z)).symm
        rw [e2] at hown'
        have ho2 : w'.ownsRow w3.heap.size 42 3 v' (acc ++ [((y1, y2), z)]).length (dfC (acc ++ [((y1, y2), z)])) := by simpa using hown'
        have HO2 := Lib.hid ho2; have HBN := Lib.hid (HB31.out.trans hb'.toBelow)
        clear ho2 hown' hb'
        go_wp2
        go_roundw
        case rel => exact ⟨k + 1, acc ++ [((y1, y2), z)], by omega, by go_num, by simp; omega, HAC, HO2.out, HBN⟩
        case measure => simp [intOf]; omega
    · have e : k = n := by omega
      subst e
      have hac := HACC.out
      rw [List.take_of_length_le (by rw [HN.out]; exact Nat.le_refl _), HR.out] at hac
      subst hac
      go_wp2
      go_ret
      exact ⟨_, rfl, row_base hown B3.out.size, HB.out⟩
end Go.Proofs.YtopcbmmnjmmoiaaGreat

namespace Go.Proofs.YtopcbmmnjmmoiaaGreat
open Go.RowKit Go.Maps
set_option linter.unusedVariables false
set_option maxRecDepth 100000

theorem grown_of_below {w w' : World} (hb : Below w.heap.size w w') : w.grownBy w' none := ⟨hb.os, hb.tape, hb.output, hb.size, fun k hk _ => hb.block k hk⟩
theorem cmap_neg {w : World} {g k : Nat} {old : List Nd} {y : Nd} {C : Int} (h : CMap w g (k + 1) (old.take k ++ [y]) (fun m => if m = y then C - 1 else -(cntN (old.take k) m : Int))) (htk : old.take (k + 1) = old.take k ++ [y])
    (hC : -(cntN (old.take k) y : Int) = C) (hct : ∀ n, cntN (old.take (k + 1)) n = cntN (old.take k) n + (if y = n then 1 else 0)) : CMap w g (k + 1) (old.take (k + 1)) fun x => -(cntN (old.take (k + 1)) x : Int) := by
  rw [← htk] at h
  refine h.congr fun m => ?_
  rw [hct m]
  by_cases e : m = y
  · rw [if_pos e, if_pos e.symm, ← hC, e]; omega
  · rw [if_neg e, if_neg (Ne.symm e)]; rfl
theorem cmap_pos {w : World} {g k n : Nat} {old now : List Nd} {y : Nd} {C : Int} (h : CMap w g n ((old ++ now.take k) ++ [y]) (fun m => if m = y then C + 1 else (cntN (now.take k) m : Int) - cntN old m)) (htk : now.take (k + 1) = now.take k ++ [y])
    (hC : (cntN (now.take k) y : Int) - cntN old y = C) (hct : ∀ n, cntN (now.take (k + 1)) n = cntN (now.take k) n + (if y = n then 1 else 0)) : CMap w g n (old ++ now.take (k + 1)) fun x => (cntN (now.take (k + 1)) x : Int) - cntN old x := by
  rw [List.append_assoc, ← htk] at h
  refine h.congr fun m => ?_
  rw [hct m]
  by_cases e : m = y
  · rw [if_pos e, if_pos e.symm, ← hC, e]; omega
  · rw [if_neg e, if_neg (Ne.symm e)]; rfl
theorem allN2_no {l m : List Nd} {n : Nd} (h : n ∈ l ++ m) (o : okN n = false) : (allN2 l && allN2 m) = false := by
  rw [← allN2_app]
  cases e : allN2 (l ++ m)
  · rfl
  · rw [allN2_iff.1 e n h] at o; cases o
theorem dfs_row0 (w : World) (base : Nat) : w.ownsRow base 42 3 (.slice none 0 0) ([] : List De).length (dfC []) := World.ownsRow_nil _ _ _ _

set_option maxHeartbeats 3200000 in
theorem diff_any (U V : Value) (old now : List Nd) (w : World) (hU : Nds w U old) (hV : Nds w V now) (so : ∀ n ∈ old, smallN n) (sn : ∀ n ∈ now, smallN n) (lo : old.length ≤ 100000) (ln : now.length ≤ 100000) :
    Calls Tryz.prog 8 #[U, V] w fun e w' => ∃ v, e = .returned (.tuple #[v, .int .i64 (diffE old now).2]) ∧ w'.ownsRow w.heap.size 42 3 v (diffE old now).1.length (dfC (diffE old now).1) ∧ Below w.heap.size w w' := by
  obtain ⟨a, c, rfl, h1, h2, -, -⟩ := hU.ex
  obtain ⟨a', c', rfl, h1', h2', -, -⟩ := hV.ex
  unfold maxLen at h2 h2'
  obtain ⟨n, hn⟩ : ∃ n, old.length = n := ⟨_, rfl⟩
  obtain ⟨m, hm⟩ : ∃ m, now.length = m := ⟨_, rfl⟩
  rw [hn] at h1 hU lo ⊢
  rw [hm] at h1' hV ln ⊢
  obtain ⟨R, hR⟩ : ∃ R, diffE old now = R := ⟨_, rfl⟩
  rw [hR]
  obtain ⟨R1, R2⟩ := R
  simp only
  have SU := Lib.hid hU; have SV := Lib.hid hV; have HN := Lib.hid hn; have HM := Lib.hid hm; have SO := Lib.hid so; have SN := Lib.hid sn; have HR := Lib.hid hR
  clear hU hV hn hm so sn hR
  have hmm := make_cmap
  go_enter Tryz.func8, Tryz.ntmps8
  go_wp2
  obtain ⟨W, hW⟩ : ∃ W, w.alloc (.map #[] 0) = W := ⟨_, rfl⟩
  have M0 := Lib.hid (CMap.made w)
  have B0 := Lib.hid ((Below.refl w.heap.size w).alloc (Nat.le_refl _) (.map #[] 0))
  rw [hW] at M0 B0 ⊢
  obtain ⟨g, hg⟩ : ∃ g, w.heap.size = g := ⟨_, rfl⟩
  have HG := Lib.hid hg
  rw [hg] at M0 B0 ⊢
  clear hW hg
  go_loopw [15] (fun i wr => ∃ k : Nat, k ≤ n ∧ i = .int .i64 k ∧ Hid (CMap wr g k (old.take k) fun x => -(cntN (old.take k) x : Int)) ∧ Hid (Below g w wr)) (fun i _ => n - (intOf i).toNat)
  case atStart => exact ⟨0, Nat.zero_le _, rfl, Lib.hid (by simpa [cntN] using M0.out), B0⟩
  case round =>
    obtain ⟨k, hk, rfl, HK, HB⟩ := hrel
    by_cases hlt : k < n
    · have hkl : k < old.length := by rw [HN.out]; exact hlt
      obtain ⟨b, off, rfl, -, hc0, hc1⟩ := (SU.out.below (by rw [HG.out]; exact HB.out)).at k hkl
      have htk : old.take (k + 1) = old.take k ++ [old.getD k ([], [])] := by rw [List.take_succ_eq_append_getElem hkl, nd_getD hkl]
      have hct := cntN_take hkl
      have hsm := SO.out _ (nd_mem hkl)
      have hbd := fun x => cntN_le (old.take k) x
      obtain ⟨y, hy⟩ : ∃ y, y = old.getD k ([], []) := ⟨_, rfl⟩
      rw [← hy] at hc0 hc1 htk hsm hct
      obtain ⟨y1, y2⟩ := y
      simp only at hc0 hc1
      go_upto_region 5 with fail
      obtain ⟨X, q, hX, hq, d0, d1, hxb⟩ := boxB1 wr (.string (mkB y1)) (.string (mkB y2)) 40
      rw [hX, hq]
      have HF := Lib.hid (fit_small1 hsm)
      have BX := Lib.hid hxb
      have hcm : CMap X.drew g k (old.take k) fun x => -(cntN (old.take k) x : Int) := (HK.out.below hxb).near rfl
      obtain ⟨st, w1, hE, hC1, hg1, hst⟩ := entry_cmap hcm HF.out (by unfold maxLen; omega)
      have hL0 := look_cmap hcm HF.out
      have hL1 := look_cmap hC1 HF.out
      have hbd1 := hbd (y1, y2)
      have hlt2 : (old.take k).length ≤ k := by rw [List.length_take]; omega
      obtain ⟨C, hC⟩ : ∃ C, -(cntN (old.take k) (y1, y2) : Int) = C := ⟨_, rfl⟩
      rw [hC] at hE hL0 hL1
      have hwr : IntKind.i64.wrap (C - 1) = C - 1 := IntWalk.i64_in _ (by omega)
      obtain ⟨w2, hS, hC2, hg2⟩ := hst (C - 1) (by unfold fitI; omega)
      have HC2 := Lib.hid hC2; have HG2 := Lib.hid hg2
      clear hst hC2 hg2 hC1 hg1 hcm hbd hc0 hc1 hbd1
      go_region
      go_wp2
      have hgs : g ≤ wr.heap.size := by rw [← HG.out]; exact HB.out.size
      have hbn : Below g w w2 := (HB.out.trans (BX.out.mono hgs)).drew.grown HG2.out (Nat.le_trans hgs BX.out.size) (fun j e => by cases e; exact Nat.le_refl _)
      have HBN := Lib.hid hbn; have HC3 := Lib.hid (cmap_neg HC2.out htk hC hct)
      clear hbn hgs
      go_roundw
      case rel => exact ⟨k + 1, by omega, by go_num, HC3, HBN⟩
      case measure => simp [intOf]; omega
    · have e : k = n := by omega
      subst e
      have hK := HK.out
      rw [List.take_of_length_le (by rw [HN.out]; exact Nat.le_refl _)] at hK
      have HK1 := Lib.hid hK; clear hK HK
      go_wp2
      go_loopw [28] (fun i wr => ∃ k2 : Nat, k2 ≤ m ∧ i = .int .i64 k2 ∧ Hid (CMap wr g (k + k2) (old ++ now.take k2) fun x => (cntN (now.take k2) x : Int) - cntN old x) ∧ Hid (Below g w wr)) (fun i _ => m - (intOf i).toNat)
      case atStart => exact ⟨0, Nat.zero_le _, rfl, Lib.hid (by rw [List.take_zero, List.append_nil, Nat.add_zero]; exact HK1.out.congr fun x => by have : cntN [] x = 0 := rfl; rw [this]; omega), HB⟩
      case round =>
        obtain ⟨k2, hk2, rfl, HK2, HB2⟩ := hrel
        by_cases hlt : k2 < m
        · have hkl : k2 < now.length := by rw [HM.out]; exact hlt
          obtain ⟨b, off, rfl, -, hc0, hc1⟩ := (SV.out.below (by rw [HG.out]; exact HB2.out)).at k2 hkl
          have htk : now.take (k2 + 1) = now.take k2 ++ [now.getD k2 ([], [])] := by rw [List.take_succ_eq_append_getElem hkl, nd_getD hkl]
          have hct := cntN_take hkl
          have hsm := SN.out _ (nd_mem hkl)
          have hbd := fun x => cntN_le (now.take k2) x
          obtain ⟨y, hy⟩ : ∃ y, y = now.getD k2 ([], []) := ⟨_, rfl⟩
          rw [← hy] at hc0 hc1 htk hsm hct
          obtain ⟨y1, y2⟩ := y
          simp only at hc0 hc1
          go_upto_region 10 with fail
          obtain ⟨X, q, hX, hq, d0, d1, hxb⟩ := boxB1 wr (.string (mkB y1)) (.string (mkB y2)) 40
          rw [hX, hq]
          have HF := Lib.hid (fit_small1 hsm)
          have BX := Lib.hid hxb
          have hcm : CMap X.drew g (k + k2) (old ++ now.take k2) fun x => (cntN (now.take k2) x : Int) - cntN old x := (HK2.out.below hxb).near rfl
          obtain ⟨st, w1, hE, hC1, hg1, hst⟩ := entry_cmap hcm HF.out (by unfold maxLen; omega)
          have hL0 := look_cmap hcm HF.out
          have hL1 := look_cmap hC1 HF.out
          have hbd1 := hbd (y1, y2)
          have hbd2 := cntN_le old (y1, y2)
          rw [HN.out] at hbd2
          have hlt2 : (now.take k2).length ≤ k2 := by rw [List.length_take]; omega
          obtain ⟨C, hC⟩ : ∃ C, (cntN (now.take k2) (y1, y2) : Int) - cntN old (y1, y2) = C := ⟨_, rfl⟩
          rw [hC] at hE hL0 hL1
          have hwr : IntKind.i64.wrap (C + 1) = C + 1 := IntWalk.i64_in _ (by omega)
          obtain ⟨w2, hS, hC2, hg2⟩ := hst (C + 1) (by unfold fitI; omega)
          have HC2 := Lib.hid hC2; have HG2 := Lib.hid hg2
          clear hst hC2 hg2 hC1 hg1 hcm hbd hc0 hc1 hbd1 hbd2
          go_region
          go_wp2
          have hgs : g ≤ wr.heap.size := by rw [← HG.out]; exact HB2.out.size
          have hbn : Below g w w2 := (HB2.out.trans (BX.out.mono hgs)).drew.grown HG2.out (Nat.le_trans hgs BX.out.size) (fun j e => by cases e; exact Nat.le_refl _)
          have HBN := Lib.hid hbn; have HC3 := Lib.hid (cmap_pos HC2.out htk hC hct)
          clear hbn hgs
          go_roundw
          case rel => exact ⟨k2 + 1, by omega, by go_num, HC3, HBN⟩
          case measure => simp [intOf]; omega
        · have e : k2 = m := by omega
          subst e
          have hK2 := HK2.out
          rw [List.take_of_length_le (by rw [HM.out]; exact Nat.le_refl _)] at hK2
          obtain ⟨hfk, h0k, D, hown, hD⟩ := hK2
          have HFK := Lib.hid hfk; have H0K := Lib.hid h0k; have HD := Lib.hid hD
          clear hfk h0k hD HK2
          have hgr : g ≤ wr.heap.size := by rw [← HG.out]; exact HB2.out.size
          obtain ⟨r, hr⟩ : ∃ r, wr.heap.size = r := ⟨_, rfl⟩
          go_wp2_with (first
            | (at_range; refine wpList_range_own _ rfl _ 48 rfl 40 3 node_keyed Tryz.underlying48 _ g _ _ rfl hown ?_; intro w0 hrg0 hg0 hs0)
            | go_in)
          go_frame
          rw [hr] at hrg0 hgr ⊢
          have HB3 := Lib.hid (HB2.out.grown hg0 (by rw [hr]; exact hgr) (fun j e => by cases e))
          have HGR := Lib.hid hgr
          clear hg0 hs0 hown hr hgr
          go_loopw [41] (fun _ wr2 => ∃ (left : Lit → Bool) (cnt : Nat) (ss : List Nd), wr2.ranges Tryz.prog 40 (plainElem Tryz.prog 3) g r (k + k2) D left cnt ∧ MetN D left ss ∧ Hid (∀ x ∈ ss, okN x = true) ∧ Hid (Below g w wr2)) (fun _ wr2 => wr2.rangeLeft g r)
          case atStart => exact ⟨_, _, [], hrg0, MetN.start D, Lib.hid (fun x hx => by cases hx), HB3⟩
          case round =>
            obtain ⟨left, cnt, ss, hrg, hC, HOK, HB4⟩ := hrel
            go_wp2_with (first
              | (at_next; refine wpList_next_ranges _ rfl _ rfl 40 node_keyed (plainElem Tryz.prog 3) mkKey mkInt inv_key inv_int g r (k + k2) _ _ _ rfl hrg ?_ ?_)
              | go_in)
            · intro hc0 hl0
              have hM := hC.all2 hl0 HFK.out (fun x hx => (HD.out x hx).1)
              have hall : ∀ x ∈ old ++ now, okN x = true := fun x hx => HOK.out x ((hM.2 x).2 hx)
              have hyes : (allN2 old && allN2 now) = true := by rw [← allN2_app]; exact allN2_iff.2 hall
              have he := diffE_yes hyes
              rw [HR.out] at he
              obtain ⟨rfl, rfl⟩ := Prod.mk.inj he
              have hsml : ∀ x ∈ old ++ now, okN x = true ∧ smallN x := fun x hx => ⟨hall x hx, by
                rcases List.mem_append.1 hx with q | q
                · exact SO.out x q
                · exact SN.out x q⟩
              have hcm : CMap wr g (k + k2) (old ++ now) (difF old now) := ⟨HFK.out, H0K.out, D, hrg.owns, HD.out⟩
              have hlen : (old ++ now).length ≤ 1000000 := by rw [List.length_append, HN.out, HM.out]; omega
              have HE := Lib.hid (edits_any g (k + k2) (old ++ now) (difF old now) wr hcm hsml (by omega) hlen)
              clear hM hall hyes he hsml hcm hlen
              go_wp2_with (go_at_call 23; refine HE.out.mono ?_; rintro e w4 ⟨v4, rfl, hrow, hb4⟩; have HRW := Lib.hid hrow; have HB5 := Lib.hid hb4; clear hrow hb4)
              go_ret2
              have hsz : w.heap.size ≤ wr.heap.size := HB4.out.size
              exact ⟨v4, rfl, row_base HRW.out hsz, by rw [HG.out]; exact HB4.out.trans (HB5.out.mono (by rw [← HG.out]; exact hsz))⟩
            · intro x1 x2 c0 kl yd yp w2 cnt2 hkey hlk hv hat hrg2 hlt3 hg2 hs2 hen
              obtain ⟨x', ex, rfl, hf1, hf2⟩ := key_inv hkey
              obtain rfl : (x1, x2) = x' := ndV_inj ex
              have hin : (x1, x2) ∈ old ++ now := by
                rw [← hasN_iff, ← (HD.out _ ⟨hf1, hf2⟩).1]; exact Maps.has_true_of_atKey hat
              have hsx : smallN (x1, x2) := by
                rcases List.mem_append.1 hin with q | q
                · exact SO.out _ q
                · exact SN.out _ q
              have hC2 := hC.step (n := (x1, x2)) ⟨hf1, hf2⟩ hlk hat
              have hb2 : Below g w w2 := HB4.out.grown hg2 (Nat.le_trans (by rw [← HG.out]; exact HB4.out.size) (Nat.le_refl _)) (fun j e => by cases e; exact HGR.out)
              have HB5 := Lib.hid hb2; have HIN := Lib.hid hin; have HSX := Lib.hid hsx; have HC2 := Lib.hid hC2; have HRG := Lib.hid hrg2
              obtain ⟨o, ho⟩ : ∃ o, okN (x1, x2) = o := ⟨_, rfl⟩
              have HO := Lib.hid ho
              simp only [mkKey, mkInt] at hen ⊢
              clear hC2 hb2 hin hsx hrg2 hs2 hkey hv hat hlk ex hg2 hf1 hf2 ho
              go_upto_region 15 with fail
              obtain ⟨X, q, hX, hq, d0, d1, hxb⟩ := boxB1 w2 (.string (mkB x1)) (.string (mkB x2)) 40
              have HRX := Lib.hid (HRG.out.alloc (.cells #[.string (mkB x1), .string (mkB x2)] 40))
              rw [hX] at HRX
              rw [hX, hq]
              have hgs : g ≤ w2.heap.size := by rw [← HG.out]; exact HB5.out.size
              have HBX := Lib.hid (HB5.out.trans (hxb.mono hgs))
              clear hX hq hxb hen hgs
              cases o
              · have he := diffE_no (allN2_no HIN.out HO.out)
                rw [HR.out] at he
                obtain ⟨rfl, rfl⟩ := Prod.mk.inj he
                go_wp2_with (go_at_call 22; refine (nmay_any _ _ _ HSX.out.1 HSX.out.2).mono ?_; rintro e w3 ⟨rfl, hb3⟩; rw [HO.out]; have HB3 := Lib.hid hb3; clear hb3)
                go_ret2
                exact ⟨_, rfl, dfs_row0 _ _, by rw [HG.out]; exact HBX.out.trans (HB3.out.mono (by rw [← HG.out]; exact HBX.out.size))⟩
              · go_wp2_with (go_at_call 22; refine (nmay_any _ _ _ HSX.out.1 HSX.out.2).mono ?_; rintro e w3 ⟨rfl, hb3⟩; rw [HO.out]; have HB3 := Lib.hid hb3; clear hb3)
                have hrg3 := HRX.out.kept (grown_of_below HB3.out) (by simp) (by simp)
                have HRG3 := Lib.hid hrg3
                have hms := hrg3.left_eq
                have hms0 := hrg.left_eq
                have HOK2 : Hid (∀ x ∈ ss ++ [(x1, x2)], okN x = true) := Lib.hid fun x hx => by
                  rcases List.mem_append.1 hx with q | q
                  · exact HOK.out x q
                  · rw [List.mem_singleton.1 q]; exact HO.out
                have HBN := Lib.hid (HBX.out.trans (HB3.out.mono (by rw [← HG.out]; exact HBX.out.size)))
                clear hrg3
                go_roundw
                case rel => exact ⟨_, cnt2, ss ++ [(x1, x2)], HRG3.out, HC2.out, HOK2, HBN⟩
                case measure => rw [hms, hms0]; exact hlt3
theorem diffE_nil (now : List Nd) : diffE [] now = if allN2 now = true then (difL [] now, 0) else ([], 1) := rfl
set_option maxHeartbeats 800000 in
theorem count_any (V : Value) (now : List Nd) (w : World) (hV : Nds w V now) (sn : ∀ n ∈ now, smallN n) (ln : now.length ≤ 100000) :
    Calls Tryz.prog 9 #[V] w fun e w' => ∃ v, e = .returned (.tuple #[v, .int .i64 (diffE [] now).2]) ∧ w'.ownsRow w.heap.size 42 3 v (diffE [] now).1.length (dfC (diffE [] now).1) ∧ Below w.heap.size w w' := by
  have K := Lib.hid (diff_any (.slice none 0 0) V [] now w (nds_none w) hV (fun n hn => by cases hn) sn (by simp) ln)
  obtain ⟨a, c, rfl, h1, h2, -, -⟩ := hV.ex
  clear h1 h2 hV
  obtain ⟨R, hR⟩ : ∃ R, diffE [] now = R := ⟨_, rfl⟩
  obtain ⟨n, hn⟩ : ∃ n, now.length = n := ⟨_, rfl⟩
  rw [hR, hn] at K
  rw [hR, hn]
  clear hR hn
  go_enter Tryz.func9, Tryz.ntmps9
  go_wp2_with (go_at_call 8; refine K.out.mono ?_; rintro e w1 ⟨v, rfl, hrow, hb⟩)
  go_ret2
  exact ⟨v, rfl, hrow, hb⟩
end Go.Proofs.YtopcbmmnjmmoiaaGreat
