/- THE TEXTS OF OctT NodJ NodK: A contract of the library's sort at this translation, by the shelf's own command, in plain words. The library's sort at nodes, and what it leaves: a list's nodes in order. The set of a list. -/
import Derived.Shelf.SlSortCmp.WholeK
import Derived.Ground.SlsfProg
import Derived.Shelf.SlGeneric
import Derived.Test.YtjnkjjlpkgbkiaaProg
import Derived.Test.YtjnkjjlpkgbkiaaNodI
import Derived.Shelf.SlSortCmp.NoneTotal
namespace Go.Proofs
open Go.Shelf
def Try.sortN_ren : Go.Shelf.Ren := ⟨fun | 6 => 38 | 15 => 49 | 14 => 48 | 28 => 66 | 29 => 67 | 20 => 58 | 21 => 59 | 22 => 60 | 23 => 61 | 24 => 62 | 25 => 63 | 26 => 64 | 27 => 65 | 46 => 78 | 47 => 79 | 48 => 80 | 49 => 81 | 50 => 82 | 57 => 94 | n => n, fun | 22 => 22 | 24 => 31 | 25 => 69 | 3 => 3 | 39 => 92 | 0 => 0 | 53 => 104 | 55 => 106 | 4 => 4 | 46 => 98 | 45 => 97 | 50 => 49 | 5 => 5 | 9 => 9 | 66 => 112 | 70 => 116 | 76 => 127 | 77 => 128 | n => n, fun | n => n⟩
theorem Try.sortN : Go.Proofs.SlLaysF0.n6 Try.prog Try.sortN_ren := {
  mixed := by kernel_rfl
  f6 := ⟨Try.f38.name, by decide, Try.func38.trans (congrArg some (by kernel_rfl))⟩
  f14 := ⟨Try.f48.name, by decide, Try.func48.trans (congrArg some (by kernel_rfl))⟩
  f15 := Try.func49.trans (congrArg some (by kernel_rfl))
  f20 := ⟨Try.f58.name, by decide, Try.func58.trans (congrArg some (by kernel_rfl))⟩
  f21 := ⟨Try.f59.name, by decide, Try.func59.trans (congrArg some (by kernel_rfl))⟩
  f22 := ⟨Try.f60.name, by decide, Try.func60.trans (congrArg some (by kernel_rfl))⟩
  f23 := ⟨Try.f61.name, by decide, Try.func61.trans (congrArg some (by kernel_rfl))⟩
  f24 := ⟨Try.f62.name, by decide, Try.func62.trans (congrArg some (by kernel_rfl))⟩
  f25 := ⟨Try.f63.name, by decide, Try.func63.trans (congrArg some (by kernel_rfl))⟩
  f26 := ⟨Try.f64.name, by decide, Try.func64.trans (congrArg some (by kernel_rfl))⟩
  f27 := ⟨Try.f65.name, by decide, Try.func65.trans (congrArg some (by kernel_rfl))⟩
  f28 := Try.func66.trans (congrArg some (by kernel_rfl))
  f29 := Try.func67.trans (congrArg some (by kernel_rfl))
  f46 := ⟨Try.f78.name, by decide, Try.func78.trans (congrArg some (by kernel_rfl))⟩
  f47 := Try.func79.trans (congrArg some (by kernel_rfl))
  f48 := Try.func80.trans (congrArg some (by kernel_rfl))
  f49 := ⟨Try.f81.name, by decide, Try.func81.trans (congrArg some (by kernel_rfl))⟩
  f50 := ⟨Try.f82.name, by decide, Try.func82.trans (congrArg some (by kernel_rfl))⟩
  f57 := ⟨Try.f94.name, by decide, Try.func94.trans (congrArg some (by kernel_rfl))⟩
  t0 := Try.underlying0
  a0 := Try.isAgg0
  z0 := Try.sizeOf0
  v0 := Try.zeroValue0
  t3 := Try.underlying3
  a3 := Try.isAgg3
  z3 := Try.sizeOf3
  v3 := Try.zeroValue3
  t4 := Try.underlying4
  a4 := Try.isAgg4
  z4 := Try.sizeOf4
  v4 := Try.zeroValue4
  t5 := Try.underlying5
  a5 := Try.isAgg5
  z5 := Try.sizeOf5
  v5 := Try.zeroValue5
  t9 := Try.underlying9
  a9 := Try.isAgg9
  z9 := Try.sizeOf9
  v9 := Try.zeroValue9
  t22 := Try.underlying22
  a22 := Try.isAgg22
  z22 := Try.sizeOf22
  v22 := Try.zeroValue22
  t25 := Try.underlying69
  a25 := Try.isAgg69
  z25 := Try.sizeOf69
  v25 := Try.zeroValue69
  t39 := Try.underlying92
  a39 := Try.isAgg92
  z39 := Try.sizeOf92
  v39 := Try.zeroValue92
  t45 := Try.underlying97
  a45 := Try.isAgg97
  z45 := Try.sizeOf97
  v45 := Try.zeroValue97
  t46 := Try.underlying98
  a46 := Try.isAgg98
  z46 := Try.sizeOf98
  v46 := Try.zeroValue98
  t50 := Try.underlying49
  a50 := Try.isAgg49
  z50 := Try.sizeOf49
  v50 := Try.zeroValue49
  t53 := Try.underlying104
  a53 := Try.isAgg104
  z53 := Try.sizeOf104
  v53 := Try.zeroValue104
  t55 := Try.underlying106
  a55 := Try.isAgg106
  z55 := Try.sizeOf106
  v55 := Try.zeroValue106
  t66 := Try.underlying112
  a66 := Try.isAgg112
  z66 := Try.sizeOf112
  v66 := Try.zeroValue112
  t70 := Try.underlying116
  a70 := Try.isAgg116
  z70 := Try.sizeOf116
  v70 := Try.zeroValue116
  t76 := Try.underlying127
  a76 := Try.isAgg127
  z76 := Try.sizeOf127
  v76 := Try.zeroValue127
  t77 := Try.underlying128
  a77 := Try.isAgg128
  z77 := Try.sizeOf128
  v77 := Try.zeroValue128 }
end Go.Proofs

namespace Go.Proofs.Ytjnkjjlpkgbkiaa
open Go.RowKit
set_option maxRecDepth 100000

abbrev NdS := {n : Nd // okN n = true ∧ smallN n}
def encS (x : NdS) : List Value := [.string (mkB x.1.1), .string (mkB x.1.2)]
def cmpS (x y : NdS) : Int := ordN x.1 y.1
theorem lt_cmpS (x y : NdS) : ltOf cmpS x y = ltN x.1 y.1 := rfl
theorem swo_cmpS : Sort.SWO (ltOf cmpS) where
  irrefl x := ltN_irrefl x.1
  trans x y z h k := ltN_trans h k
  ntrans x y z h k := by
    rw [lt_cmpS, ltN_no] at *
    have e1 := ordN_swap x.1 y.1
    have e2 := ordN_swap y.1 z.1
    have e3 := ordN_swap x.1 z.1
    have := (ordN_trans z.1 y.1 x.1 (by omega) (by omega)).1
    omega
theorem cmplaysS [Inhabited NdS] (blk off size : Nat) (w : World) : CmpLays Try.prog 34 #[] encS 2 cmpS blk off size w := fun _ _ _ _ x y =>
  (norder_bel x.1.1 x.1.2 y.1.1 y.1.2 _ x.2.2.2 y.2.2.2 x.2.1 y.2.1).mono fun _ _ ⟨he, hb⟩ => ⟨he, hb.grows⟩

/-! ### A row of nodes -/
theorem flat_nds [Inhabited NdS] (d : Array NdS) : (Sort.flatK encS 2 d).toList = ndsC (d.toList.map (·.1)) := by
  apply List.ext_getElem?
  intro t
  by_cases ht : t < d.size * 2
  · obtain ⟨j, hj⟩ : ∃ j, t / 2 = j := ⟨_, rfl⟩
    have hjd : j < d.size := by omega
    have hjl : j < (d.toList.map (·.1)).length := by simpa using hjd
    obtain ⟨h0, h1⟩ := ndsC_at (d.toList.map (·.1)) j hjl
    have hd : (d.toList.map (·.1)).getD j ([], []) = (d[j]!).1 := by rw [nd_getD hjl, getElem!_pos d j hjd]; simp
    rw [hd] at h0 h1
    have e : (Sort.flatK encS 2 d).toList[t]? = some ((encS d[j]!)[t % 2]!) := by simp [Sort.flatK, ht, hj]
    rw [e]
    rcases Nat.mod_two_eq_zero_or_one t with hm | hm
    · have e2 : t = j * 2 := by omega
      rw [hm, e2, h0]; rfl
    · have e2 : t = j * 2 + 1 := by omega
      rw [hm, e2, h1]; rfl
  · rw [List.getElem?_eq_none (by simp; omega), List.getElem?_eq_none (by rw [ndsC_len]; simp; omega)]
theorem holds_row {w : World} {g : Nat} {cur F : Array Value} {e : TypeId} (hb : w.heap[g]? = some (.cells cur e (0, 0))) (ht : cur.toList.take F.size = F.toList) : Sort.Holds id w g 0 F := by
  intro j hj
  refine ⟨?_, by simp [World.frozen?, hb]⟩
  have h1 : (cur.toList.take F.size)[j]? = F.toList[j]? := by rw [ht]
  rw [List.getElem?_take_of_lt hj] at h1
  simp only [World.cell?, hb, Nat.zero_add]
  simp only [Option.isSome_none, Bool.false_eq_true, if_false]
  rw [← Array.getElem?_toList, h1]
  simp [hj]
theorem heap_row {w : World} {g n : Nat} {os : Array Obj} {cur : Array Value} {e : TypeId} {fr : Nat × Nat} (F : Array Value) (hb : w.heap[g]? = some (.cells cur e fr)) :
    (Sort.grow (Sort.putRow id (Sort.ahead w n) g 0 F) os).heap[g]? = some (.cells (Sort.putCells id 0 F cur) e fr) := by
  have hg : g < w.heap.size := (Array.getElem?_eq_some_iff.1 hb).1
  rw [Sort.heap_grow_old _ _ (by simpa using hg)]
  simp [Sort.putRow, Sort.mapBlock, Sort.ahead, Array.getElem?_modify, hb, Sort.onCells]
theorem grownBy_row {w : World} {g n : Nat} {os : Array Obj} (F : Array Value) : w.grownBy (Sort.grow (Sort.putRow id (Sort.ahead w n) g 0 F) os) (some g) := by
  refine ⟨rfl, rfl, rfl, by simp, fun k hk hne => ?_⟩
  rw [Sort.heap_grow_old _ _ (by simpa using hk)]
  have : g ≠ k := fun e => hne (by rw [e])
  simp [Sort.putRow, Sort.mapBlock, Sort.ahead, Array.getElem?_modify, this]
theorem take_row (cur F : Array Value) (h : F.size ≤ cur.size) : (Sort.putCells id 0 F cur).toList.take F.size = F.toList := by
  apply List.ext_getElem?
  intro j
  by_cases hj : j < F.size
  · rw [List.getElem?_take_of_lt hj, Array.getElem?_toList]
    simp [Sort.putCells, hj, show j < cur.size by omega]
  · rw [List.getElem?_take_eq_none (by omega), List.getElem?_eq_none (by simp; omega)]

theorem rises_sorted [Inhabited NdS] {d d' : Array NdS} (hp : Sort.PermIn 0 d.size d d') (hs : Sort.SortedIn (ltOf cmpS) 0 d.size d') (hn : (d.toList.map (·.1)).Nodup) :
    Rises (d'.toList.map (·.1)) ∧ (∀ n, n ∈ d'.toList.map (·.1) ↔ n ∈ d.toList.map (·.1)) ∧ d'.size = d.size := by
  obtain ⟨hsz, _, hperm⟩ := hp
  have e : d.extract 0 d.size = d := by simp
  have e' : d'.extract 0 d.size = d' := by rw [← hsz]; simp
  rw [e, e'] at hperm
  have hpm : (d'.toList.map (·.1)).Perm (d.toList.map (·.1)) := hperm.map _
  have hn' : (d'.toList.map (·.1)).Nodup := hpm.nodup_iff.2 hn
  refine ⟨?_, fun n => hpm.mem_iff, hsz⟩
  show List.Pairwise _ _
  rw [List.pairwise_iff_getElem]
  intro i j hi hj hij
  have h1 : i < d'.size := by simpa using hi
  have h2 : j < d'.size := by simpa using hj
  have h := hs i j (Nat.zero_le _) hij (by omega)
  rw [lt_cmpS, getElem!_pos d' j h2, getElem!_pos d' i h1] at h
  have g1 : (d'.toList.map (·.1))[i] = d'[i].1 := by simp
  have g2 : (d'.toList.map (·.1))[j] = d'[j].1 := by simp
  rw [g1, g2]
  rcases ltN_tri d'[i].2.1 d'[j].2.1 with k | k | k
  · exact k
  · have e : i = j := (List.getElem_inj hn').1 (by rw [g1, g2, k])
    omega
  · rw [k] at h; cases h

/-! ### The sort of a row of the call's own -/
theorem nsort_any (w : World) (base : Nat) (v : Value) (ss : List Nd) (hown : w.ownsRow base 31 2 v ss.length (ndsC ss)) (hok : ∀ n ∈ ss, okN n = true ∧ smallN n) (hn : ss.Nodup) (hlen : ss.length ≤ 1000000) :
    Calls Try.prog 38 #[v, .func (.func 34) #[] #[]] w fun e w' => e = .returned (.tuple #[]) ∧ ∃ ts, Rises ts ∧ (∀ n, n ∈ ts ↔ n ∈ ss) ∧ ts.length = ss.length ∧ w'.ownsRow base 31 2 v ts.length (ndsC ts) ∧ w.grownBy w' v.ownBlock := by
  rcases ss with _ | ⟨x, ss'⟩
  · have hnil : ∃ p c, v = .slice p 0 c := by
      rcases hown.2 with ⟨rfl, _⟩ | ⟨g, cap, cur, rfl, _⟩
      · exact ⟨_, _, rfl⟩
      · exact ⟨_, _, rfl⟩
    obtain ⟨p, c, rfl⟩ := hnil
    exact (AnyF.slices_SortFunc_none Try.sortN p c (.func (.func 34) #[] #[]) w).mono fun _ w' ⟨he, hw⟩ => by
      subst hw
      exact ⟨he, [], List.Pairwise.nil, fun _ => Iff.rfl, rfl, hown, ⟨rfl, rfl, rfl, Nat.le_refl _, fun _ _ _ => rfl⟩⟩
  · haveI : Inhabited NdS := ⟨⟨x, hok x (by simp)⟩⟩
    obtain ⟨ss, hss⟩ : ∃ ss, x :: ss' = ss := ⟨_, rfl⟩
    have hpos : 0 < ss.length := by rw [← hss]; simp
    rw [hss] at hown hok hn hlen ⊢
    clear hss
    obtain ⟨d, hd⟩ : ∃ d : Array NdS, d.toList.map (·.1) = ss := ⟨(ss.attach.map fun n => ⟨n.1, hok n.1 n.2⟩).toArray, by rw [List.toList_toArray, List.map_map]; exact List.attach_map_subtype_val ss⟩
    have hds : d.size = ss.length := by rw [← hd]; simp
    rcases hown.2 with ⟨rfl, h0⟩ | ⟨g, cap, cur, rfl, hbase, hb, h1, h2, h3, h4⟩
    · omega
    · have hF := flat_nds d
      rw [hd] at hF
      have hFs : (Sort.flatK encS 2 d).size = ss.length * 2 := by rw [Sort.size_flatK, hds]
      have hH : Sort.HoldsK encS 2 w g 0 d := holds_row hb (by rw [hFs, hF]; exact h4)
      have hg : g < w.heap.size := (Array.getElem?_eq_some_iff.1 hb).1
      have eg : ∀ args w, (callFunc 34 args).run Try.prog w = .ok (.enter 34 args) w := enters_of Try.func34 (by kernel_rfl) rfl
      have hcon := AnyQ.slices_SortFunc Try.sortN 2 Try.isAgg31 Try.sizeOf31 encS (fun _ => rfl) (fun x v hv => by simp [encS] at hv; rcases hv with rfl | rfl <;> rfl) cmpS swo_cmpS 34 #[] g 0 cap d w eg (cmplaysS g 0 d.size w) hH hg (by omega)
      rw [hds] at hcon
      refine hcon.mono ?_
      rintro e w' ⟨rfl, d', n, os, hp, hs, rfl⟩
      rw [← hds] at hp hs
      obtain ⟨hr, hm, hsz⟩ := rises_sorted hp hs (by rw [hd]; exact hn)
      have hF' := flat_nds d'
      have hFs' : (Sort.flatK encS 2 d').size = ss.length * 2 := by rw [Sort.size_flatK, hsz, hds]
      have hl : (d'.toList.map (·.1)).length = ss.length := by simp [hsz, hds]
      have h5 := Nat.mul_le_mul_right 2 h1
      refine ⟨rfl, d'.toList.map (·.1), hr, fun n => by rw [hm, hd], hl, ?_, ?_⟩
      · refine ⟨by rw [ndsC_len], .inr ⟨g, cap, _, by rw [hl], hbase, heap_row _ hb, by omega, h2, by simp [Sort.putCells, h3], ?_⟩⟩
        rw [hl, ← hFs', ← hF']
        exact take_row cur _ (by omega)
      · exact grownBy_row _
end Go.Proofs.Ytjnkjjlpkgbkiaa

namespace Go.Proofs.Ytjnkjjlpkgbkiaa
open Go.RowKit
set_option maxRecDepth 100000

theorem nodup_len : ∀ {s K : List Nd}, s.Nodup → (∀ n ∈ s, n ∈ K) → s.length ≤ K.length
  | [], _, _, _ => Nat.zero_le _
  | x :: s, K, hn, h => by
    have hx := h x (by simp)
    have hi := nodup_len (s := s) (K := K.erase x) (List.nodup_cons.1 hn).2 (fun n hm => (List.mem_erase_of_ne (by intro e; subst e; exact (List.nodup_cons.1 hn).1 hm)).2 (h n (by simp [hm])))
    rw [List.length_erase_of_mem hx] at hi
    have hp := List.length_pos_of_mem hx
    simp only [List.length_cons]; omega
set_option maxHeartbeats 800000 in
theorem nsorted_any (Bm b nn : Nat) (K : List Nd) (w : World) (hBm : Bm < w.heap.size) (hm : w.cell? ⟨Bm, 0, none⟩ = some (.map (some b))) (hown : NMap w b nn K) (hok : ∀ n ∈ K, okN n = true ∧ smallN n) (hnn : nn ≤ 1000000) (hKl : K.length ≤ 1000000) :
    Calls Try.prog 32 #[.func (.func 39) #[] #[.pointer (some ⟨Bm, 0, none⟩)], .func (.func 34) #[] #[]] w fun e w' => ∃ v ss, e = .returned v ∧ Rises ss ∧ (∀ n, n ∈ ss ↔ n ∈ K) ∧ w'.ownsRow w.heap.size 31 2 v ss.length (ndsC ss) ∧ Below w.heap.size w w' := by
  have hco := callsIn_wide.1 (collect_in Fence.wide 5 trivial trivial rfl (by decide) 39 #[.pointer (some ⟨Bm, 0, none⟩)] trivial (enters_of Try.func39 (by kernel_rfl) rfl) _ nn (by unfold maxLen; omega) (by omega) w (keys_stops Fence.wide (5 - 1 - 1) trivial rfl (by decide) Bm b nn K w hBm hm hown))
  have HOK := Lib.hid hok
  clear hBm hm hown hok
  go_enter Try.func32, Try.ntmps32
  go_wp2_with (first
    | (go_at_call 37; refine hco.mono ?_; rintro e w1 ⟨v, ss, rfl, ⟨hnd, hmem⟩, hrow, -, hb1⟩; have HR := Lib.hid hrow; have B := Lib.hid hb1; clear hrow hb1 hco)
    | (go_at_call 38; refine (nsort_any _ _ _ ss HR.out (fun n hn => HOK.out n ((hmem n).1 hn)) hnd (Nat.le_trans (nodup_len hnd fun n hn => (hmem n).1 hn) hKl)).mono ?_; rintro e w2 ⟨rfl, ts, hrs, hmt, -, hrow2, hg⟩))
  go_ret
  exact ⟨v, ts, rfl, hrs, fun n => (hmt n).trans (hmem n), hrow2, B.out.grown hg B.out.size (fun k hk => (HR.out.lt k hk).1)⟩

/-! ### The set -/
def allN (l : List Nd) : Bool := l.all okN
def setNE (l : List Nd) : List Nd × Int := if allN l = true then (setN l, 0) else ([], 1)
theorem setNE_yes {l : List Nd} (h : allN l = true) : setNE l = (setN l, 0) := by unfold setNE; rw [if_pos h]
theorem setNE_no {l : List Nd} (h : allN l = false) : setNE l = ([], 1) := by unfold setNE; rw [if_neg (by simp [h])]
theorem allN_ok {l : List Nd} (h : allN l = true) : ∀ n ∈ l, okN n = true := List.all_eq_true.1 h
theorem allN_take {l : List Nd} {k : Nat} (h : k < l.length) (o : okN (l.getD k ([], [])) = true) (ht : allN (l.take k) = true) : allN (l.take (k + 1)) = true := by
  unfold allN at *
  rw [List.take_succ_eq_append_getElem h, List.all_append, ht]
  rw [nd_getD h] at o
  simp [o]
theorem allN_no {l : List Nd} {k : Nat} (h : k < l.length) (o : okN (l.getD k ([], [])) = false) : allN l = false := by
  unfold allN
  rw [List.all_eq_false]
  exact ⟨_, nd_mem h, by rw [o]; simp⟩

set_option maxHeartbeats 1600000 in
theorem nset_any (V : Value) (l : List Nd) (w : World) (hV : Nds w V l) (sl : ∀ n ∈ l, smallN n) (hl : l.length ≤ 1000000) :
    Calls Try.prog 25 #[V] w fun e w' => ∃ a c, e = .returned (.tuple #[.slice a (setNE l).1.length c, .int .i64 (setNE l).2]) ∧ Nds w' (.slice a (setNE l).1.length c) (setNE l).1 ∧ Below w.heap.size w w' := by
  obtain ⟨a, c, rfl, h1, h2, -, -⟩ := hV.ex
  unfold maxLen at h2
  obtain ⟨n, hn⟩ : ∃ n, l.length = n := ⟨_, rfl⟩
  rw [hn] at h1 hV hl ⊢
  have SV := Lib.hid hV; have HN := Lib.hid hn; have SL := Lib.hid sl
  obtain ⟨R, hR⟩ : ∃ R, setNE l = R := ⟨_, rfl⟩
  rw [hR]
  obtain ⟨R1, R2⟩ := R
  simp only
  have HR := Lib.hid hR
  clear hV hn sl hR
  go_enter Try.func25, Try.ntmps25
  go_wp2
  go_loopw [8] (fun i wr => ∃ k : Nat, k ≤ n ∧ i = .int .i64 k ∧ Hid (allN (l.take k) = true) ∧ Hid (Below w.heap.size w wr)) (fun i _ => n - (intOf i).toNat)
  case atStart => exact ⟨0, Nat.zero_le _, rfl, Lib.hid (by simp [allN]), Lib.hid (Below.refl _ _)⟩
  case round =>
    obtain ⟨k, hk, rfl, HA, HB⟩ := hrel
    by_cases hlt : k < n
    · have hkl : k < l.length := by rw [HN.out]; exact hlt
      obtain ⟨b, off, rfl, -, hc0, hc1⟩ := (SV.out.below HB.out).at k hkl
      obtain ⟨y, hy⟩ : ∃ y, y = l.getD k ([], []) := ⟨_, rfl⟩
      have hsy : smallN y := by rw [hy]; exact SL.out _ (nd_mem hkl)
      obtain ⟨o, ho⟩ : ∃ o, okN y = o := ⟨_, rfl⟩
      rw [← hy] at hc0 hc1
      have HY := Lib.hid hy; have HS := Lib.hid hsy; have HO := Lib.hid ho
      clear hy hsy ho
      obtain ⟨y1, y2⟩ := y
      simp only at hc0 hc1
      cases o
      · have he := setNE_no (allN_no hkl (by rw [← HY.out]; exact HO.out))
        rw [HR.out] at he
        obtain ⟨rfl, rfl⟩ := Prod.mk.inj he
        go_upto_region 4 with fail
        obtain ⟨X, q, hX, hq, d0, d1, hxb⟩ := boxB1 wr (.string (mkB y1)) (.string (mkB y2)) 31
        rw [hX, hq]
        have B := Lib.hid (below_step HB.out hxb)
        clear hX hq hc0 hc1 hxb
        go_wp2_with (go_at_call 22; refine (nmay_any _ _ _ HS.out.1 HS.out.2).mono ?_; rintro e w1 ⟨rfl, hb1⟩; rw [HO.out]; replace B := Lib.hid (below_step B.out hb1); clear hb1)
        go_ret2
        exact ⟨none, 0, rfl, nds_none _, B.out⟩
      · have hat := allN_take hkl (by rw [← HY.out]; exact HO.out) HA.out
        have HAT := Lib.hid hat; clear hat
        go_upto_region 4 with fail
        obtain ⟨X, q, hX, hq, d0, d1, hxb⟩ := boxB1 wr (.string (mkB y1)) (.string (mkB y2)) 31
        rw [hX, hq]
        have B := Lib.hid (below_step HB.out hxb)
        clear hX hq hc0 hc1 hxb
        go_wp2_with (go_at_call 22; refine (nmay_any _ _ _ HS.out.1 HS.out.2).mono ?_; rintro e w1 ⟨rfl, hb1⟩; rw [HO.out]; replace B := Lib.hid (below_step B.out hb1); clear hb1)
        go_roundw
        case rel => exact ⟨k + 1, by omega, by go_num, HAT, B⟩
        case measure => simp [intOf]; omega
    · have e : k = n := by omega
      subst e
      have hal := HA.out
      rw [List.take_of_length_le (by rw [HN.out]; exact Nat.le_refl _)] at hal
      have he := setNE_yes hal
      rw [HR.out] at he
      obtain ⟨rfl, rfl⟩ := Prod.mk.inj he
      have HOK := Lib.hid (allN_ok hal)
      clear hal HA HR he
      go_wp2_with (first
        | (go_at_call 28; refine (gather_any _ l _ (SV.out.below HB.out) (fun n hn => fits_small (SL.out n hn))).mono ?_; rintro e w1 ⟨g, rfl, hM, -, hb1⟩; have MP := Lib.hid hM; have B := Lib.hid (below_step HB.out hb1); clear hb1 hM)
        | (go_at_call 33; refine (callsIn_wide.1 (keys_in Fence.wide 5 trivial rfl (some g) _)).mono ?_; rintro e w2 ⟨rfl, rfl⟩; have MP2 := Lib.hid (MP.out.alloc (.cells #[.map (some g)] 59)); have hck := cell_new (X := w1) (cs := #[.map (some g)]) (t := 59) (i := 0) rfl rfl)
        | (go_at_call 32; refine (nsorted_any _ _ _ l _ (by simp) hck MP2.out (fun n hn => ⟨HOK.out n hn, SL.out n hn⟩) (by rw [HN.out]; exact hl) (by rw [HN.out]; exact hl)).mono ?_; rintro e w3 ⟨v, ss, rfl, hrs, hmem, hrow, hb3⟩))
      go_ret2
      have hss := setN_is HOK.out hrs hmem
      subst hss
      obtain ⟨a2, c2, rfl, hnd⟩ := ndsO hrow
      exact ⟨a2, c2, rfl, hnd, below_step (B.out.alloc B.out.size _) hb3⟩
end Go.Proofs.Ytjnkjjlpkgbkiaa
