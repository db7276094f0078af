/- THE TEXTS OF NodF NodI OctT NodJ NodK WhyX WhyV: Whether a list of nodes is a set: of the program. A set without another one's nodes, and without a node, of the program; whether a node is in a set. A contract of the library's sort at this translation, by the shelf's own command, in plain words. The library's sort at nodes, and what it leaves: a list's nodes in order. The set of a list. The keys of a map from nodes to numbers, one by one, whatever their order. How far all nodes are: of the program. -/
import Derived.Test.YtdefphacdcbljaaGreatNodG
import Derived.Deep.Draws
import Derived.Deep.QuietTactic
import Derived.BigQuiet
import Derived.Deep.RegionWith
import Derived.Deep.CutRange
import Derived.Deep.DeepCutAuto
import Derived.Deep.RegionHeld3
import Derived.Deep.DrawnRows
import Derived.Test.YtdefphacdcbljaaGreatNodH
import Derived.Shelf.SlSortCmp.WholeK
import Derived.Ground.SlsfProg
import Derived.Shelf.SlGeneric
import Derived.Test.YtdefphacdcbljaaGreatProg
import Derived.Shelf.SlSortCmp.NoneTotal
import Derived.Test.YtdefphacdcbljaaGreatWhyU
import Derived.Maps.RangeWalk
import Derived.Test.YtdefphacdcbljaaGreatWhyA
namespace Go.Proofs.YtdefphacdcbljaaGreat
open Go.RowKit
set_option maxRecDepth 100000
attribute [local go_sem ↓] Go.wp_at_zero Go.wp_at_succ

end Go.Proofs.YtdefphacdcbljaaGreat

namespace Go.Proofs.YtdefphacdcbljaaGreat
open Go.RowKit Go.Maps
set_option maxRecDepth 100000

def chkE (ns : List Nd) : Int := if checkN ns = true then 0 else 1
theorem chkE_yes {ns : List Nd} (h : checkN ns = true) : chkE ns = 0 := by unfold chkE; rw [if_pos h]
theorem chkE_no {ns : List Nd} (h : checkN ns = false) : chkE ns = 1 := by unfold chkE; rw [if_neg (by simp [h])]
def minusNE (l m : List Nd) : List Nd × Int := if (checkN l && checkN m) = true then (minusN l m, 0) else ([], 1)
theorem minusNE_yes {l m : List Nd} (h : checkN l = true) (k : checkN m = true) : minusNE l m = (minusN l m, 0) := by unfold minusNE; rw [h, k]; rfl
theorem minusNE_no {l m : List Nd} (h : (checkN l && checkN m) = false) : minusNE l m = ([], 1) := by unfold minusNE; rw [h]; rfl
theorem fits_small {n : Nd} (h : smallN n) : fitsN n := by
  obtain ⟨h1, h2⟩ := h; unfold fitsN maxLen; omega

theorem nds_one (w : World) (p v : List UInt8) : Nds (w.alloc (.cells #[.string (mkB p), .string (mkB v)] 24)) (.slice (some ⟨w.heap.size, 0, none⟩) 1 1) [(p, v)] :=
  ⟨some ⟨w.heap.size, 0, none⟩, 1, rfl, Nat.le_refl _, by unfold maxLen; omega, (fun h => by cases h), fun _ => ⟨w.heap.size, 0, rfl, by simp, fun j hj => by
    obtain rfl : j = 0 := by simpa using hj
    exact ⟨cell_new rfl rfl, cell_new rfl rfl⟩⟩⟩
def hasNE (l : List Nd) (n : Nd) : Bool × Int := if (checkN l && okN n) = true then (hasN l n, 0) else (false, 1)
theorem hasNE_yes {l : List Nd} {n : Nd} (h : checkN l = true) (k : okN n = true) : hasNE l n = (hasN l n, 0) := by unfold hasNE; rw [h, k]; rfl
theorem hasNE_no {l : List Nd} {n : Nd} (h : (checkN l && okN n) = false) : hasNE l n = (false, 1) := by unfold hasNE; rw [h]; rfl
end Go.Proofs.YtdefphacdcbljaaGreat

namespace Go.Proofs
open Go.Shelf
def Tryz.sortN_ren : Go.Shelf.Ren := ⟨fun | 6 => 60 | 15 => 72 | 14 => 71 | 28 => 89 | 29 => 90 | 20 => 81 | 21 => 82 | 22 => 83 | 23 => 84 | 24 => 85 | 25 => 86 | 26 => 87 | 27 => 88 | 46 => 102 | 47 => 103 | 48 => 104 | 49 => 105 | 50 => 106 | 57 => 115 | n => n, fun | 22 => 31 | 24 => 24 | 25 => 77 | 3 => 3 | 39 => 101 | 0 => 0 | 53 => 117 | 55 => 119 | 4 => 4 | 46 => 111 | 45 => 110 | 50 => 59 | 5 => 5 | 9 => 9 | 66 => 124 | 70 => 128 | 76 => 134 | 77 => 135 | n => n, fun | n => n⟩
theorem Tryz.sortN : Go.Proofs.SlLaysF0.n6 Tryz.prog Tryz.sortN_ren := {
  mixed := by kernel_rfl
  f6 := ⟨Tryz.f60.name, by decide, Tryz.func60.trans (congrArg some (by kernel_rfl))⟩
  f14 := ⟨Tryz.f71.name, by decide, Tryz.func71.trans (congrArg some (by kernel_rfl))⟩
  f15 := Tryz.func72.trans (congrArg some (by kernel_rfl))
  f20 := ⟨Tryz.f81.name, by decide, Tryz.func81.trans (congrArg some (by kernel_rfl))⟩
  f21 := ⟨Tryz.f82.name, by decide, Tryz.func82.trans (congrArg some (by kernel_rfl))⟩
  f22 := ⟨Tryz.f83.name, by decide, Tryz.func83.trans (congrArg some (by kernel_rfl))⟩
  f23 := ⟨Tryz.f84.name, by decide, Tryz.func84.trans (congrArg some (by kernel_rfl))⟩
  f24 := ⟨Tryz.f85.name, by decide, Tryz.func85.trans (congrArg some (by kernel_rfl))⟩
  f25 := ⟨Tryz.f86.name, by decide, Tryz.func86.trans (congrArg some (by kernel_rfl))⟩
  f26 := ⟨Tryz.f87.name, by decide, Tryz.func87.trans (congrArg some (by kernel_rfl))⟩
  f27 := ⟨Tryz.f88.name, by decide, Tryz.func88.trans (congrArg some (by kernel_rfl))⟩
  f28 := Tryz.func89.trans (congrArg some (by kernel_rfl))
  f29 := Tryz.func90.trans (congrArg some (by kernel_rfl))
  f46 := ⟨Tryz.f102.name, by decide, Tryz.func102.trans (congrArg some (by kernel_rfl))⟩
  f47 := Tryz.func103.trans (congrArg some (by kernel_rfl))
  f48 := Tryz.func104.trans (congrArg some (by kernel_rfl))
  f49 := ⟨Tryz.f105.name, by decide, Tryz.func105.trans (congrArg some (by kernel_rfl))⟩
  f50 := ⟨Tryz.f106.name, by decide, Tryz.func106.trans (congrArg some (by kernel_rfl))⟩
  f57 := ⟨Tryz.f115.name, by decide, Tryz.func115.trans (congrArg some (by kernel_rfl))⟩
  t0 := Tryz.underlying0
  a0 := Tryz.isAgg0
  z0 := Tryz.sizeOf0
  v0 := Tryz.zeroValue0
  t3 := Tryz.underlying3
  a3 := Tryz.isAgg3
  z3 := Tryz.sizeOf3
  v3 := Tryz.zeroValue3
  t4 := Tryz.underlying4
  a4 := Tryz.isAgg4
  z4 := Tryz.sizeOf4
  v4 := Tryz.zeroValue4
  t5 := Tryz.underlying5
  a5 := Tryz.isAgg5
  z5 := Tryz.sizeOf5
  v5 := Tryz.zeroValue5
  t9 := Tryz.underlying9
  a9 := Tryz.isAgg9
  z9 := Tryz.sizeOf9
  v9 := Tryz.zeroValue9
  t22 := Tryz.underlying31
  a22 := Tryz.isAgg31
  z22 := Tryz.sizeOf31
  v22 := Tryz.zeroValue31
  t25 := Tryz.underlying77
  a25 := Tryz.isAgg77
  z25 := Tryz.sizeOf77
  v25 := Tryz.zeroValue77
  t39 := Tryz.underlying101
  a39 := Tryz.isAgg101
  z39 := Tryz.sizeOf101
  v39 := Tryz.zeroValue101
  t45 := Tryz.underlying110
  a45 := Tryz.isAgg110
  z45 := Tryz.sizeOf110
  v45 := Tryz.zeroValue110
  t46 := Tryz.underlying111
  a46 := Tryz.isAgg111
  z46 := Tryz.sizeOf111
  v46 := Tryz.zeroValue111
  t50 := Tryz.underlying59
  a50 := Tryz.isAgg59
  z50 := Tryz.sizeOf59
  v50 := Tryz.zeroValue59
  t53 := Tryz.underlying117
  a53 := Tryz.isAgg117
  z53 := Tryz.sizeOf117
  v53 := Tryz.zeroValue117
  t55 := Tryz.underlying119
  a55 := Tryz.isAgg119
  z55 := Tryz.sizeOf119
  v55 := Tryz.zeroValue119
  t66 := Tryz.underlying124
  a66 := Tryz.isAgg124
  z66 := Tryz.sizeOf124
  v66 := Tryz.zeroValue124
  t70 := Tryz.underlying128
  a70 := Tryz.isAgg128
  z70 := Tryz.sizeOf128
  v70 := Tryz.zeroValue128
  t76 := Tryz.underlying134
  a76 := Tryz.isAgg134
  z76 := Tryz.sizeOf134
  v76 := Tryz.zeroValue134
  t77 := Tryz.underlying135
  a77 := Tryz.isAgg135
  z77 := Tryz.sizeOf135
  v77 := Tryz.zeroValue135 }
end Go.Proofs

namespace Go.Proofs.YtdefphacdcbljaaGreat
open Go.RowKit
set_option maxRecDepth 100000

abbrev NdS := {n : Nd // okN n = true ∧ smallN n}
def encS (x : NdS) : List Value := [.string (mkB x.1.1), .string (mkB x.1.2)]
def cmpS (x y : NdS) : Int := ordN x.1 y.1
theorem lt_cmpS (x y : NdS) : ltOf cmpS x y = ltN x.1 y.1 := rfl
theorem swo_cmpS : Sort.SWO (ltOf cmpS) where
  irrefl x := ltN_irrefl x.1
  trans x y z h k := ltN_trans h k
  ntrans x y z h k := by
    rw [lt_cmpS, ltN_no] at *
    have e1 := ordN_swap x.1 y.1
    have e2 := ordN_swap y.1 z.1
    have e3 := ordN_swap x.1 z.1
    have := (ordN_trans z.1 y.1 x.1 (by omega) (by omega)).1
    omega
theorem cmplaysS [Inhabited NdS] (blk off size : Nat) (w : World) : CmpLays Tryz.prog 43 #[] encS 2 cmpS blk off size w := fun _ _ _ _ x y =>
  (norder_bel x.1.1 x.1.2 y.1.1 y.1.2 _ x.2.2.2 y.2.2.2 x.2.1 y.2.1).mono fun _ _ ⟨he, hb⟩ => ⟨he, hb.grows⟩

/-! ### A row of nodes -/
theorem flat_nds [Inhabited NdS] (d : Array NdS) : (Sort.flatK encS 2 d).toList = ndsC (d.toList.map (·.1)) := by
  apply List.ext_getElem?
  intro t
  by_cases ht : t < d.size * 2
  · obtain ⟨j, hj⟩ : ∃ j, t / 2 = j := ⟨_, rfl⟩
    have hjd : j < d.size := by omega
    have hjl : j < (d.toList.map (·.1)).length := by simpa using hjd
    obtain ⟨h0, h1⟩ := ndsC_at (d.toList.map (·.1)) j hjl
    have hd : (d.toList.map (·.1)).getD j ([], []) = (d[j]!).1 := by rw [nd_getD hjl, getElem!_pos d j hjd]; simp
    rw [hd] at h0 h1
    have e : (Sort.flatK encS 2 d).toList[t]? = some ((encS d[j]!)[t % 2]!) := by simp [Sort.flatK, ht, hj]
    rw [e]
    rcases Nat.mod_two_eq_zero_or_one t with hm | hm
    · have e2 : t = j * 2 := by omega
      rw [hm, e2, h0]; rfl
    · have e2 : t = j * 2 + 1 := by omega
      rw [hm, e2, h1]; rfl
  · rw [List.getElem?_eq_none (by simp; omega), List.getElem?_eq_none (by rw [ndsC_len]; simp; omega)]
theorem holds_row {w : World} {g : Nat} {cur F : Array Value} {e : TypeId} (hb : w.heap[g]? = some (.cells cur e (0, 0))) (ht : cur.toList.take F.size = F.toList) : Sort.Holds id w g 0 F := by
  intro j hj
  refine ⟨?_, by simp [World.frozen?, hb]⟩
  have h1 : (cur.toList.take F.size)[j]? = F.toList[j]? := by rw [ht]
  rw [List.getElem?_take_of_lt hj] at h1
  simp only [World.cell?, hb, Nat.zero_add]
  simp only [Option.isSome_none, Bool.false_eq_true, if_false]
  rw [← Array.getElem?_toList, h1]
  simp [hj]
theorem heap_row {w : World} {g n : Nat} {os : Array Obj} {cur : Array Value} {e : TypeId} {fr : Nat × Nat} (F : Array Value) (hb : w.heap[g]? = some (.cells cur e fr)) :
    (Sort.grow (Sort.putRow id (Sort.ahead w n) g 0 F) os).heap[g]? = some (.cells (Sort.putCells id 0 F cur) e fr) := by
  have hg : g < w.heap.size := (Array.getElem?_eq_some_iff.1 hb).1
  rw [Sort.heap_grow_old _ _ (by simpa using hg)]
  simp [Sort.putRow, Sort.mapBlock, Sort.ahead, Array.getElem?_modify, hb, Sort.onCells]
theorem grownBy_row {w : World} {g n : Nat} {os : Array Obj} (F : Array Value) : w.grownBy (Sort.grow (Sort.putRow id (Sort.ahead w n) g 0 F) os) (some g) := by
  refine ⟨rfl, rfl, rfl, by simp, fun k hk hne => ?_⟩
  rw [Sort.heap_grow_old _ _ (by simpa using hk)]
  have : g ≠ k := fun e => hne (by rw [e])
  simp [Sort.putRow, Sort.mapBlock, Sort.ahead, Array.getElem?_modify, this]
theorem take_row (cur F : Array Value) (h : F.size ≤ cur.size) : (Sort.putCells id 0 F cur).toList.take F.size = F.toList := by
  apply List.ext_getElem?
  intro j
  by_cases hj : j < F.size
  · rw [List.getElem?_take_of_lt hj, Array.getElem?_toList]
    simp [Sort.putCells, hj, show j < cur.size by omega]
  · rw [List.getElem?_take_eq_none (by omega), List.getElem?_eq_none (by simp; omega)]

theorem rises_sorted [Inhabited NdS] {d d' : Array NdS} (hp : Sort.PermIn 0 d.size d d') (hs : Sort.SortedIn (ltOf cmpS) 0 d.size d') (hn : (d.toList.map (·.1)).Nodup) :
    Rises (d'.toList.map (·.1)) ∧ (∀ n, n ∈ d'.toList.map (·.1) ↔ n ∈ d.toList.map (·.1)) ∧ d'.size = d.size := by
  obtain ⟨hsz, _, hperm⟩ := hp
  have e : d.extract 0 d.size = d := by simp
  have e' : d'.extract 0 d.size = d' := by rw [← hsz]; simp
  rw [e, e'] at hperm
  have hpm : (d'.toList.map (·.1)).Perm (d.toList.map (·.1)) := hperm.map _
  have hn' : (d'.toList.map (·.1)).Nodup := hpm.nodup_iff.2 hn
  refine ⟨?_, fun n => hpm.mem_iff, hsz⟩
  show List.Pairwise _ _
  rw [List.pairwise_iff_getElem]
  intro i j hi hj hij
  have h1 : i < d'.size := by simpa using hi
  have h2 : j < d'.size := by simpa using hj
  have h := hs i j (Nat.zero_le _) hij (by omega)
  rw [lt_cmpS, getElem!_pos d' j h2, getElem!_pos d' i h1] at h
  have g1 : (d'.toList.map (·.1))[i] = d'[i].1 := by simp
  have g2 : (d'.toList.map (·.1))[j] = d'[j].1 := by simp
  rw [g1, g2]
  rcases ltN_tri d'[i].2.1 d'[j].2.1 with k | k | k
  · exact k
  · have e : i = j := (List.getElem_inj hn').1 (by rw [g1, g2, k])
    omega
  · rw [k] at h; cases h

/-! ### The sort of a row of the call's own -/
theorem nsort_any (w : World) (base : Nat) (v : Value) (ss : List Nd) (hown : w.ownsRow base 24 2 v ss.length (ndsC ss)) (hok : ∀ n ∈ ss, okN n = true ∧ smallN n) (hn : ss.Nodup) (hlen : ss.length ≤ 1000000) :
    Calls Tryz.prog 60 #[v, .func (.func 43) #[] #[]] w fun e w' => e = .returned (.tuple #[]) ∧ ∃ ts, Rises ts ∧ (∀ n, n ∈ ts ↔ n ∈ ss) ∧ ts.length = ss.length ∧ w'.ownsRow base 24 2 v ts.length (ndsC ts) ∧ w.grownBy w' v.ownBlock := by
  rcases ss with _ | ⟨x, ss'⟩
  · have hnil : ∃ p c, v = .slice p 0 c := by
      rcases hown.2 with ⟨rfl, _⟩ | ⟨g, cap, cur, rfl, _⟩
      · exact ⟨_, _, rfl⟩
      · exact ⟨_, _, rfl⟩
    obtain ⟨p, c, rfl⟩ := hnil
    exact (AnyF.slices_SortFunc_none Tryz.sortN p c (.func (.func 43) #[] #[]) w).mono fun _ w' ⟨he, hw⟩ => by
      subst hw
      exact ⟨he, [], List.Pairwise.nil, fun _ => Iff.rfl, rfl, hown, ⟨rfl, rfl, rfl, Nat.le_refl _, fun _ _ _ => rfl⟩⟩
  · haveI : Inhabited NdS := ⟨⟨x, hok x (by simp)⟩⟩
    obtain ⟨ss, hss⟩ : ∃ ss, x :: ss' = ss := ⟨_, rfl⟩
    have hpos : 0 < ss.length := by rw [← hss]; simp
    rw [hss] at hown hok hn hlen ⊢
    clear hss
    obtain ⟨d, hd⟩ : ∃ d : Array NdS, d.toList.map (·.1) = ss := ⟨(ss.attach.map fun n => ⟨n.1, hok n.1 n.2⟩).toArray, by rw [List.toList_toArray, List.map_map]; exact List.attach_map_subtype_val ss⟩
    have hds : d.size = ss.length := by rw [← hd]; simp
    rcases hown.2 with ⟨rfl, h0⟩ | ⟨g, cap, cur, rfl, hbase, hb, h1, h2, h3, h4⟩
    · omega
    · have hF := flat_nds d
      rw [hd] at hF
      have hFs : (Sort.flatK encS 2 d).size = ss.length * 2 := by rw [Sort.size_flatK, hds]
      have hH : Sort.HoldsK encS 2 w g 0 d := holds_row hb (by rw [hFs, hF]; exact h4)
      have hg : g < w.heap.size := (Array.getElem?_eq_some_iff.1 hb).1
      have eg : ∀ args w, (callFunc 43 args).run Tryz.prog w = .ok (.enter 43 args) w := enters_of Tryz.func43 (by kernel_rfl) rfl
      have hcon := AnyQ.slices_SortFunc Tryz.sortN 2 Tryz.isAgg24 Tryz.sizeOf24 encS (fun _ => rfl) (fun x v hv => by simp [encS] at hv; rcases hv with rfl | rfl <;> rfl) cmpS swo_cmpS 43 #[] g 0 cap d w eg (cmplaysS g 0 d.size w) hH hg (by omega)
      rw [hds] at hcon
      refine hcon.mono ?_
      rintro e w' ⟨rfl, d', n, os, hp, hs, rfl⟩
      rw [← hds] at hp hs
      obtain ⟨hr, hm, hsz⟩ := rises_sorted hp hs (by rw [hd]; exact hn)
      have hF' := flat_nds d'
      have hFs' : (Sort.flatK encS 2 d').size = ss.length * 2 := by rw [Sort.size_flatK, hsz, hds]
      have hl : (d'.toList.map (·.1)).length = ss.length := by simp [hsz, hds]
      have h5 := Nat.mul_le_mul_right 2 h1
      refine ⟨rfl, d'.toList.map (·.1), hr, fun n => by rw [hm, hd], hl, ?_, ?_⟩
      · refine ⟨by rw [ndsC_len], .inr ⟨g, cap, _, by rw [hl], hbase, heap_row _ hb, by omega, h2, by simp [Sort.putCells, h3], ?_⟩⟩
        rw [hl, ← hFs', ← hF']
        exact take_row cur _ (by omega)
      · exact grownBy_row _
end Go.Proofs.YtdefphacdcbljaaGreat

namespace Go.Proofs.YtdefphacdcbljaaGreat
open Go.RowKit
set_option maxRecDepth 100000

theorem nodup_len : ∀ {s K : List Nd}, s.Nodup → (∀ n ∈ s, n ∈ K) → s.length ≤ K.length
  | [], _, _, _ => Nat.zero_le _
  | x :: s, K, hn, h => by
    have hx := h x (by simp)
    have hi := nodup_len (s := s) (K := K.erase x) (List.nodup_cons.1 hn).2 (fun n hm => (List.mem_erase_of_ne (by intro e; subst e; exact (List.nodup_cons.1 hn).1 hm)).2 (h n (by simp [hm])))
    rw [List.length_erase_of_mem hx] at hi
    have hp := List.length_pos_of_mem hx
    simp only [List.length_cons]; omega
set_option maxHeartbeats 800000 in
theorem nsorted_any (Bm b nn : Nat) (K : List Nd) (w : World) (hBm : Bm < w.heap.size) (hm : w.cell? ⟨Bm, 0, none⟩ = some (.map (some b))) (hown : NMap w b nn K) (hok : ∀ n ∈ K, okN n = true ∧ smallN n) (hnn : nn ≤ 1000000) (hKl : K.length ≤ 1000000) :
    Calls Tryz.prog 40 #[.func (.func 61) #[] #[.pointer (some ⟨Bm, 0, none⟩)], .func (.func 43) #[] #[]] w fun e w' => ∃ v ss, e = .returned v ∧ Rises ss ∧ (∀ n, n ∈ ss ↔ n ∈ K) ∧ w'.ownsRow w.heap.size 24 2 v ss.length (ndsC ss) ∧ Below w.heap.size w w' := by
  have hco := callsIn_wide.1 (collect_in Fence.wide 5 trivial trivial rfl (by decide) 61 #[.pointer (some ⟨Bm, 0, none⟩)] trivial (enters_of Tryz.func61 (by kernel_rfl) rfl) _ nn (by unfold maxLen; omega) (by omega) w (keys_stops Fence.wide (5 - 1 - 1) trivial rfl (by decide) Bm b nn K w hBm hm hown))
  have HOK := Lib.hid hok
  clear hBm hm hown hok
  go_enter Tryz.func40, Tryz.ntmps40
  go_wp2_with (first
    | (go_at_call 23; refine hco.mono ?_; rintro e w1 ⟨v, ss, rfl, ⟨hnd, hmem⟩, hrow, -, hb1⟩; have HR := Lib.hid hrow; have B := Lib.hid hb1; clear hrow hb1 hco)
    | (go_at_call 60; refine (nsort_any _ _ _ ss HR.out (fun n hn => HOK.out n ((hmem n).1 hn)) hnd (Nat.le_trans (nodup_len hnd fun n hn => (hmem n).1 hn) hKl)).mono ?_; rintro e w2 ⟨rfl, ts, hrs, hmt, -, hrow2, hg⟩))
  go_ret
  exact ⟨v, ts, rfl, hrs, fun n => (hmt n).trans (hmem n), hrow2, B.out.grown hg B.out.size (fun k hk => (HR.out.lt k hk).1)⟩

/-! ### The set -/
def allN (l : List Nd) : Bool := l.all okN
def setNE (l : List Nd) : List Nd × Int := if allN l = true then (setN l, 0) else ([], 1)
theorem setNE_yes {l : List Nd} (h : allN l = true) : setNE l = (setN l, 0) := by unfold setNE; rw [if_pos h]
theorem setNE_no {l : List Nd} (h : allN l = false) : setNE l = ([], 1) := by unfold setNE; rw [if_neg (by simp [h])]
theorem allN_ok {l : List Nd} (h : allN l = true) : ∀ n ∈ l, okN n = true := List.all_eq_true.1 h
theorem allN_take {l : List Nd} {k : Nat} (h : k < l.length) (o : okN (l.getD k ([], [])) = true) (ht : allN (l.take k) = true) : allN (l.take (k + 1)) = true := by
  unfold allN at *
  rw [List.take_succ_eq_append_getElem h, List.all_append, ht]
  rw [nd_getD h] at o
  simp [o]
theorem allN_no {l : List Nd} {k : Nat} (h : k < l.length) (o : okN (l.getD k ([], [])) = false) : allN l = false := by
  unfold allN
  rw [List.all_eq_false]
  exact ⟨_, nd_mem h, by rw [o]; simp⟩

set_option maxHeartbeats 1600000 in
theorem nset_any (V : Value) (l : List Nd) (w : World) (hV : Nds w V l) (sl : ∀ n ∈ l, smallN n) (hl : l.length ≤ 1000000) :
    Calls Tryz.prog 22 #[V] w fun e w' => ∃ a c, e = .returned (.tuple #[.slice a (setNE l).1.length c, .int .i64 (setNE l).2]) ∧ Nds w' (.slice a (setNE l).1.length c) (setNE l).1 ∧ Below w.heap.size w w' := by
  obtain ⟨a, c, rfl, h1, h2, -, -⟩ := hV.ex
  unfold maxLen at h2
  obtain ⟨n, hn⟩ : ∃ n, l.length = n := ⟨_, rfl⟩
  rw [hn] at h1 hV hl ⊢
  have SV := Lib.hid hV; have HN := Lib.hid hn; have SL := Lib.hid sl
  obtain ⟨R, hR⟩ : ∃ R, setNE l = R := ⟨_, rfl⟩
  rw [hR]
  obtain ⟨R1, R2⟩ := R
  simp only
  have HR := Lib.hid hR
  clear hV hn sl hR
  go_enter Tryz.func22, Tryz.ntmps22
  go_wp2
  go_loopw [8] (fun i wr => ∃ k : Nat, k ≤ n ∧ i = .int .i64 k ∧ Hid (allN (l.take k) = true) ∧ Hid (Below w.heap.size w wr)) (fun i _ => n - (intOf i).toNat)
  case atStart => exact ⟨0, Nat.zero_le _, rfl, Lib.hid (by simp [allN]), Lib.hid (Below.refl _ _)⟩
  case round =>
    obtain ⟨k, hk, rfl, HA, HB⟩ := hrel
    by_cases hlt : k < n
    · have hkl : k < l.length := by rw [HN.out]; exact hlt
      obtain ⟨b, off, rfl, -, hc0, hc1⟩ := (SV.out.below HB.out).at k hkl
      obtain ⟨y, hy⟩ : ∃ y, y = l.getD k ([], []) := ⟨_, rfl⟩
      have hsy : smallN y := by rw [hy]; exact SL.out _ (nd_mem hkl)
      obtain ⟨o, ho⟩ : ∃ o, okN y = o := ⟨_, rfl⟩
      rw [← hy] at hc0 hc1
      have HY := Lib.hid hy; have HS := Lib.hid hsy; have HO := Lib.hid ho
      clear hy hsy ho
      obtain ⟨y1, y2⟩ := y
      simp only at hc0 hc1
      cases o
      · have he := setNE_no (allN_no hkl (by rw [← HY.out]; exact HO.out))
        rw [HR.out] at he
        obtain ⟨rfl, rfl⟩ := Prod.mk.inj he
        go_upto_region 4 with fail
        obtain ⟨X, q, hX, hq, d0, d1, hxb⟩ := boxB1 wr (.string (mkB y1)) (.string (mkB y2)) 24
        rw [hX, hq]
        have B := Lib.hid (below_step HB.out hxb)
        clear hX hq hc0 hc1 hxb
        go_wp2_with (go_at_call 25; refine (nmay_any _ _ _ HS.out.1 HS.out.2).mono ?_; rintro e w1 ⟨rfl, hb1⟩; rw [HO.out]; replace B := Lib.hid (below_step B.out hb1); clear hb1)
        go_ret2
        exact ⟨none, 0, rfl, nds_none _, B.out⟩
      · have hat := allN_take hkl (by rw [← HY.out]; exact HO.out) HA.out
        have HAT := Lib.hid hat; clear hat
        go_upto_region 4 with fail
        obtain ⟨X, q, hX, hq, d0, d1, hxb⟩ := boxB1 wr (.string (mkB y1)) (.string (mkB y2)) 24
        rw [hX, hq]
        have B := Lib.hid (below_step HB.out hxb)
        clear hX hq hc0 hc1 hxb
        go_wp2_with (go_at_call 25; refine (nmay_any _ _ _ HS.out.1 HS.out.2).mono ?_; rintro e w1 ⟨rfl, hb1⟩; rw [HO.out]; replace B := Lib.hid (below_step B.out hb1); clear hb1)
        go_roundw
        case rel => exact ⟨k + 1, by omega, by go_num, HAT, B⟩
        case measure => simp [intOf]; omega
    · have e : k = n := by omega
      subst e
      have hal := HA.out
      rw [List.take_of_length_le (by rw [HN.out]; exact Nat.le_refl _)] at hal
      have he := setNE_yes hal
      rw [HR.out] at he
      obtain ⟨rfl, rfl⟩ := Prod.mk.inj he
      have HOK := Lib.hid (allN_ok hal)
      clear hal HA HR he
      go_wp2_with (first
        | (go_at_call 42; refine (gather_any _ l _ (SV.out.below HB.out) (fun n hn => fits_small (SL.out n hn))).mono ?_; rintro e w1 ⟨g, rfl, hM, -, hb1⟩; have MP := Lib.hid hM; have B := Lib.hid (below_step HB.out hb1); clear hb1 hM)
        | (go_at_call 41; refine (callsIn_wide.1 (keys_in Fence.wide 5 trivial rfl (some g) _)).mono ?_; rintro e w2 ⟨rfl, rfl⟩; have MP2 := Lib.hid (MP.out.alloc (.cells #[.map (some g)] 74)); have hck := cell_new (X := w1) (cs := #[.map (some g)]) (t := 74) (i := 0) rfl rfl)
        | (go_at_call 40; refine (nsorted_any _ _ _ l _ (by simp) hck MP2.out (fun n hn => ⟨HOK.out n hn, SL.out n hn⟩) (by rw [HN.out]; exact hl) (by rw [HN.out]; exact hl)).mono ?_; rintro e w3 ⟨v, ss, rfl, hrs, hmem, hrow, hb3⟩))
      go_ret2
      have hss := setN_is HOK.out hrs hmem
      subst hss
      obtain ⟨a2, c2, rfl, hnd⟩ := ndsO hrow
      exact ⟨a2, c2, rfl, hnd, below_step (B.out.alloc B.out.size _) hb3⟩
end Go.Proofs.YtdefphacdcbljaaGreat

namespace Go.Proofs.YtdefphacdcbljaaGreat
open Go.RowKit Go.Maps Go.Sort Go.Shelf
set_option linter.unusedVariables false
set_option maxRecDepth 100000

def mkInt (c : Int) : Value := .int .i64 c
theorem inv_int (v : Value) (y : DataW Unit × List MemPlace) (h : plainElem Tryz.prog 3 v = some y) : ∃ c, v = mkInt c := by
  obtain ⟨c, rfl, _⟩ := plainElem_int_inv Tryz.underlying3 h; exact ⟨c, rfl⟩
theorem MetN.all2 {D : DataW Unit} {left : Lit → Bool} {ss K : List Nd} (h : MetN D left ss) (hl : ∀ kl, left kl = false) (hf : ∀ n ∈ K, fitsN n) (hD : ∀ n, fitsN n → has D (litN n) = hasN K n) : ss.Nodup ∧ ∀ n, n ∈ ss ↔ n ∈ K := by
  refine ⟨h.1, fun n => ⟨fun hn => ?_, fun hn => ?_⟩⟩
  · have hfn := h.2.1 n hn
    have := ((h.2.2 n hfn).1 hn).1
    rw [hD n hfn, hasN_iff] at this
    exact this
  · have hfn := hf n hn
    exact (h.2.2 n hfn).2 ⟨by rw [hD n hfn, hasN_iff]; exact hn, hl _⟩

set_option maxHeartbeats 1600000 in
theorem keysC1_in (F : Fence) (n : Nat) (h10 : F.fn 45) (hro : F.round = none) (hn : 1 ≤ n) (l Bm b nn : Nat) (D0 : DataW Unit) (J Jx : List Nd → World → Prop)
    (hY : ∀ pre x W, J pre W → pre.length < Maps.size D0 → YieldAt F (n - 1) Tryz.prog l #[mkKey x] W fun e W' =>
      (e = .returned (.bool true) ∧ J (pre ++ [x]) W' ∧ KeepsWalks W W') ∨ (e = .returned (.bool false) ∧ Jx (pre ++ [x]) W'))
    (W : World) (hJ : AbidesFrom W.heap.size J) (hm : W.cell? ⟨Bm, 0, none⟩ = some (.map (some b))) (hown : W.ownsMap Tryz.prog 24 (plainElem Tryz.prog 3) b nn D0) (h0 : J [] W) :
    CallsIn F n Tryz.prog 45 #[.func (.yield l) #[] #[], .pointer (some ⟨Bm, 0, none⟩)] W fun e W' => (∃ v, e = .returned v) ∧
      ((∃ ss : List Nd, (∃ left : Lit → Bool, MetN D0 left ss ∧ ∀ kl, left kl = false) ∧ J ss W') ∨ (∃ pre : List Nd, True ∧ Jx pre W')) := by
  refine callsIn_of_wp Tryz.func45 rfl h10 ?_ hro
  simp only [Tryz.ntmps45, List.size_toArray, List.length_cons, List.length_nil, Nat.reduceAdd, Nat.reduceSub, Array.replicate_succ, Array.replicate_zero, List.push_toArray, List.append_toArray, List.nil_append, List.cons_append]
  gi_wp2_with (first
    | (gi_at_range; refine wpListIn_range_own _ rfl _ 52 rfl 24 3 node_keyed Tryz.underlying52 _ b nn _ rfl hown ?_; intro w0 hrg0 hg0 hs0)
    | gi_in)
  go_frame
  gi_loopw [3] (fun _ wr => ∃ (left : Lit → Bool) (cnt : Nat) (ss : List Nd), wr.ranges Tryz.prog 24 (plainElem Tryz.prog 3) b W.heap.size nn D0 left cnt ∧ ss.length + cnt ≤ Maps.size D0 ∧ MetN D0 left ss ∧ J ss wr)
    (fun _ wr => wr.rangeLeft b W.heap.size)
  case atStart =>
    exact ⟨_, _, [], hrg0, by simp, MetN.start D0, hJ [] W w0 none h0 hg0 (fun r e => by cases e)⟩
  case round =>
    obtain ⟨left, cnt, ss, hrg, hcs, hC, hJs⟩ := hrel
    gi_wp2_with (first
      | (gi_at_next; refine wpListIn_next_ranges _ rfl _ rfl 24 node_keyed (plainElem Tryz.prog 3) mkKey mkInt inv_key inv_int b W.heap.size nn _ _ _ rfl hrg ?_ ?_)
      | gi_in)
    · intro hc0 hl0
      gi_wp2
      go_end0
      exact ⟨⟨_, rfl⟩, .inl ⟨ss, ⟨left, hC, hl0⟩, hJs⟩⟩
    · intro x1 x2 c kl yd yp w2 cnt2 hkey hlk hv hat hrg2 hlt hg2 hs2 hen
      obtain ⟨x', ex, rfl, hf1, hf2⟩ := key_inv hkey
      obtain rfl : (x1, x2) = x' := ndV_inj ex
      have hJ2 : J ss w2 := hJ ss wr w2 (some W.heap.size) hJs hg2 (fun r e => by cases e; exact ⟨Nat.le_refl _, hrg.iter_walk⟩)
      have hJ3 : J ss (w2.alloc (.cells #[.string (mkB x1), .string (mkB x2)] 24)) := hJ ss w2 _ none hJ2 (World.grownBy_alloc w2 _ none) (fun r e => by cases e)
      obtain ⟨fn, tmps, assign, body, hy, hR⟩ := hY ss (x1, x2) _ hJ3 (by omega)
      have hrg3 := hrg2.alloc (.cells #[.string (mkB x1), .string (mkB x2)] 24)
      have hC2 := hC.step (n := (x1, x2)) ⟨hf1, hf2⟩ hlk hat
      simp only [mkKey, mkInt] at hen hy ⊢
      clear hs2 hkey hv
      gi_wp2
      refine hR.mono ?_
      rintro e W3 (⟨rfl, hJ4, hk3⟩ | ⟨rfl, hJx3⟩)
      · gi_wp2
        have hrg4 := hrg3.of_walks hk3
        go_roundw
        case rel => exact ⟨_, cnt2, ss ++ [(x1, x2)], hrg4, by simp; omega, hC2, hJ4⟩
        case measure => rw [hrg4.left_eq, hrg.left_eq]; exact hlt
      · gi_wp2
        refine bodyPost_ret (results_none rfl _ _ _) rfl ?_
        exact ⟨⟨_, rfl⟩, .inr ⟨ss ++ [(x1, x2)], trivial, hJx3⟩⟩

/-- maps.Keys hands back a value that gives all keys, each once. -/
theorem keysC_stops (F : Fence) (n : Nat) (h10 : F.fn 45) (hro : F.round = none) (hn : 1 ≤ n) (Bm b nn : Nat) (K : List Nd) (f : Nd → Int) (w : World) (hBm : Bm < w.heap.size)
    (hm : w.cell? ⟨Bm, 0, none⟩ = some (.map (some b))) (hown : CMap w b nn K f) :
    SeqStopsK F n Tryz.prog 45 #[.pointer (some ⟨Bm, 0, none⟩)] (fun x : Nd => #[mkKey x]) KeepsWalks (fun ss => ss.Nodup ∧ ∀ n, n ∈ ss ↔ n ∈ K) (fun _ => True) nn w := fun l J Jx W hW hJ _ hY h0 => by
  obtain ⟨hf, _, D, ho, hD⟩ := hown.below hW
  have hsz := ho.size_le
  refine (keysC1_in F n h10 hro hn l Bm b nn D J Jx (fun pre x W1 hj hl => hY pre x W1 hj (by omega)) W hJ ((hW.cell (p := ⟨Bm, 0, none⟩) hBm).trans hm) ho h0).mono ?_
  rintro e W' ⟨hv, (⟨ss, ⟨left, hM, hl⟩, hj⟩ | ⟨pre, _, hj⟩)⟩
  · exact ⟨hv, .inl ⟨ss, hM.all2 hl hf fun n k => (hD n k).1, hj⟩⟩
  · exact ⟨hv, .inr ⟨pre, trivial, hj⟩⟩

set_option maxHeartbeats 400000 in
theorem keysC_in (F : Fence) (n : Nat) (h7 : F.fn 24) (hro : F.round = none) (mb : Option Nat) (w : World) :
    CallsIn F n Tryz.prog 24 #[.map mb] w fun e w' => e = .returned (.func (.func 45) #[] #[.pointer (some ⟨w.heap.size, 0, none⟩)]) ∧ w' = w.alloc (.cells #[.map mb] 52) := by
  refine callsIn_of_wp Tryz.func24 rfl h7 ?_ hro
  simp only [Tryz.ntmps24, List.size_toArray, List.length_cons, List.length_nil, Nat.reduceAdd, Nat.reduceSub, Array.replicate_succ, Array.replicate_zero, List.push_toArray, List.append_toArray, List.nil_append, List.cons_append]
  gi_wp2
  go_ret
  exact ⟨rfl, rfl⟩

end Go.Proofs.YtdefphacdcbljaaGreat

namespace Go.Proofs.YtdefphacdcbljaaGreat
open Go.RowKit Go.Maps Go.Sort Go.Shelf Go.ChangeShapes Go.WideShapes
set_option linter.unusedVariables false
set_option maxRecDepth 100000

theorem boxV19 (w : World) (x y : Value) (t : TypeId) : ∃ W g, w.alloc (.cells #[x, y] t) = W ∧ w.heap.size = g ∧ W.heap[g]? = some (.cells #[x, y] t (0, 0)) ∧ Below w.heap.size w W :=
  ⟨_, _, rfl, rfl, heap_alloc_new _ _, (Below.refl _ _).alloc (Nat.le_refl _) _⟩
theorem depE_yes {l : List Ne} (h : mayK l = true) : depWE l = (depW l, 0) := by unfold depWE; rw [if_pos h]
theorem depE_no {l : List Ne} (h : mayK l = false) : depWE l = ([], 1) := by unfold depWE; rw [if_neg (by rw [h]; exact Bool.false_ne_true)]
set_option maxHeartbeats 3200000 in
theorem wdeptho_any (V : Value) (l : List Ne) (w : World) (h : Nes w V l) (hs : ∀ d ∈ l, smallNe d) (hl : l.length ≤ 1000) :
    Calls Tryz.prog 7 #[V] w fun e w' => ∃ u, e = .returned (.tuple #[u, .int .i64 (depWE l).2]) ∧ w'.ownsRow w.heap.size 46 3 u (depWE l).1.length (dpC (depWE l).1) ∧ Below w.heap.size w w' := by
  obtain ⟨a, c, rfl, -, -, -, -⟩ := h.ex
  have kchk := lCheck_any _ l w h hs
  obtain ⟨M, hM⟩ : ∃ M, mayK l = M := ⟨_, rfl⟩
  have ST := Lib.hid h
  cases M
  · rw [depE_no hM]
    rw [chkK_no hM] at kchk
    obtain ⟨n, hn'⟩ : ∃ n, l.length = n := ⟨_, rfl⟩
    rw [hn'] at ST kchk ⊢
    have KC := Lib.hid kchk
    clear h hs hl hM hn' kchk
    go_enter Tryz.func7, Tryz.ntmps7
    go_wp2_with (go_at_call 20; refine KC.out.mono ?_; rintro e w1 ⟨rfl, hb1⟩; have B := Lib.hid hb1; clear hb1)
    go_ret2
    exact ⟨_, rfl, World.ownsRow_nil _ _ _ _, B.out⟩
  · rw [depE_yes hM]
    rw [chkK_yes hM] at kchk
    have kdep := fun w' (h' : Nes w' (.slice a l.length c) l) => wdepths_any _ l w' h' hM hs hl
    have hok : ∀ n, 0 < farW l n → okN n = true ∧ smallN n := fun n hn => by
      obtain ⟨d, hd, rfl⟩ := List.mem_map.1 (far_to hM hn)
      exact ⟨far_ok hM hn, (hs d hd).2⟩
    have hall : ∀ K ss : List Nd, (∀ n, n ∈ K ↔ 0 < farW l n) → (∀ n, n ∈ ss ↔ n ∈ K) → setNE ss = (allW l, 0) := fun K ss hK hss => by
      have ho : ∀ n ∈ ss, okN n = true := fun n hn => (hok n ((hK n).1 ((hss n).1 hn))).1
      rw [setNE_yes (List.all_eq_true.2 ho)]
      congr 1
      exact allW_is hM (setN_rises _) fun n => by rw [setN_mem ho, hss, hK]
    have hsa : ∀ n ∈ allW l, smallN n := fun n hn => (hok n ((allW_mem hM).1 hn)).2
    have hal := allW_len hM
    have htk := fun k hk => depW_take (l := l) (k := k) hk
    have hdl := depW_len l
    have hlt : ∀ n, farW l n ≤ 1000000 := fun n => Nat.le_trans (farW_bound hM n) (by omega)
    obtain ⟨n, hn'⟩ : ∃ n, l.length = n := ⟨_, rfl⟩
    rw [hn'] at ST kchk kdep hal hl ⊢
    obtain ⟨S, hS⟩ : ∃ S, allW l = S := ⟨_, rfl⟩
    rw [hS] at hall hsa hal htk hdl
    obtain ⟨q, hq⟩ : ∃ q, S.length = q := ⟨_, rfl⟩
    rw [hq] at hal hdl
    obtain ⟨D, hD⟩ : ∃ D, depW l = D := ⟨_, rfl⟩
    rw [hD] at htk hdl ⊢
    simp only
    have KC := Lib.hid kchk; have KD := Lib.hid kdep; have HOK := Lib.hid hok; have HALL := Lib.hid hall; have HSA := Lib.hid hsa; have HTK := Lib.hid htk; have HDL := Lib.hid hdl; have HQ := Lib.hid hq; have HLT := Lib.hid hlt
    clear h hs hM hn' kchk kdep hok hall hsa hS hq hD htk hdl hlt
    go_enter Tryz.func7, Tryz.ntmps7
    go_upto_region 5 with (first
      | (go_at_call 20; refine KC.out.mono ?_; rintro e w1 ⟨rfl, hb1⟩; have B := Lib.hid hb1; replace ST := Lib.hid (ST.out.below hb1); clear hb1)
      | (go_at_call 21; refine (KD.out _ ST.out).mono ?_; rintro e w2 ⟨b, K, rfl, hmk, hKK, hKl, hb1⟩; replace B := Lib.hid (below_step B.out hb1); have MK := Lib.hid hmk; have HKK := Lib.hid hKK; clear hb1 hmk hKK))
    have kcol := fun Bm w' (hBm : Bm < w'.heap.size) (hm : w'.cell? ⟨Bm, 0, none⟩ = some (.map (some b))) (ho : CMap w' b K.length K fun n => (farW l n : Int)) => callsIn_wide.1 (collect_in Fence.wide 5 trivial trivial rfl (by decide) 45 #[.pointer (some ⟨Bm, 0, none⟩)] trivial (enters_of Tryz.func45 (by kernel_rfl) rfl) _ K.length (by unfold maxLen; omega) (by omega) w' (keysC_stops Fence.wide (5 - 1 - 1) trivial rfl (by decide) Bm b K.length K _ w' hBm hm ho))
    have KCOL := Lib.hid kcol
    clear kcol
    go_upto_region 6 with (first
      | (go_at_call 24; refine (callsIn_wide.1 (keysC_in Fence.wide 5 trivial rfl (some b) _)).mono ?_; rintro e w3 ⟨rfl, rfl⟩; have MK3 := Lib.hid (MK.out.alloc (.cells #[.map (some b)] 52)); have hck := cell_new (X := w2) (cs := #[.map (some b)]) (t := 52) (i := 0) rfl rfl; have hbm : w2.heap.size < (w2.alloc (.cells #[.map (some b)] 52)).heap.size := (by simp); have B3 := Lib.hid (B.out.alloc B.out.size (.cells #[.map (some b)] 52)))
      | (go_at_call 23; refine (KCOL.out _ _ hbm hck MK3.out).mono ?_; rintro e w4 ⟨v, ss, rfl, ⟨hnd, hmem⟩, hrow, -, hb4⟩; have MK4 := Lib.hid (MK3.out.below hb4); have B4 := Lib.hid (below_step B3.out hb4); obtain ⟨a4, c4, rfl, hn4⟩ := ndsO hrow; have S4 := Lib.hid hn4; have hsl : ss.length ≤ n := Nat.le_trans (hnd.length_le_of_subset fun x hx => (hmem x).1 hx) hKl; have HSET := Lib.hid (HALL.out K ss HKK.out hmem); have HSM := Lib.hid (show ∀ x ∈ ss, smallN x from fun x hx => (HOK.out x ((HKK.out x).1 ((hmem x).1 hx))).2); clear hn4 hrow hb4 hnd hmem)
      | (go_at_call 22; refine (nset_any _ ss _ S4.out HSM.out (by omega)).mono ?_; rintro e w5 ⟨a5, c5, rfl, hn5, hb5⟩; rw [HSET.out] at hn5; rw [HSET.out]; rw [HQ.out] at hn5; rw [HQ.out]; have S5 := Lib.hid hn5; have MK5 := Lib.hid (MK4.out.below hb5); have B5 := Lib.hid (below_step B4.out hb5); clear hn5 hb5))
    clear MK MK3 MK4 S4 hck hbm HSET HSM KCOL B B3 B4 KC KD ST hKl hsl
    go_wp2
    go_loopw [8, 27] (fun v6 i wr => ∃ (u : Value) (k : Nat), u = v6 ∧ k ≤ q ∧ i = .int .i64 k ∧ Hid (wr.ownsRow w5.heap.size 46 3 u k (dpC (D.take k))) ∧ Hid (Below w5.heap.size w5 wr)) (fun _ i _ => q - (intOf i).toNat)
    case atStart => exact ⟨_, 0, rfl, Nat.zero_le _, rfl, Lib.hid (World.ownsRow_nil _ _ _ _), Lib.hid (Below.refl _ _)⟩
    case round =>
      obtain ⟨u9, k, rfl, hk, rfl, HO, HB⟩ := hrel
      by_cases hltk : k < q
      · have hkl : k < S.length := by rw [HQ.out]; exact hltk
        obtain ⟨b', off, rfl, -, hc0, hc1⟩ := (S5.out.below HB.out).at k hkl
        have hDT := HTK.out k (by rw [HQ.out]; exact hltk)
        have hsm := HSA.out _ (nd_mem hkl)
        obtain ⟨z, hz⟩ : ∃ z, z = S.getD k ([], []) := ⟨_, rfl⟩
        rw [← hz] at hc0 hc1 hDT hsm
        obtain ⟨z1, z2⟩ := z
        simp only at hc0 hc1
        obtain ⟨fz, hfz⟩ : ∃ r, farW l (z1, z2) = r := ⟨_, rfl⟩
        have hlk := fun w' (h : Below w5.heap.size w5 w') => look_cmap (MK5.out.below h) (fitN19 hsm)
        simp only [hfz] at hlk
        rw [hfz] at hDT
        obtain ⟨D1, hD1⟩ : ∃ r, D.take k = r := ⟨_, rfl⟩
        rw [hD1] at hDT HO
        have HDT := Lib.hid hDT; have HLK := Lib.hid hlk; have HKK := Lib.hid (show k ≤ 100000 by omega)
        have hkb : (k : Int) < (q : Int) := by omega
        clear hz hfz hDT hD1 hlk hsm
        go_upto_region 10 with fail
        obtain ⟨X, gx, hX, hgx, hrx, hxb⟩ := boxV19 wr (.string (mkB z1)) (.string (mkB z2)) 24
        rw [hX, hgx]
        have HOWN := Lib.hid (ownsRow_belowB HO.out hxb); have HBX := Lib.hid (below_step HB.out hxb)
        have HBS := Lib.hid HBX.out.size
        have HRX := Lib.hid hrx
        obtain ⟨whoF, hwho⟩ : ∃ g : Nat → Nat, g = (fun b => if b = gx then 2 else if Value.ownBlock u9 = some b then 1 else 0) := ⟨_, rfl⟩
        have HWX := Lib.hid (show whoF gx = 2 by rw [hwho]; exact if_pos rfl)
        have HW1 := Lib.hid (show ∀ b, Value.ownBlock u9 = some b → whoF b = 1 from fun b e => by
          have := (own_lt HO.out e).2
          rw [hwho]; exact (if_neg (by omega)).trans (if_pos e))
        clear hX hgx hrx hxb hc0 hc1 HO hwho
        go_upto_region 10 with fail
        refine rol_run (by kernel_rfl) [[], [], [], [], [2, 3], [1, 2, 3, 4], [1, 2, 3, 4, 5], [0, 1, 2, 3, 4, 5, 6], [0, 1, 2, 3, 4, 5, 6, 7]] (by kernel_rfl) [31, 32, 33, 34, 35, 36, 37, 38, 8] [[11], [9], [], [9], [2, 3], [1, 4], [5], [0, 6, 10], [7]] [0, 0, 0, 0, 0, 0, 5, 1, 1, 2, 1, 0] [0, 0, 0, 0, 0, 0, 0, 1, 0] [1000, 1000, 1000, 1000, 1000, 1000, 1000, 1000, 1000, 1000, 7, 8] [.val 31 (u9), .val 32 (.agg #[.string (mkB z1), .string (mkB z2)]), .val 33 (.map (some b)), .val 34 (.agg #[.string (mkB z1), .string (mkB z2)]), .val 35 (.int .i64 (fz : Int)), .val 36 (.agg #[.string (mkB z1), .string (mkB z2), .int .i64 (fz : Int)]), .mem 37 (blkG 46 #[.string (mkB z1), .string (mkB z2), .int .i64 (fz : Int)] 1), .mem 38 (rowG w5.heap.size 46 3 (k + 1) (dpC (D1 ++ [((z1, z2), (fz : Int))]))), .mem 8 (rowG w5.heap.size 46 3 (k + 1) (dpC (D1 ++ [((z1, z2), (fz : Int))]))), .box (gx) (.cells #[.string (mkB z1), .string (mkB z2)] 24), .mem 8 (rowX u9 (w5.heap.size) 46 3 k (dpC D1)), .val 8 (u9)] (by kernel_rfl) ?_ (w5.heap.size) (X.heap.size) rfl HBX.out rfl (whoF) ?_ ?_ ?_
        · intro j hj
          have hj3 : j < 12 := hj
          have hj2 : j = 0 ∨ j = 1 ∨ j = 2 ∨ j = 3 ∨ j = 4 ∨ j = 5 ∨ j = 6 ∨ j = 7 ∨ j = 8 ∨ j = 9 ∨ j = 10 ∨ j = 11 := by omega
          clear hj hj3
          rcases hj2 with rfl | rfl | rfl | rfl | rfl | rfl | rfl | rfl | rfl | rfl | rfl | rfl
          · exact trivial
          · exact trivial
          · exact trivial
          · exact trivial
          · exact trivial
          · exact trivial
          · exact blkG_near
          · exact rowG_near
          · exact rowG_near
          · exact trivial
          · exact rowX_near
          · exact trivial
        · intro j hj0 hj
          have hj1 : 9 ≤ j := hj0
          have hj3 : j < 12 := hj
          have hj2 : j = 9 ∨ j = 10 ∨ j = 11 := by omega
          clear hj0 hj hj1 hj3
          rcases hj2 with rfl | rfl | rfl
          · exact ⟨HRX.out, HWX.out⟩
          · exact ⟨_, _, rfl, fun b e => ⟨(own_lt HOWN.out e).2, HW1.out b e⟩, HOWN.out, rfl⟩
          · exact rfl
        · intro i hi a wx who hG hF
          have hz : a.tmps.size = 41 := hG.size
          have hi3 : i < 9 := hi
          have hi2 : i = 0 ∨ i = 1 ∨ i = 2 ∨ i = 3 ∨ i = 4 ∨ i = 5 ∨ i = 6 ∨ i = 7 ∨ i = 8 := by omega
          clear hi hi3
          rcases hi2 with rfl | rfl | rfl | rfl | rfl | rfl | rfl | rfl | rfl
          · exact rol_val rfl rfl rfl (by rw [hz]; decide) (ex_move (Or.inl rfl) (eval_slot (hF 11 (by decide)))) hG.below
          · exact rol_val rfl rfl rfl (by rw [hz]; decide) (ex_load rfl (eval_slot ((hG.slots 10 (by decide)).trans rfl)) (ld_node (row2 (hF 9 (by decide)).1).1 (row2 (hF 9 (by decide)).1).2.1)) hG.below
          · exact rol_val rfl rfl rfl (by rw [hz]; decide) (ex_move (Or.inl rfl) (eval_slot ((hG.slots 5 (by decide)).trans rfl))) hG.below
          · exact rol_val rfl rfl rfl (by rw [hz]; decide) (ex_load rfl (eval_slot ((hG.slots 10 (by decide)).trans rfl)) (ld_node (row2 (hF 9 (by decide)).1).1 (row2 (hF 9 (by decide)).1).2.1)) hG.below
          · exact rol_val rfl rfl rfl (by rw [hz]; decide) (ex_lookup rfl (eval_slot (hF 2 (by decide))) (eval_slot (hF 3 (by decide))) (HLK.out wx hG.below)) hG.below
          · exact rol_val rfl rfl rfl (by rw [hz]; decide) (ex_build rfl (vs := #[(0, .agg #[.string (mkB z1), .string (mkB z2)]), (1, .int .i64 (fz : Int))]) (by simp only [List.map_toArray, List.map_cons, List.map_nil, eval_slot (hF 1 (by decide)), eval_slot (hF 4 (by decide))]) build_dp) hG.below
          · exact rol_newO rfl rfl rfl (by rw [hz]; decide) (x := .cells #[.string (mkB z1), .string (mkB z2), .int .i64 (fz : Int)] 46) (v := .slice (some ⟨wx.heap.size, 0, none⟩) 1 1) (ex_slice rfl (vs := #[(0, .agg #[.string (mkB z1), .string (mkB z2), .int .i64 (fz : Int)])]) (by simp only [List.map_toArray, List.map_cons, List.map_nil, eval_slot (hF 5 (by decide))]) (by go_simp)) ⟨_, rfl, rfl, heap_alloc_new _ _⟩ hG.below (Nat.le_trans HBS.out hG.new)
          · obtain ⟨v, ob, hv, hob, b, rfl, rfl, hh⟩ := hF 6 (by decide)
            exact rol_app_dp rfl rfl rfl (by rw [hz]; decide) rfl (hF 10 (by decide)) (eval_slot (hF 0 (by decide))) (eval_slot hv) (blkG.dps hh) (by have := HKK.out; omega) hG.below (Nat.le_refl _) (Nat.le_trans HBS.out hG.new) rfl rfl
          · exact rol_move rfl rfl rfl (by rw [hz]; decide) (Or.inr rfl) (hF 7 (by decide)) hG.below
        · intro a wx who hG hF
          obtain ⟨v8, ob8, fv8, fo8, fp8⟩ := hF 8 (of_decide_eq_true (by kernel_rfl)) (of_decide_eq_true (by kernel_rfl))
          replace fv8 : a.tmps.getD 8 undef = v8 := eval_slot (s := 8) fv8
          have hbx := hG.below
          have hnx := hG.new
          rw [hG.frame]
          simp only [List.foldl_cons, List.foldl_nil, List.setIfInBounds_toArray, List.set_cons_zero, List.set_cons_succ]
          generalize a.tmps.getD 31 undef = u31
          generalize a.tmps.getD 32 undef = u32
          generalize a.tmps.getD 33 undef = u33
          generalize a.tmps.getD 34 undef = u34
          generalize a.tmps.getD 35 undef = u35
          generalize a.tmps.getD 36 undef = u36
          generalize a.tmps.getD 37 undef = u37
          generalize a.tmps.getD 38 undef = u38
          rw [fv8]
          clear hF hG fv8
          obtain ⟨hrow, -⟩ := fp8
          have HRW := Lib.hid hrow; have HBN := Lib.hid hbx
          clear fo8 hrow hbx hnx
          go_wp2
          go_roundw
          case rel => exact ⟨_, k + 1, rfl, by omega, by go_num, Lib.hid (by rw [HDT.out]; exact HRW.out), HBN⟩
          case measure => simp [intOf]; omega
      · have e : k = q := by omega
        subst e
        have htk := List.take_of_length_le (i := k) (l := D) (by rw [HDL.out]; exact Nat.le_refl _)
        rw [htk] at HO
        go_wp2
        go_ret2
        refine ⟨_, rfl, ?_, below_step B5.out HB.out⟩
        rw [HDL.out]
        exact row_base HO.out B5.out.size
end Go.Proofs.YtdefphacdcbljaaGreat
