/- The library's sort at nodes, and what it leaves: a list's nodes in order. -/
import Derived.Test.YtnngfcjfhhfafaaGreatOctT
import Derived.Test.YtnngfcjfhhfafaaGreatNodI
import Derived.Shelf.SlSortCmp.NoneTotal
namespace Go.Proofs.YtnngfcjfhhfafaaGreat
open Go.RowKit
set_option maxRecDepth 100000

abbrev NdS := {n : Nd // okN n = true ∧ smallN n}
def encS (x : NdS) : List Value := [.string (mkB x.1.1), .string (mkB x.1.2)]
def cmpS (x y : NdS) : Int := ordN x.1 y.1
theorem lt_cmpS (x y : NdS) : ltOf cmpS x y = ltN x.1 y.1 := rfl
theorem swo_cmpS : Sort.SWO (ltOf cmpS) where
  irrefl x := ltN_irrefl x.1
  trans x y z h k := ltN_trans h k
  ntrans x y z h k := by
    rw [lt_cmpS, ltN_no] at *
    have e1 := ordN_swap x.1 y.1
    have e2 := ordN_swap y.1 z.1
    have e3 := ordN_swap x.1 z.1
    have := (ordN_trans z.1 y.1 x.1 (by omega) (by omega)).1
    omega
theorem cmplaysS [Inhabited NdS] (blk off size : Nat) (w : World) : CmpLays Tryz.prog 69 #[] encS 2 cmpS blk off size w := fun _ _ _ _ x y =>
  (norder_bel x.1.1 x.1.2 y.1.1 y.1.2 _ x.2.2.2 y.2.2.2 x.2.1 y.2.1).mono fun _ _ ⟨he, hb⟩ => ⟨he, hb.grows⟩

/-! ### A row of nodes -/
theorem flat_nds [Inhabited NdS] (d : Array NdS) : (Sort.flatK encS 2 d).toList = ndsC (d.toList.map (·.1)) := by
  apply List.ext_getElem?
  intro t
  by_cases ht : t < d.size * 2
  · obtain ⟨j, hj⟩ : ∃ j, t / 2 = j := ⟨_, rfl⟩
    have hjd : j < d.size := by omega
    have hjl : j < (d.toList.map (·.1)).length := by simpa using hjd
    obtain ⟨h0, h1⟩ := ndsC_at (d.toList.map (·.1)) j hjl
    have hd : (d.toList.map (·.1)).getD j ([], []) = (d[j]!).1 := by rw [nd_getD hjl, getElem!_pos d j hjd]; simp
    rw [hd] at h0 h1
    have e : (Sort.flatK encS 2 d).toList[t]? = some ((encS d[j]!)[t % 2]!) := by simp [Sort.flatK, ht, hj]
    rw [e]
    rcases Nat.mod_two_eq_zero_or_one t with hm | hm
    · have e2 : t = j * 2 := by omega
      rw [hm, e2, h0]; rfl
    · have e2 : t = j * 2 + 1 := by omega
      rw [hm, e2, h1]; rfl
  · rw [List.getElem?_eq_none (by simp; omega), List.getElem?_eq_none (by rw [ndsC_len]; simp; omega)]
theorem holds_row {w : World} {g : Nat} {cur F : Array Value} {e : TypeId} (hb : w.heap[g]? = some (.cells cur e (0, 0))) (ht : cur.toList.take F.size = F.toList) : Sort.Holds id w g 0 F := by
  intro j hj
  refine ⟨?_, by simp [World.frozen?, hb]⟩
  have h1 : (cur.toList.take F.size)[j]? = F.toList[j]? := by rw [ht]
  rw [List.getElem?_take_of_lt hj] at h1
  simp only [World.cell?, hb, Nat.zero_add]
  simp only [Option.isSome_none, Bool.false_eq_true, if_false]
  rw [← Array.getElem?_toList, h1]
  simp [hj]
theorem heap_row {w : World} {g n : Nat} {os : Array Obj} {cur : Array Value} {e : TypeId} {fr : Nat × Nat} (F : Array Value) (hb : w.heap[g]? = some (.cells cur e fr)) :
    (Sort.grow (Sort.putRow id (Sort.ahead w n) g 0 F) os).heap[g]? = some (.cells (Sort.putCells id 0 F cur) e fr) := by
  have hg : g < w.heap.size := (Array.getElem?_eq_some_iff.1 hb).1
  rw [Sort.heap_grow_old _ _ (by simpa using hg)]
  simp [Sort.putRow, Sort.mapBlock, Sort.ahead, Array.getElem?_modify, hb, Sort.onCells]
theorem grownBy_row {w : World} {g n : Nat} {os : Array Obj} (F : Array Value) : w.grownBy (Sort.grow (Sort.putRow id (Sort.ahead w n) g 0 F) os) (some g) := by
  refine ⟨rfl, rfl, rfl, by simp, fun k hk hne => ?_⟩
  rw [Sort.heap_grow_old _ _ (by simpa using hk)]
  have : g ≠ k := fun e => hne (by rw [e])
  simp [Sort.putRow, Sort.mapBlock, Sort.ahead, Array.getElem?_modify, this]
theorem take_row (cur F : Array Value) (h : F.size ≤ cur.size) : (Sort.putCells id 0 F cur).toList.take F.size = F.toList := by
  apply List.ext_getElem?
  intro j
  by_cases hj : j < F.size
  · rw [List.getElem?_take_of_lt hj, Array.getElem?_toList]
    simp [Sort.putCells, hj, show j < cur.size by omega]
  · rw [List.getElem?_take_eq_none (by omega), List.getElem?_eq_none (by simp; omega)]

theorem rises_sorted [Inhabited NdS] {d d' : Array NdS} (hp : Sort.PermIn 0 d.size d d') (hs : Sort.SortedIn (ltOf cmpS) 0 d.size d') (hn : (d.toList.map (·.1)).Nodup) :
    Rises (d'.toList.map (·.1)) ∧ (∀ n, n ∈ d'.toList.map (·.1) ↔ n ∈ d.toList.map (·.1)) ∧ d'.size = d.size := by
  obtain ⟨hsz, _, hperm⟩ := hp
  have e : d.extract 0 d.size = d := by simp
  have e' : d'.extract 0 d.size = d' := by rw [← hsz]; simp
  rw [e, e'] at hperm
  have hpm : (d'.toList.map (·.1)).Perm (d.toList.map (·.1)) := hperm.map _
  have hn' : (d'.toList.map (·.1)).Nodup := hpm.nodup_iff.2 hn
  refine ⟨?_, fun n => hpm.mem_iff, hsz⟩
  show List.Pairwise _ _
  rw [List.pairwise_iff_getElem]
  intro i j hi hj hij
  have h1 : i < d'.size := by simpa using hi
  have h2 : j < d'.size := by simpa using hj
  have h := hs i j (Nat.zero_le _) hij (by omega)
  rw [lt_cmpS, getElem!_pos d' j h2, getElem!_pos d' i h1] at h
  have g1 : (d'.toList.map (·.1))[i] = d'[i].1 := by simp
  have g2 : (d'.toList.map (·.1))[j] = d'[j].1 := by simp
  rw [g1, g2]
  rcases ltN_tri d'[i].2.1 d'[j].2.1 with k | k | k
  · exact k
  · have e : i = j := (List.getElem_inj hn').1 (by rw [g1, g2, k])
    omega
  · rw [k] at h; cases h

/-! ### The sort of a row of the call's own -/
theorem nsort_any (w : World) (base : Nat) (v : Value) (ss : List Nd) (hown : w.ownsRow base 24 2 v ss.length (ndsC ss)) (hok : ∀ n ∈ ss, okN n = true ∧ smallN n) (hn : ss.Nodup) (hlen : ss.length ≤ 1000000) :
    Calls Tryz.prog 83 #[v, .func (.func 69) #[] #[]] w fun e w' => e = .returned (.tuple #[]) ∧ ∃ ts, Rises ts ∧ (∀ n, n ∈ ts ↔ n ∈ ss) ∧ ts.length = ss.length ∧ w'.ownsRow base 24 2 v ts.length (ndsC ts) ∧ w.grownBy w' v.ownBlock := by
  rcases ss with _ | ⟨x, ss'⟩
  · have hnil : ∃ p c, v = .slice p 0 c := by
      rcases hown.2 with ⟨rfl, _⟩ | ⟨g, cap, cur, rfl, _⟩
      · exact ⟨_, _, rfl⟩
      · exact ⟨_, _, rfl⟩
    obtain ⟨p, c, rfl⟩ := hnil
    exact (AnyF.slices_SortFunc_none Tryz.sortN p c (.func (.func 69) #[] #[]) w).mono fun _ w' ⟨he, hw⟩ => by
      subst hw
      exact ⟨he, [], List.Pairwise.nil, fun _ => Iff.rfl, rfl, hown, ⟨rfl, rfl, rfl, Nat.le_refl _, fun _ _ _ => rfl⟩⟩
  · haveI : Inhabited NdS := ⟨⟨x, hok x (by simp)⟩⟩
    obtain ⟨ss, hss⟩ : ∃ ss, x :: ss' = ss := ⟨_, rfl⟩
    have hpos : 0 < ss.length := by rw [← hss]; simp
    rw [hss] at hown hok hn hlen ⊢
    clear hss
    obtain ⟨d, hd⟩ : ∃ d : Array NdS, d.toList.map (·.1) = ss := ⟨(ss.attach.map fun n => ⟨n.1, hok n.1 n.2⟩).toArray, by rw [List.toList_toArray, List.map_map]; exact List.attach_map_subtype_val ss⟩
    have hds : d.size = ss.length := by rw [← hd]; simp
    rcases hown.2 with ⟨rfl, h0⟩ | ⟨g, cap, cur, rfl, hbase, hb, h1, h2, h3, h4⟩
    · omega
    · have hF := flat_nds d
      rw [hd] at hF
      have hFs : (Sort.flatK encS 2 d).size = ss.length * 2 := by rw [Sort.size_flatK, hds]
      have hH : Sort.HoldsK encS 2 w g 0 d := holds_row hb (by rw [hFs, hF]; exact h4)
      have hg : g < w.heap.size := (Array.getElem?_eq_some_iff.1 hb).1
      have eg : ∀ args w, (callFunc 69 args).run Tryz.prog w = .ok (.enter 69 args) w := enters_of Tryz.func69 (by kernel_rfl) rfl
      have hcon := AnyQ.slices_SortFunc Tryz.sortN 2 Tryz.isAgg24 Tryz.sizeOf24 encS (fun _ => rfl) (fun x v hv => by simp [encS] at hv; rcases hv with rfl | rfl <;> rfl) cmpS swo_cmpS 69 #[] g 0 cap d w eg (cmplaysS g 0 d.size w) hH hg (by omega)
      rw [hds] at hcon
      refine hcon.mono ?_
      rintro e w' ⟨rfl, d', n, os, hp, hs, rfl⟩
      rw [← hds] at hp hs
      obtain ⟨hr, hm, hsz⟩ := rises_sorted hp hs (by rw [hd]; exact hn)
      have hF' := flat_nds d'
      have hFs' : (Sort.flatK encS 2 d').size = ss.length * 2 := by rw [Sort.size_flatK, hsz, hds]
      have hl : (d'.toList.map (·.1)).length = ss.length := by simp [hsz, hds]
      have h5 := Nat.mul_le_mul_right 2 h1
      refine ⟨rfl, d'.toList.map (·.1), hr, fun n => by rw [hm, hd], hl, ?_, ?_⟩
      · refine ⟨by rw [ndsC_len], .inr ⟨g, cap, _, by rw [hl], hbase, heap_row _ hb, by omega, h2, by simp [Sort.putCells, h3], ?_⟩⟩
        rw [hl, ← hFs', ← hF']
        exact take_row cur _ (by omega)
      · exact grownBy_row _
end Go.Proofs.YtnngfcjfhhfafaaGreat
