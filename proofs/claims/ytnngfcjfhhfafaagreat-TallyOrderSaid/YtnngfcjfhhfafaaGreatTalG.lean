/- A version put into a path's versions, and taken out of them: the library's Insert and Delete. -/
import Derived.Test.YtnngfcjfhhfafaaGreatTalF
import Derived.Test.YtnngfcjfhhfafaaGreatOctU
import Derived.Lib.RowBridge
namespace Go.Proofs.YtnngfcjfhhfafaaGreat
open Go.RowKit
set_option linter.unusedVariables false
set_option maxRecDepth 100000

theorem heap_setCellT {w : World} {g o : Nat} {cur : Array Value} {t : TypeId} {fr : Nat × Nat} (h : w.heap[g]? = some (.cells cur t fr)) (v : Value) : (w.setCell ⟨g, o, none⟩ v).heap[g]? = some (.cells (cur.setIfInBounds o v) t fr) := by
  simp [World.setCell, Array.getElem?_modify, h]
theorem heap_setCellsT {g : Nat} {t : TypeId} {fr : Nat × Nat} : ∀ (vs : List Value) (o : Nat) (w : World) (cur : Array Value), w.heap[g]? = some (.cells cur t fr) → o + vs.length ≤ cur.size → ∃ cur', (w.setCells g o vs).heap[g]? = some (.cells cur' t fr) ∧ cur'.size = cur.size ∧ cur'.toList = cur.toList.take o ++ (vs ++ cur.toList.drop (o + vs.length))
  | [], o, w, cur, h, _ => ⟨cur, h, rfl, by simp⟩
  | v :: r, o, w, cur, h, hl => by
    rw [List.length_cons] at hl
    obtain ⟨cur', h1, h2, h3⟩ := heap_setCellsT r (o + 1) (w.setCell ⟨g, o, none⟩ v) _ (heap_setCellT h v) (by rw [Array.size_setIfInBounds]; omega)
    refine ⟨cur', h1, by rw [h2, Array.size_setIfInBounds], ?_⟩
    have hlen : o < cur.toList.length := by rw [Array.length_toList]; omega
    have e1 : (cur.toList.set o v).take (o + 1) = cur.toList.take o ++ [v] := by
      rw [List.take_succ_eq_append_getElem (by rw [List.length_set]; exact hlen), List.take_set_of_le (Nat.le_refl _)]
      simp
    have e2 : (cur.toList.set o v).drop (o + 1 + r.length) = cur.toList.drop (o + (v :: r).length) := by
      rw [List.drop_set_of_lt (by omega), List.length_cons]; congr 1; omega
    rw [h3, Array.toList_setIfInBounds, e1, e2]
    simp
theorem grown_setCells (g : Nat) : ∀ (vs : List Value) (o : Nat) (w : World), w.grownBy (w.setCells g o vs) (some g)
  | [], _, _ => ⟨rfl, rfl, rfl, Nat.le_refl _, fun _ _ _ => rfl⟩
  | v :: r, o, w => by
    have ih := grown_setCells g r (o + 1) (w.setCell ⟨g, o, none⟩ v)
    have hs : (w.setCell ⟨g, o, none⟩ v).heap.size = w.heap.size := by simp [World.setCell]
    refine ⟨ih.os, ih.tape, ih.output, by rw [← hs]; exact ih.size, fun k hk hne => ?_⟩
    exact (ih.block k (by rw [hs]; exact hk) hne).trans (Below.heap_setCell _ ⟨g, o, none⟩ _ k (fun e => hne (by rw [e])))
theorem grown_ofdrew {w w' : World} {ob : Option Nat} (h : w.drew.grownBy w' ob) : w.grownBy w' ob := ⟨h.os, h.tape, h.output, h.size, h.block⟩
theorem grown_drew {w w' : World} {ob : Option Nat} (h : w.grownBy w' ob) : w.grownBy w'.drew ob := ⟨h.os, h.tape, h.output, h.size, h.block⟩
theorem grown_two {w w1 w2 : World} {ob : Option Nat} (h : w.grownBy w1 ob) (k : w1.grownBy w2 ob) : w.grownBy w2 ob :=
  ⟨k.os.trans h.os, k.tape.trans h.tape, k.output.trans h.output, Nat.le_trans h.size k.size, fun j hj hne => (k.block j (Nat.lt_of_lt_of_le hj h.size) hne).trans (h.block j hj hne)⟩
/-- What is written into a block that was made turns none of before. -/
theorem grown_fresh {w w1 w2 : World} {ob : Option Nat} {g : Nat} (h : w.grownBy w1 ob) (hg : w.heap.size ≤ g) (k : w1.grownBy w2 (some g)) : w.grownBy w2 ob :=
  ⟨k.os.trans h.os, k.tape.trans h.tape, k.output.trans h.output, Nat.le_trans h.size k.size, fun j hj hne => (k.block j (Nat.lt_of_lt_of_le hj h.size) (fun e => by cases e; omega)).trans (h.block j hj hne)⟩
theorem own_of {w : World} {g cap n base : Nat} {cur : Array Value} {xs : List Value} (h : w.heap[g]? = some (.cells cur 9 (0, 0))) (hg : base ≤ g) (hnc : n ≤ cap) (hcm : cap ≤ maxLen) (hsz : cur.size = cap) (hl : xs.length = n) (hx : cur.toList.take n = xs) : w.ownsRow base 9 1 (.slice (some ⟨g, 0, none⟩) n cap) n xs :=
  ⟨by rw [hl, Nat.mul_one], .inr ⟨g, cap, cur, rfl, hg, h, hnc, hcm, by rw [hsz, Nat.mul_one], by rw [Nat.mul_one]; exact hx⟩⟩

section
variable {α : Type}
theorem shift_list (cur : List α) (n i : Nat) (x : α) (c1 c2 : List α) (hi : i ≤ n) (hn : n + 1 ≤ cur.length) (h1 : c1 = cur.take (i + 1) ++ ((cur.take n).drop i ++ cur.drop (i + 1 + ((cur.take n).drop i).length))) (h2 : c2 = c1.take i ++ ([x] ++ c1.drop (i + [x].length))) :
    c2.take (n + 1) = (cur.take n).take i ++ x :: (cur.take n).drop i := by
  have a1 : c1.take i = (cur.take n).take i := by
    rw [h1, List.take_append_of_le_length (by rw [List.length_take]; omega), List.take_take, List.take_take, Nat.min_eq_left (by omega), Nat.min_eq_left hi]
  have a2 : c1.drop (i + [x].length) = (cur.take n).drop i ++ cur.drop (i + 1 + ((cur.take n).drop i).length) := by
    rw [h1]; exact List.drop_left' (by rw [List.length_take]; simp; omega)
  rw [h2, a1, a2, ← List.append_assoc, ← List.append_assoc, List.take_left' (by simp; omega)]
  simp
theorem grow_list (cs c0 c1 c2 Z : List α) (n i : Nat) (x : α) (hi : i ≤ n) (hn : cs.length = n) (h0 : c0 = cs.take i ++ Z) (h1 : c1 = c0.take i ++ ([x] ++ c0.drop (i + [x].length))) (h2 : c2 = c1.take (i + 1) ++ (cs.drop i ++ c1.drop (i + 1 + (cs.drop i).length))) :
    c2.take (n + 1) = cs.take i ++ x :: cs.drop i := by
  have a0 : c0.take i = cs.take i := by rw [h0]; exact List.take_left' (by rw [List.length_take]; omega)
  have a1 : c1.take (i + 1) = cs.take i ++ [x] := by
    rw [h1, a0, ← List.append_assoc]; exact List.take_left' (by simp; omega)
  rw [h2, a1, ← List.append_assoc, List.take_left' (by simp; omega)]
  simp
end
theorem strC_take (l : List (List UInt8)) (i : Nat) : (strC l).take i = strC (l.take i) := by unfold strC; rw [List.map_take]
theorem strC_drop (l : List (List UInt8)) (i : Nat) : (strC l).drop i = strC (l.drop i) := by unfold strC; rw [List.map_drop]
theorem strC_ins (l : List (List UInt8)) (i : Nat) (x : List UInt8) : (strC l).take i ++ strV x :: (strC l).drop i = strC (l.take i ++ x :: l.drop i) := by
  rw [strC_take, strC_drop]; unfold strC; rw [List.map_append, List.map_cons]
theorem ins_len (l : List (List UInt8)) {i : Nat} (x : List UInt8) (h : i ≤ l.length) : (l.take i ++ x :: l.drop i).length = l.length + 1 := by
  rw [List.length_append, List.length_cons, List.length_take, List.length_drop]; omega

theorem tins_any (V : Value) (l : List (List UInt8)) (i : Nat) (x : List UInt8) (base u : Nat) (w : World) (hown : w.ownsRow base 9 1 V l.length (strC l)) (hi : i ≤ l.length) (hu : w.heap[u]? = some (.cells #[.string (mkB x)] 9 (0, 0))) (hne : V.ownBlock ≠ some u) (hl : l.length ≤ 1000000) (hb : base ≤ w.heap.size) :
    Calls Tryz.prog 40 #[V, .int .i64 (i : Int), .slice (some ⟨u, 0, none⟩) 1 1] w fun e w' => ∃ v', e = .returned v' ∧ w'.ownsRow base 9 1 v' (l.take i ++ x :: l.drop i).length (strC (l.take i ++ x :: l.drop i)) ∧ w.grownBy w' V.ownBlock ∧ (v'.ownBlock = V.ownBlock ∨ v'.ownBlock = some w.heap.size ∧ w.heap.size < w'.heap.size) := by
  obtain ⟨n, hn⟩ : ∃ n, l.length = n := ⟨_, rfl⟩
  have hcl : (strC l).length = n := by rw [strC_len, hn, Nat.mul_one]
  have hlen := ins_len l x hi
  rw [hlen]
  rw [hn] at hown hi hl ⊢
  obtain ⟨u0, -⟩ := row1 hu
  have hvs : ∀ j v, [strV x][j]? = some v → w.cell? ⟨u, 0 + j, none⟩ = some v := fun j v hj => by
    match j, hj with
    | 0, hj => cases hj; exact u0
  have h1v : ∀ v ∈ [strV x], v.oneCell' = true := fun v hv => by rw [List.mem_singleton.1 hv]; rfl
  have h1c : ∀ v ∈ strC l, v.oneCell' = true := fun v hv => List.all_eq_true.1 (strC_one l) v hv
  have hil : (strC (l.take i ++ x :: l.drop i)).length = n + 1 := by rw [strC_len, hlen, hn, Nat.mul_one]
  have grow0 : ∀ c0, V = .slice none 0 0 ∨ (∃ g cur, V = .slice (some ⟨g, 0, none⟩) n c0 ∧ base ≤ g ∧ w.heap[g]? = some (.cells cur 9 (0, 0)) ∧ cur.size = c0 ∧ cur.toList.take n = strC l) → c0 < n + 1 → n ≤ c0 → grownCap w (n + 1) c0 9 ≤ maxLen ∧ n + 1 ≤ grownCap w (n + 1) c0 9 := fun c0 _ _ _ =>
    ⟨grownCap_le_maxLen w (n + 1) c0 9 (by unfold maxLen; omega), grownCap_ge w (n + 1) c0 9⟩
  rcases hown.2 with ⟨rfl, h0⟩ | ⟨g, cap, cur, rfl, hg, hh, hnc, hcm, hsz, htk⟩
  · subst h0
    have hi0 : i = 0 := by omega
    subst hi0
    have hl0 : l = [] := List.eq_nil_of_length_eq_zero hn
    subst hl0
    obtain ⟨q1, q2⟩ := grow0 0 (.inl rfl) (by omega) (Nat.le_refl _)
    refine (Any2.slices_Insert_string_end_grow Tryz.insS none 0 0 u 0 1 1 [] [strV x] w (by decide) (Nat.le_refl _) (by decide) (by decide) rfl rfl (fun _ => rfl) (fun a h => by cases h) hvs h1v).mono ?_
    rintro e w' ⟨rfl, rfl⟩
    refine ⟨_, rfl, ?_, ?_, .inr ⟨rfl, by simp [World.alloc]⟩⟩
    · exact own_of (heap_alloc_new w.drew _) hb q2 q1 (by rw [Array.size_append, size_zeroCells]; simp [Value.cells, Tryz.insS_ren] at q2 ⊢; omega) (by simp [strC]) (by rw [Array.toList_append]; exact List.take_left' (by simp))
    · exact grown_ofdrew (World.grownBy_alloc w.drew _ _)
  · have hsz' : cur.size = cap := by rw [hsz, Nat.mul_one]
    rw [Nat.mul_one] at htk
    have hug : u ≠ g := fun e => hne (by rw [e]; rfl)
    have hgw := (Array.getElem?_eq_some_iff.1 hh).1
    have hcs : ∀ j v, (strC l)[j]? = some v → w.cell? ⟨g, 0 + j, none⟩ = some v := fun j v hj => by
      have hjn : j < n := by have := (List.getElem?_eq_some_iff.1 hj).1; omega
      rw [Nat.zero_add, hown.cellAt j (by omega)]; exact hj
    have hsp : ∀ j, j < cap → (w.cell? ⟨g, 0 + j, none⟩).isSome = true := fun j hj => by
      rw [Nat.zero_add]; unfold World.cell?
      simp only [hh]
      rw [Array.getElem?_eq_getElem (by omega)]; rfl
    have hfz : ∀ j, w.frozen? ⟨g, 0 + j, none⟩ = false := fun j => by rw [Nat.zero_add]; exact hown.frozenAt j
    have hcap63 : cap ≤ 9223372036854775807 := by unfold maxLen at hcm; omega
    have hnl : n + 1 ≤ cap → n + 1 ≤ cur.toList.length := fun h => by rw [Array.length_toList, hsz']; exact h
    by_cases hin : i < n
    · by_cases hr : n + 1 ≤ cap
      · refine (Any2.slices_Insert_string_shift Tryz.insS g 0 n cap i u 0 1 1 (strC l) [strV x] w hin (by decide) hr hcap63 hug hcl rfl hcs (fun j hj => hsp j (by omega)) (fun j _ => hfz j) hvs h1c h1v 9 9 1 cap (by unfold World.shape?; rw [hu]; rfl) (by unfold World.shape?; rw [hh, ← hsz']) (by omega) (by unfold World.frozen?; simp only [hu]; rfl) (by unfold World.frozen?; simp only [hu]; rfl)).mono ?_
        rintro e w' ⟨rfl, rfl⟩
        rw [Nat.zero_add, Nat.zero_add]
        obtain ⟨c1, e1, s1, l1⟩ := heap_setCellsT (strC l |>.drop i) (i + 1) w.drew cur hh (by rw [List.length_drop, hcl]; omega)
        obtain ⟨c2, e2, s2, l2⟩ := heap_setCellsT [strV x] i (w.drew.setCells g (i + 1) ((strC l).drop i)) c1 e1 (by simp; omega)
        refine ⟨_, rfl, own_of e2 hg hr hcm (by omega) hil ?_, grown_ofdrew (grown_two (grown_setCells g _ _ w.drew) (grown_setCells g _ _ _)), .inl rfl⟩
        rw [← strC_ins, ← htk]
        exact shift_list cur.toList n i (strV x) c1.toList c2.toList (by omega) (hnl hr) (by rw [htk]; exact l1) l2
      · obtain ⟨q1, q2⟩ := grow0 cap (.inr ⟨g, cur, rfl, hg, hh, hsz', htk⟩) (by omega) hnc
        refine (Any2.slices_Insert_string_grow Tryz.insS g 0 n cap i u 0 1 1 (strC l) [strV x] w hin (by decide) hnc (by omega) (by omega) hcl rfl hcs hvs h1c h1v).mono ?_
        rintro e w' ⟨rfl, rfl⟩
        obtain ⟨Z, hZ⟩ : ∃ Z : Array Value, Builtin.zeroCells (Value.string ⟨#[]⟩).cells (n + 1 - i) ++ Builtin.zeroCells (Value.string ⟨#[]⟩).cells (grownCap w (n + 1) cap (Tryz.insS_ren.t 9) - (n + 1)) = Z := ⟨_, rfl⟩
        have hZs : Z.size = grownCap w (n + 1) cap 9 - i := by
          rw [← hZ, Array.size_append, size_zeroCells, size_zeroCells]
          show (n + 1 - i) * 1 + (grownCap w (n + 1) cap 9 - (n + 1)) * 1 = _
          omega
        rw [Array.append_assoc, hZ]
        have h0 := heap_alloc_new w (.cells ((List.take i (strC l)).toArray ++ Z) 9)
        have hs0 : ((List.take i (strC l)).toArray ++ Z).size = grownCap w (n + 1) cap 9 := by rw [Array.size_append, hZs]; simp [hcl]; omega
        obtain ⟨c1, e1, s1, l1⟩ := heap_setCellsT [strV x] i (w.alloc (.cells ((List.take i (strC l)).toArray ++ Z) 9)).drew _ h0 (by rw [hs0]; simp; omega)
        obtain ⟨c2, e2, s2, l2⟩ := heap_setCellsT ((strC l).drop i) (i + 1) ((w.alloc (.cells ((List.take i (strC l)).toArray ++ Z) 9)).drew.setCells w.heap.size i [strV x]).drew c1 e1 (by rw [s1, hs0, List.length_drop, hcl]; omega)
        refine ⟨_, rfl, own_of e2 hb q2 q1 (by rw [s2, s1, hs0]; rfl) hil ?_, ?_, .inr ⟨rfl, ?_⟩⟩
        · rw [← strC_ins]
          exact grow_list (strC l) _ c1.toList c2.toList Z.toList n i (strV x) (by omega) hcl (by simp) l1 l2
        · exact grown_fresh (grown_drew (grown_fresh (grown_drew (World.grownBy_alloc w _ _)) (Nat.le_refl _) (grown_setCells w.heap.size _ _ (w.alloc _).drew))) (Nat.le_refl _) (grown_setCells w.heap.size _ _ _)
        · exact (Array.getElem?_eq_some_iff.1 e2).1
    · have hin' : i = n := by omega
      subst hin'
      have hfull : l.take i ++ x :: l.drop i = l ++ [x] := by rw [List.take_of_length_le (by omega), List.drop_eq_nil_of_le (by omega)]
      rw [hfull] at hil ⊢
      by_cases hr : i + 1 ≤ cap
      · refine (Any2.slices_Insert_string_end_room Tryz.insS g 0 i cap u 0 1 1 [strV x] w (by decide) hr hcap63 rfl (fun j hj => by have := hsp (i + j) (by omega); rwa [show 0 + (i + j) = 0 + i + j by omega] at this) (fun j _ => by have := hfz (i + j); rwa [show 0 + (i + j) = 0 + i + j by omega] at this) hvs h1v).mono ?_
        rintro e w' ⟨rfl, rfl⟩
        rw [Nat.zero_add]
        obtain ⟨c1, e1, s1, l1⟩ := heap_setCellsT [strV x] i w cur hh (by simp; omega)
        refine ⟨_, rfl, own_of e1 hg hr hcm (by omega) hil ?_, grown_setCells g _ _ w, .inl rfl⟩
        rw [l1, htk, strC_app, ← List.append_assoc]
        exact List.take_left' (by simp [hcl])
      · obtain ⟨q1, q2⟩ := grow0 cap (.inr ⟨g, cur, rfl, hg, hh, hsz', htk⟩) (by omega) hnc
        refine (Any2.slices_Insert_string_end_grow Tryz.insS (some ⟨g, 0, none⟩) i cap u 0 1 1 (strC l) [strV x] w (by decide) hnc (by omega) (by omega) hcl rfl (fun h => by cases h) (fun a e j v hj => by cases e; rw [addr_add]; exact hcs j v hj) hvs h1v).mono ?_
        rintro e w' ⟨rfl, rfl⟩
        refine ⟨_, rfl, ?_, ?_, .inr ⟨rfl, by simp [World.alloc]⟩⟩
        · refine own_of (heap_alloc_new w.drew _) hb q2 q1 ?_ hil ?_
          · rw [Array.size_append, size_zeroCells]
            show (strC l ++ [strV x]).toArray.size + (grownCap w (i + 1) cap 9 - (i + 1)) * 1 = grownCap w (i + 1) cap 9
            simp [hcl]; omega
          · rw [Array.toList_append, strC_app]; exact List.take_left' (by simp [hcl])
        · exact grown_ofdrew (World.grownBy_alloc w.drew _ _)

/-! ### Taken out -/
theorem tdel_any (V : Value) (l : List (List UInt8)) (i base : Nat) (w : World) (hown : w.ownsRow base 9 1 V l.length (strC l)) (hi : i < l.length) (hl : l.length ≤ 1000000) :
    Calls Tryz.prog 41 #[V, .int .i64 (i : Int), .int .i64 ((i : Int) + 1)] w fun e w' => ∃ v', e = .returned v' ∧ w'.ownsRow base 9 1 v' (l.take i ++ l.drop (i + 1)).length (strC (l.take i ++ l.drop (i + 1))) ∧ w.grownBy w' V.ownBlock ∧ v'.ownBlock = V.ownBlock := by
  obtain ⟨n, hn⟩ : ∃ n, l.length = n := ⟨_, rfl⟩
  have hlen : (l.take i ++ l.drop (i + 1)).length = n - 1 := by rw [List.length_append, List.length_take, List.length_drop]; omega
  rw [hlen]
  rw [hn] at hown hi hl
  rcases hown.2 with ⟨rfl, h0⟩ | ⟨g, cap, cur, rfl, hg, hh, hnc, hcm, hsz, htk⟩
  · omega
  · have hH : Sort.Holds strV w g 0 l.toArray := fun j hj => by
      have hjn : j < n := by simpa [hn] using hj
      refine ⟨?_, by rw [Nat.zero_add]; exact hown.frozenAt j⟩
      rw [Nat.zero_add, hown.cellAt j (by omega)]
      unfold strC
      rw [List.getElem?_map, List.getElem?_eq_getElem (by omega)]
      simp [hn, hjn, getElem!_pos]
    obtain ⟨i0, hi0, _, hz1, _⟩ := info_parts Tryz.info_str
    have e1 : ((i : Int) + 1) = ((i + 1 : Nat) : Int) := by omega
    rw [e1]
    have hsl : l.toArray.size = n := by simp [hn]
    have key := AnyE.slices_Delete Tryz.delS strV (fun _ => rfl) [] (fun w => by exact Tryz.zeroValue9 w) i0 hi0 hz1 g 0 cap i (i + 1) l.toArray w hH (by rw [hsl]; exact hnc) (by unfold maxLen at hcm; omega) (by omega) (by rw [hsl]; omega)
    rw [hsl] at key
    refine key.mono ?_
    rintro e w' ⟨rfl, q, rfl⟩
    obtain ⟨ys, hys⟩ : ∃ ys, l.toArray.toList.take i ++ l.toArray.toList.drop (i + 1) ++ List.replicate (i + 1 - i) ([] : List UInt8) = ys := ⟨_, rfl⟩
    have hyl : ys.length = l.toArray.size := by rw [← hys, hsl]; simp; omega
    rw [hys, Lib.putRow_eq_setCells strV w g 0 l.toArray ys q hH hyl]
    obtain ⟨c1, k1, s1, l1⟩ := heap_setCellsT (ys.map strV) 0 (w.drewN q) cur hh (by rw [List.length_map, hyl, hsl, hsz]; omega)
    refine ⟨.slice (some ⟨g, 0, none⟩) (n - 1) cap, by rw [show n - (i + 1 - i) = n - 1 by omega], own_of k1 hg (by omega) hcm (by omega) (by rw [strC_len, hlen, Nat.mul_one]) ?_, grown_two (w1 := w.drewN q) ⟨rfl, rfl, rfl, Nat.le_refl _, fun _ _ _ => rfl⟩ (grown_setCells g _ _ _), rfl⟩
    rw [l1, List.take_zero, List.nil_append, ← hys, List.map_append]
    rw [List.append_assoc]
    exact List.take_left' (by rw [List.length_map]; simpa using hlen)
end Go.Proofs.YtnngfcjfhhfafaaGreat
