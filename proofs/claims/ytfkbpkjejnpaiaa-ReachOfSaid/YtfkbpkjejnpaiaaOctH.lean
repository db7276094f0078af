/- Aids of the laws of octet: what comes in, and what the calls leave. -/
import Derived.Test.YtfkbpkjejnpaiaaOctG
import Derived.OpenShut
import Derived.Laws.BytesArg
import Derived.Test.YtfkbpkjejnpaiaaOctM
namespace Go.Proofs.Ytfkbpkjejnpaiaa
open Go.RowKit
set_option maxRecDepth 100000

theorem Ints.nil (w : World) : Ints w (.slice none 0 0) [] := ⟨none, 0, rfl, Nat.le_refl _, by unfold maxLen; omega, fun _ => rfl, fun h => absurd h (by simp)⟩
theorem Ints.of_row {w : World} {x : Addr} {len cap : Nat} {zs : List Int} (hl : len ≤ cap) (hm : cap ≤ maxLen) (hz : zs.length = cap)
    (hc : ∀ i, i < zs.length → w.cell? (x.add i) = some (.int .i64 (zs.getD i 0))) : Ints w (.slice (some x) len cap) (zs.take len) := by
  have e : (zs.take len).length = len := by simp; omega
  refine ⟨some x, cap, by rw [e], by omega, hm, (fun h => by cases h), fun hp => ?_⟩
  rw [e] at hp ⊢
  obtain ⟨b, off, spot⟩ := x
  have h0 := hc 0 (by omega)
  have hspot : spot = none := by simpa [Addr.add] using World.cell?_spot h0
  subst hspot
  refine ⟨b, off, rfl, ?_, fun j hj => ?_⟩
  · have := World.block_lt_of_cell? w _ h0
    simpa [Addr.add] using this
  · have h1 := hc j (by omega)
    have h2 : (⟨b, off, none⟩ : Addr).add j = ⟨b, off + j, none⟩ := by unfold Addr.add; split <;> simp_all
    rw [h2] at h1
    rw [h1]
    congr 2
    simp only [List.getD_eq_getElem?_getD, List.getElem?_take, if_pos hj]

theorem Ints.cut {w : World} {a : Option Addr} {len cap : Nat} {zs : List Int} (h : Ints w (.slice a len cap) zs) (k : Nat) (hk : k ≤ len) : Ints w (.slice a k cap) (zs.take k) := by
  obtain ⟨a', c', hv, h1, h2, hn, h3⟩ := h.ex
  injection hv with e1 e2 e3
  subst e1 e2 e3
  have e : (zs.take k).length = k := by simp; omega
  refine ⟨a, cap, by rw [e], by omega, h2, hn, fun hp => ?_⟩
  rw [e] at hp ⊢
  obtain ⟨b, off, ha, hlt, hc⟩ := h3 (by omega)
  refine ⟨b, off, ha, hlt, fun j hj => ?_⟩
  rw [hc j (by omega)]
  congr 2
  simp only [List.getD_eq_getElem?_getD, List.getElem?_take, if_pos hj]

/-- A literal, in a block of its own. -/
theorem Ints.lit (w : World) (cs : Array Value) (zs : List Int) (t : TypeId) (h : cs = (zs.map (Value.int .i64)).toArray) (hl : zs.length ≤ 1000) :
    Ints (w.alloc (.cells cs t)) (.slice (some ⟨w.heap.size, 0, none⟩) zs.length zs.length) zs := by
  subst h
  refine ⟨_, _, rfl, Nat.le_refl _, by unfold maxLen; omega, (fun h => by cases h), fun _ => ⟨w.heap.size, 0, rfl, by simp, fun j hj => ?_⟩⟩
  have hh : (w.alloc (.cells (zs.map (Value.int .i64)).toArray t)).heap[w.heap.size]? = some (.cells (zs.map (Value.int .i64)).toArray t) := heap_alloc_new _ _
  simp only [World.cell?, hh, Nat.zero_add]
  simp [List.getD_eq_getElem?_getD, List.getElem?_eq_getElem hj]
theorem Ints.lit1 (w : World) (x : Int) (t : TypeId) : Ints (w.alloc (.cells #[.int .i64 x] t)) (.slice (some ⟨w.heap.size, 0, none⟩) 1 1) [x] :=
  Ints.lit w _ [x] t rfl (by simp)

theorem hasB_one (x y : Int) : hasB [x] y = decide (y = x) := by simp [hasB]
theorem allB_nil (l : List UInt8) : allB l [] = l.isEmpty := by cases l <;> simp [allB, hasB]
theorem allB_ten (l : List UInt8) : allB l [0, 1, 2, 3, 4, 5, 6, 7, 8, 9] = true := by
  unfold allB
  rw [List.all_eq_true]
  intro c _
  have hb := clsI_bd c.toNat (by omega) (by have := UInt8.toNat_lt c; omega)
  obtain ⟨y, hy⟩ : ∃ y, y = clsI c.toNat := ⟨_, rfl⟩
  rw [← hy] at hb ⊢
  unfold hasB
  rw [decide_eq_true_eq]
  simp only [List.mem_cons, List.not_mem_nil, or_false]
  omega

theorem Ints.owned {w : World} {base : Nat} {e : TypeId} {v : Value} {n : Nat} {ls : List Int} (h : w.ownsRow base e 1 v n (ls.map (Value.int .i64))) (hn : n = ls.length) : Ints w v ls := by
  subst hn
  rcases Joins.ownsRow_forms h with ⟨rfl, h0⟩ | ⟨g, cap, rfl⟩
  · have : ls = [] := List.eq_nil_of_length_eq_zero h0
    subst this
    exact Ints.nil w
  · have hlt := h.lt g rfl
    have hcap : ls.length ≤ cap ∧ cap ≤ maxLen := by
      obtain ⟨_, h | ⟨g', cap', cur, hv, _, _, h1, h2, _⟩⟩ := h
      · cases h.1
      · injection hv with _ _ hc; subst hc; exact ⟨h1, h2⟩
    refine ⟨some ⟨g, 0, none⟩, cap, rfl, hcap.1, hcap.2, (fun h => by cases h), fun _ => ⟨g, 0, rfl, hlt.2, fun j hj => ?_⟩⟩
    rw [Nat.zero_add, h.cellAt j (by omega), List.getElem?_map, List.getD_eq_getElem?_getD, List.getElem?_eq_getElem hj]
    rfl
/-- What 'append(.., l...)' asks of the slice that is appended. -/
theorem Ints.src {w : World} {a : Option Addr} {m c : Nat} {zs : List Int} (h : Ints w (.slice a m c) zs) :
    m = zs.length ∧ (a = none → m = 0 ∧ c = 0) ∧ (∀ ad, a = some ad → ∀ j u, (zs.map (Value.int .i64))[j]? = some u → w.cell? (ad.add j) = some u) := by
  obtain ⟨a', c', hv, h1, h2, hn, h3⟩ := h.ex
  injection hv with e1 e2 e3
  subst e1 e2 e3
  refine ⟨rfl, fun h => ⟨by have := hn h; omega, hn h⟩, fun ad ha j u hu => ?_⟩
  have hj : j < zs.length := by
    rcases Nat.lt_or_ge j zs.length with h | h
    · exact h
    · rw [List.getElem?_eq_none (by simpa using h)] at hu; cases hu
  obtain ⟨b, off, ha', _, hc⟩ := h3 (by omega)
  rw [ha] at ha'
  injection ha' with ha'
  subst ha'
  have h2 : (⟨b, off, none⟩ : Addr).add j = ⟨b, off + j, none⟩ := by unfold Addr.add; split <;> simp_all
  rw [h2, hc j hj, ← hu, List.getElem?_map, List.getD_eq_getElem?_getD, List.getElem?_eq_getElem hj]
  rfl
theorem Ints.cell {w : World} {b off m c : Nat} {zs : List Int} (h : Ints w (.slice (some ⟨b, off, none⟩) m c) zs) (j : Nat) (hj : j < m) : w.cell? ⟨b, off + j, none⟩ = some (.int .i64 (zs.getD j 0)) := by
  obtain ⟨a', c', hv, h1, h2, hn, h3⟩ := h.ex
  injection hv with e1 e2 e3
  subst e1 e2 e3
  obtain ⟨b', off', ha', _, hc⟩ := h3 (by omega)
  injection ha' with ha'
  injection ha' with hb' ho'
  subst hb' ho'
  exact hc j hj
theorem Ints.some {w : World} {a : Option Addr} {m c : Nat} {zs : List Int} (h : Ints w (.slice a m c) zs) (hm : 0 < m) : ∃ b off, a = some ⟨b, off, none⟩ := by
  obtain ⟨a', c', hv, h1, h2, hn, h3⟩ := h.ex
  injection hv with e1 e2 e3
  subst e1 e2 e3
  obtain ⟨b', off', ha', _, hc⟩ := h3 (by omega)
  exact ⟨b', off', ha'⟩
theorem Try.info_int : (Try.prog.info? 3).map (fun i => (i.zero, i.size, i.bytes)) = some (some (.int .i64 0), 1, 8) := by kernel_rfl
/-- What 'append(.., l...)' asks of the texts that are appended. -/
theorem Strs.src {w : World} {a : Option Addr} {m c : Nat} {zs : List (List UInt8)} (h : Strs w (.slice a m c) zs) :
    m = zs.length ∧ (a = none → m = 0 ∧ c = 0) ∧ (∀ ad, a = some ad → ∀ j u, (zs.map strV)[j]? = some u → w.cell? (ad.add j) = some u) := by
  obtain ⟨a', c', hv, h1, h2, hn, h3⟩ := h.ex
  injection hv with e1 e2 e3
  subst e1 e2 e3
  refine ⟨rfl, fun h => ⟨by have := hn h; omega, hn h⟩, fun ad ha j u hu => ?_⟩
  have hj : j < zs.length := by
    rcases Nat.lt_or_ge j zs.length with h | h
    · exact h
    · rw [List.getElem?_eq_none (by simpa using h)] at hu; cases hu
  obtain ⟨b, off, ha', _, hc⟩ := h3 (by omega)
  rw [ha] at ha'
  injection ha' with ha'
  subst ha'
  have h2 : (⟨b, off, none⟩ : Addr).add j = ⟨b, off + j, none⟩ := by unfold Addr.add; split <;> simp_all
  rw [h2, hc j hj, ← hu, List.getElem?_map, List.getD_eq_getElem?_getD, List.getElem?_eq_getElem hj]
  rfl
theorem strs_one (zs : List (List UInt8)) : ((zs.map strV).all fun u => u.oneCell') = true := by
  rw [List.all_eq_true]
  intro u hu
  obtain ⟨z, _, rfl⟩ := List.mem_map.1 hu
  rfl
theorem ints_one (zs : List Int) : ((zs.map (Value.int .i64)).all fun u => u.oneCell') = true := by
  rw [List.all_eq_true]
  intro u hu
  obtain ⟨z, _, rfl⟩ := List.mem_map.1 hu
  rfl

theorem allB_cat (a b : List UInt8) (zs : List Int) : allB (a ++ b) zs = (allB a zs && allB b zs) := by simp [allB]
theorem allB_more (a : List UInt8) (zs ys : List Int) (h : allB a zs = true) (hs : ∀ z ∈ zs, z ∈ ys) : allB a ys = true := by
  unfold allB hasB at *
  rw [List.all_eq_true] at *
  intro c hc
  have := h c hc
  rw [decide_eq_true_eq] at *
  exact hs _ this

theorem ownsRow_below {w w' : World} {base : Nat} {e : TypeId} {size : Nat} {v : Value} {n : Nat} {xs : List Value} (h : w.ownsRow base e size v n xs) (hb : Bel w.heap.size w w') : w'.ownsRow base e size v n xs := by
  obtain ⟨h1, h2⟩ := h
  refine ⟨h1, h2.imp id ?_⟩
  rintro ⟨g, cap, cur, hv, hg, hh, h3⟩
  have hlt : g < w.heap.size := (Array.getElem?_eq_some_iff.1 hh).1
  exact ⟨g, cap, cur, hv, hg, (hb.block g hlt).trans hh, h3⟩
/-- 'string([]byte{c})' -/
def byteS (c : Int) : ByteArray := ⟨#[UInt8.ofNat c.toNat]⟩
theorem byteS_at (c : Int) (h0 : 0 ≤ c) (h1 : c ≤ 255) : ((byteS c).data.toList) = [UInt8.ofNat c.toNat] ∧ ((UInt8.ofNat c.toNat).toNat : Int) = c := by
  refine ⟨rfl, ?_⟩
  rw [UInt8.toNat_ofNat_of_lt' (by rw [UInt8.size]; omega)]
  omega
theorem splitL_cat (c : Int) (x : UInt8) (hx : (x.toNat : Int) = c) (b : List UInt8) : ∀ a : List UInt8, splitL c (a ++ x :: b) = splitL c a ++ splitL c b
  | [] => by simp [splitL, hx]
  | y :: a => by
    rw [List.cons_append, splitL, splitL, splitL_cat c x hx b a]
    split
    · rfl
    · have := splitL_ne c a
      cases e : splitL c a with
      | nil => exact absurd e this
      | cons u l => rfl

theorem sameB_refl (a : List (List UInt8)) : sameB a a = true := by simp [sameB]

theorem comL_le : ∀ (a b : List UInt8), comL a b ≤ a.length ∧ comL a b ≤ b.length
  | [], _ => by simp [comL]
  | _ :: _, [] => by simp [comL]
  | x :: a, y :: b => by
    have := comL_le a b
    rw [comL]
    split
    · simp; omega
    · simp
theorem comL_take : ∀ (a b : List UInt8), a.take (comL a b) = b.take (comL a b)
  | [], _ => by simp [comL]
  | _ :: _, [] => by simp [comL]
  | x :: a, y :: b => by
    have := comL_take a b
    rw [comL]
    split
    · rename_i h; subst h; simpa using this
    · simp
theorem comL_ne : ∀ (a b : List UInt8) (h1 : comL a b < a.length) (h2 : comL a b < b.length), a[comL a b] ≠ b[comL a b]
  | [], _, h, _ => by simp at h
  | _ :: _, [], _, h => by simp at h
  | x :: a, y :: b, h1, h2 => by
    by_cases h : x = y
    · have e : comL (x :: a) (y :: b) = comL a b + 1 := by rw [comL, if_pos h]
      have k1 : comL a b < a.length := by rw [e] at h1; simpa using h1
      have k2 : comL a b < b.length := by rw [e] at h2; simpa using h2
      have := comL_ne a b k1 k2
      simpa [e] using this
    · have e : comL (x :: a) (y :: b) = 0 := by rw [comL, if_neg h]
      simpa [e] using h

theorem comL_pre (a b : List UInt8) : ∀ c : List UInt8, comL (c ++ a) (c ++ b) = c.length + comL a b
  | [] => by simp
  | x :: c => by rw [List.cons_append, List.cons_append, comL, if_pos rfl, comL_pre a b c, List.length_cons]; omega

theorem com_ext (x y : ByteArray) (m : Nat) (hm : m = comL x.data.toList y.data.toList) : (!(x.extract 0 m).toList == (y.extract 0 m).toList) = false := by
  subst hm
  have h := comL_take x.data.toList y.data.toList
  rw [Lib.extract_toList, Lib.extract_toList, List.drop_zero, List.drop_zero, Nat.sub_zero, h]
  simp
theorem com_at (x y : ByteArray) (m : Nat) (hm : m = comL x.data.toList y.data.toList) (h1 : m < x.size) (h2 : m < y.size) : ((x[m].toNat : Int) == (y[m].toNat : Int)) = false := by
  have h := comL_ne x.data.toList y.data.toList (by rw [← hm]; simpa using h1) (by rw [← hm]; simpa using h2)
  rw [beq_eq_false_iff_ne]
  intro e
  apply h
  have e2 : x[m] = y[m] := (u8_ne_iff _ _).2 e
  subst hm
  exact e2
theorem com_bd (x y : ByteArray) (m : Nat) (hm : m = comL x.data.toList y.data.toList) : m ≤ x.size ∧ m ≤ y.size := by
  have := comL_le x.data.toList y.data.toList
  subst hm
  rw [Lib.size_eq, Lib.size_eq y]
  exact this

theorem fewB_size (s : ByteArray) : (fewB s).size ≤ 400 := by
  unfold fewB
  split
  · simp; omega
  · omega
end Go.Proofs.Ytfkbpkjejnpaiaa
