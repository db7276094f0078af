/- Aids of version's laws: a version in a variable. -/
import Derived.Test.YtcdflfjbdbofcaaVerR
namespace Go.Proofs.Ytcdflfjbdbofcaa
open Go.RowKit

/-- A variable holds a version. -/
structure VSlot (w : World) (g : Nat) (v : Ver) (a : Option Addr) (c : Nat) : Prop where
  row : w.heap[g]? = some (.cells #[.string (mkB v.1), .string (mkB v.2.1), .string (mkB v.2.2.1), .slice a v.2.2.2.length c] 24 (0, 0))
  st : Strs w (.slice a v.2.2.2.length c) v.2.2.2
theorem VSlot.below {w w' : World} {g c : Nat} {v : Ver} {a : Option Addr} (h : VSlot w g v a c) (hb : Below w.heap.size w w') : VSlot w' g v a c := ⟨row_keep h.row hb, h.st.below hb⟩
theorem VSlot.alloc {w : World} {g c : Nat} {v : Ver} {a : Option Addr} (h : VSlot w g v a c) (o : Obj) : VSlot (w.alloc o) g v a c := h.below ((Below.refl _ _).alloc (Nat.le_refl _) o)
theorem VSlot.drewN {w : World} {g c : Nat} {v : Ver} {a : Option Addr} (h : VSlot w g v a c) (n : Nat) : VSlot (w.drewN n) g v a c := h.below (below_q ⟨n, rfl⟩)
theorem VSlot.new {w : World} {c : Nat} {v : Ver} {a : Option Addr} (h : Strs w (.slice a v.2.2.2.length c) v.2.2.2) :
    VSlot (w.alloc (.cells #[.string (mkB v.1), .string (mkB v.2.1), .string (mkB v.2.2.1), .slice a v.2.2.2.length c] 24)) w.heap.size v a c :=
  ⟨heap_alloc_new _ _, h.below ((Below.refl _ _).alloc (Nat.le_refl _) _)⟩
theorem VSlot.verin {w : World} {g c : Nat} {v : Ver} {a : Option Addr} (h : VSlot w g v a c) : VerIn w (.agg #[.string (mkB v.1), .string (mkB v.2.1), .string (mkB v.2.2.1), .slice a v.2.2.2.length c]) v := ⟨⟨a, c, rfl, h.st⟩⟩
theorem VSlot.lt {w : World} {g c : Nat} {v : Ver} {a : Option Addr} (h : VSlot w g v a c) : g < w.heap.size := (Array.getElem?_eq_some_iff.1 h.row).1

theorem small_mono {m n : Nat} {v : Ver} (h : smallV m v) (hmn : m ≤ n) : smallV n v := by
  obtain ⟨h1, h2, h3, h4, h5⟩ := h
  exact ⟨by omega, by omega, by omega, by omega, fun l hl => by have := h5 l hl; omega⟩
theorem fewV_small (v : Ver) : smallV 400 (fewV v) := by
  refine ⟨fewL_le _, fewL_le _, fewL_le _, ?_, ?_⟩
  · show ((v.2.2.2.take 8).map fewL).length ≤ 400
    rw [List.length_map]
    have := List.length_take_le 8 v.2.2.2
    omega
  · intro l hl
    have hl' : l ∈ (v.2.2.2.take 8).map fewL := hl
    obtain ⟨q, _, rfl⟩ := List.mem_map.1 hl'
    exact fewL_le q
theorem flat_len (x : UInt8) (n : Nat) : ∀ ls : List (List UInt8), (∀ l ∈ ls, l.length ≤ n) → (ls.flatMap (fun q => x :: q)).length ≤ ls.length * (n + 1)
  | [], _ => by simp
  | p :: ps, h => by
    have ih := flat_len x n ps fun l hl => h l (List.mem_cons_of_mem _ hl)
    have hp := h p List.mem_cons_self
    rw [List.flatMap_cons, List.length_append, List.length_cons, List.length_cons, Nat.add_mul]
    omega
theorem jn_len (x : UInt8) (n : Nat) (ls : List (List UInt8)) (h : ∀ l ∈ ls, l.length ≤ n) : (jn x ls).length ≤ ls.length * (n + 1) := by
  cases ls with
  | nil => simp [jn]
  | cons p ps =>
    have ih := flat_len x n ps fun l hl => h l (List.mem_cons_of_mem _ hl)
    have hp := h p List.mem_cons_self
    simp only [jn, List.length_append, List.length_cons, Nat.add_mul]
    omega
theorem joinL_len {v : Ver} (h : smallV 1000 v) : (joinL v).length ≤ 10000000 := by
  obtain ⟨ma, mi, pa, pre⟩ := v
  obtain ⟨h1, h2, h3, h4, h5⟩ := h
  simp only at h1 h2 h3 h4 h5
  have hj := jn_len 46 1000 pre h5
  have : pre.length * (1000 + 1) ≤ 1000 * 1001 := Nat.mul_le_mul_right _ h4
  by_cases hp : pre = []
  · rw [hp, joinL_none]; simp; omega
  · rw [joinL_some _ _ _ _ hp]; simp; omega
theorem okE_of {l : List UInt8} {o : Bool} (h : okV l = o) : okE l = if o = true then 0 else 1 := by unfold okE; rw [h]
theorem joinE_of {v : Ver} {f : Bool} (h : fitL v = f) : joinE v = if f = true then (joinL v, 0) else ([], 1) := by unfold joinE; rw [h]
theorem vcmpE_of {a b : List UInt8} {o p : Bool} (ha : okV a = o) (hb : okV b = p) : vcmpE a b = if o = true ∧ p = true then (cmpT a b, 0) else (0, 1) := by unfold vcmpE; rw [ha, hb]
end Go.Proofs.Ytcdflfjbdbofcaa
