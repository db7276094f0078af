/- The contract of number's next one. -/
import Derived.Test.YtjlnajokkhdhnaaDoorNumA
import Derived.Laws.IdiomStrings
namespace Go.Proofs.YtjlnajokkhdhnaaDoor
open Go.RowKit
set_option maxRecDepth 100000

/-- A block's cells hold these octets, and may be written. -/
structure BRow (w : World) (B : Nat) (R : List UInt8) : Prop where
  cell : ∀ j, j < R.length → w.cell? ⟨B, j, none⟩ = some (.int .u8 ((R.getD j 0).toNat : Int))
  free : ∀ j, j < R.length → w.frozen? ⟨B, j, none⟩ = false
  lt : B < w.heap.size

theorem BRow.set {w : World} {B : Nat} {R : List UInt8} (h : BRow w B R) (i : Nat) (hi : i < R.length) (c : UInt8) : BRow (w.setCell ⟨B, i, none⟩ (.int .u8 (c.toNat : Int))) B (R.set i c) := by
  refine ⟨fun j hj => ?_, fun j hj => ?_, ?_⟩
  · rw [List.length_set] at hj
    by_cases e : j = i
    · subst e
      rw [World.cell?_setCell_same _ _ _ (h.cell j hi)]
      simp [List.getD_eq_getElem?_getD, hi]
    · rw [World.cell?_setCell_other _ _ _ _ (by simp), h.cell j hj]
      have : (R.set i c).getD j 0 = R.getD j 0 := by
        simp only [List.getD_eq_getElem?_getD]
        rw [List.getElem?_set_ne (by omega)]
      rw [this]
  · rw [List.length_set] at hj
    rw [World.frozen?_setCell]
    exact h.free j hj
  · simpa using h.lt
theorem BRow.str {P : Program} {w : World} {B : Nat} {R : List UInt8} (h : BRow w B R) (src dst e : TypeId) (cap n : Nat) (hn : n = R.length) (hs : P.underlying src = some (.slice e)) (he : P.underlying e = some (.int .u8)) (hd : P.underlying dst = some .string) :
    Sem.run P (convert src dst (.slice (some ⟨B, 0, none⟩) n cap)) w = .ok (.string ⟨R.toArray⟩) w := by
  subst hn
  refine run_convert_bytes_back w src dst e ⟨B, 0, none⟩ cap R hs he hd fun j hj => ?_
  have hadd : (⟨B, 0, none⟩ : Addr).add j = ⟨B, j, none⟩ := by unfold Addr.add; split <;> simp_all
  rw [hadd, h.cell j hj]
  simp [List.getD_eq_getElem?_getD, hj]
theorem BRow.new (w : World) (s : ByteArray) (e : TypeId) (cap : Nat) (lo hi : Nat) (hlo : s.size ≤ lo) : BRow (w.alloc (.cells (bytesRow s cap) e (lo, hi))) w.heap.size s.data.toList := by
  have hl := Lib.size_eq s
  refine ⟨fun j hj => ?_, fun j hj => ?_, by simp⟩
  · rw [World.cell?_alloc_mark]
    have hj' : j < s.data.size := by simpa using hj
    rw [bytesRow_at s cap j hj']
    simp [List.getD_eq_getElem?_getD, Array.getElem?_eq_getElem hj']
  · rw [World.frozen?_alloc_mark]
    have : ¬ lo ≤ j := by omega
    simp [this]

/-- '[]byte(s)'. -/
theorem bytes_new (s : ByteArray) (w : World) : ∃ w2 B cap, Sem.run Tryd.prog (convert 9 33 (.string s)) w = .ok (.slice (some ⟨B, 0, none⟩) s.size cap) w2 ∧ BRow w2 B s.data.toList ∧ Below w.heap.size w w2 ∧ w.heap.size ≤ B := by
  refine ⟨_, _, _, run_bytes_of_string (P := Tryd.prog) w 9 33 5 s Tryd.underlying9 Tryd.underlying33 Tryd.underlying5, ?_, ?_, Nat.le_refl _⟩
  · have h : s.size ≤ (bytesRow s (grownCap w s.size 0 5)).size := by
      unfold bytesRow
      rw [Array.size_append, Array.size_map]
      exact Nat.le_add_right _ _
    exact BRow.new w.drew s _ _ _ _ h
  · exact (below_q ⟨1, rfl⟩).alloc (Nat.le_refl _) _

/-- Where the walk over the last digits stands. -/
theorem inc_step (l : List UInt8) (k : Nat) (hk : k < l.length) (c : UInt8) (hc : l.getD (l.length - 1 - k) 0 = c) :
    (l.take (l.length - k)).reverse = c :: (l.take (l.length - (k + 1))).reverse := by
  have e : l.length - k = (l.length - (k + 1)) + 1 := by omega
  have h2 : l.length - (k + 1) < l.length := by omega
  rw [e, List.take_succ_eq_append_getElem h2, List.reverse_append]
  simp only [List.reverse_singleton, List.singleton_append]
  congr 1
  rw [← hc, List.getD_eq_getElem?_getD, show l.length - 1 - k = l.length - (k + 1) by omega, List.getElem?_eq_getElem h2]; rfl
def rowK (l : List UInt8) (k : Nat) : List UInt8 := l.take (l.length - k) ++ List.replicate k 48
theorem rowK_len (l : List UInt8) (k : Nat) (hk : k ≤ l.length) : (rowK l k).length = l.length := by
  simp [rowK]; omega
theorem rowK_at (l : List UInt8) (k : Nat) (hk : k < l.length) : (rowK l k).getD (l.length - 1 - k) 0 = l.getD (l.length - 1 - k) 0 := by
  unfold rowK
  simp only [List.getD_eq_getElem?_getD]
  rw [List.getElem?_append_left (by simp; omega), List.getElem?_take_of_lt (by omega)]
theorem rowK_set (l : List UInt8) (k : Nat) (hk : k < l.length) (c : UInt8) : (rowK l k).set (l.length - 1 - k) c = l.take (l.length - (k + 1)) ++ c :: List.replicate k 48 := by
  unfold rowK
  have h2 : l.length - (k + 1) < l.length := by omega
  rw [show l.length - k = (l.length - (k + 1)) + 1 by omega, List.take_succ_eq_append_getElem h2, show l.length - 1 - k = l.length - (k + 1) by omega]
  rw [List.append_assoc, List.set_append_right _ _ (by simp)]
  simp [Nat.min_eq_left (Nat.le_of_lt h2)]
theorem rowK_succ (l : List UInt8) (k : Nat) (hk : k < l.length) : (rowK l k).set (l.length - 1 - k) 48 = rowK l (k + 1) := by
  rw [rowK_set l k hk]; unfold rowK; rw [List.replicate_succ]
theorem inc_on {l : List UInt8} {k : Nat} (h : incR l.reverse = List.replicate k 48 ++ incR (l.take (l.length - k)).reverse) (hk : k < l.length) (hc : l.getD (l.length - 1 - k) 0 = 57) :
    incR l.reverse = List.replicate (k + 1) 48 ++ incR (l.take (l.length - (k + 1))).reverse := by
  rw [h, inc_step l k hk 57 hc, incR, if_pos rfl, List.replicate_succ', List.append_assoc]; rfl
theorem inc_stop {l : List UInt8} {k : Nat} (h : incR l.reverse = List.replicate k 48 ++ incR (l.take (l.length - k)).reverse) (hk : k < l.length) (c : UInt8) (hc : l.getD (l.length - 1 - k) 0 = c) (h9 : c ≠ 57) :
    (rowK l k).set (l.length - 1 - k) (c + 1) = nextL l := by
  rw [rowK_set l k hk]
  unfold nextL
  rw [h, inc_step l k hk c hc, incR, if_neg h9]
  simp
theorem inc_end {l : List UInt8} (h : incR l.reverse = List.replicate l.length 48 ++ incR (l.take (l.length - l.length)).reverse) :
    49 :: rowK l l.length = nextL l := by
  unfold nextL rowK
  rw [h]
  simp [incR]

/-- What Next answers. -/
def nextE (l : List UInt8) : ByteArray × Int := if mayL l = true then (⟨(nextL l).toArray⟩, 0) else (ByteArray.empty, 1)

end Go.Proofs.YtjlnajokkhdhnaaDoor
