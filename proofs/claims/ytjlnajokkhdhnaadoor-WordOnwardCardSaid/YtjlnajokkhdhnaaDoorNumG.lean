/- The document's next one and text. -/
import Derived.Test.YtjlnajokkhdhnaaDoorNumF
import Derived.Deep.RegionWith
namespace Go.Proofs.YtjlnajokkhdhnaaDoor
open Go.RowKit
set_option maxRecDepth 100000

/-- Where the document's walk over the digits stands: what was made, and what is left. -/
def nextInv (r : List UInt8) (k cy : Nat) (O : List UInt8) : Prop := O.length = k ∧ incR r = O.reverse ++ (if cy = 1 then incR (r.drop k) else r.drop k)
theorem nextInv_start (r : List UInt8) : nextInv r 0 1 [] := ⟨rfl, by simp⟩
theorem nextInv_step {r : List UInt8} {k cy : Nat} {O : List UInt8} (h : nextInv r k cy O) (hk : k < r.length) (hr : r.all isD = true) (hcy : cy ≤ 1) :
    nextInv r (k + 1) (((r.getD k 48).toNat - 48 + cy) / 10) (UInt8.ofNat (48 + ((r.getD k 48).toNat - 48 + cy) % 10) :: O) := by
  obtain ⟨h1, h2⟩ := h
  refine ⟨by simp [h1], ?_⟩
  have e : r.getD k 48 = r[k] := by rw [List.getD_eq_getElem?_getD, List.getElem?_eq_getElem hk]; rfl
  have hd := isD_bd (List.all_eq_true.1 hr _ (List.getElem_mem hk))
  rw [h2, e, List.drop_eq_getElem_cons hk, List.reverse_cons, List.append_assoc]
  congr 1
  obtain ⟨c, hc⟩ : ∃ c, c = r[k] := ⟨_, rfl⟩
  rw [← hc] at hd ⊢
  rcases Nat.eq_zero_or_pos cy with h0 | h0
  · subst h0
    rw [if_neg (by omega), if_neg (by omega)]
    have : UInt8.ofNat (48 + (c.toNat - 48 + 0) % 10) = c := by
      rw [← UInt8.toNat_inj, UInt8.toNat_ofNat_of_lt' (by rw [UInt8.size]; omega)]; omega
    rw [this]; rfl
  · have : cy = 1 := by omega
    subst this
    rw [if_pos rfl, incR]
    by_cases h9 : c = 57
    · subst h9
      rw [if_pos rfl, if_pos (by decide)]
      rfl
    · have hne : c.toNat ≠ 57 := fun e2 => h9 (by rw [← UInt8.toNat_inj]; exact e2)
      rw [if_neg h9, if_neg (by omega)]
      have : UInt8.ofNat (48 + (c.toNat - 48 + 1) % 10) = c + 1 := by
        rw [← UInt8.toNat_inj, UInt8.toNat_ofNat_of_lt' (by rw [UInt8.size]; omega), UInt8.toNat_add]
        have : (1 : UInt8).toNat = 1 := rfl
        omega
      rw [this]; rfl
theorem nextInv_end {r : List UInt8} {cy : Nat} {O : List UInt8} (h : nextInv r r.length cy O) : (incR r).reverse = if cy = 1 then 49 :: O else O := by
  obtain ⟨h1, h2⟩ := h
  rw [h2]
  by_cases hc : cy = 1
  · rw [if_pos hc, if_pos hc]; simp [incR]
  · rw [if_neg hc, if_neg hc]; simp

theorem byteS_cat (n : Nat) (O : List UInt8) : byteS (n : Int) ++ mkB O = mkB (UInt8.ofNat n :: O) := by
  unfold byteS mkB
  apply ByteArray.ext
  rw [ByteArray.data_append]
  apply Array.ext'
  simp

theorem cat_byteS (n : Nat) (O : List UInt8) : mkB O ++ byteS (n : Int) = mkB (O ++ [UInt8.ofNat n]) := by
  unfold byteS mkB
  apply ByteArray.ext
  rw [ByteArray.data_append]
  apply Array.ext'
  simp

theorem new_cell (W : World) (v : Value) (t : TypeId) : (W.alloc (.cells #[v] t)).drew.cell? ⟨W.heap.size, 0, none⟩ = some v := by
  have hh : (W.alloc (.cells #[v] t)).drew.heap[W.heap.size]? = some (.cells #[v] t) := heap_alloc_new _ _
  simp only [World.cell?, hh]
  rfl
theorem conv_cell (W : World) (b : Nat) (c : Int) (h : W.cell? ⟨b, 0, none⟩ = some (.int .u8 c)) :
    Sem.run Tryd.prog (convert 33 9 (.slice (some ⟨b, 0, none⟩) 1 1)) W = .ok (.string (byteS c)) W := by
  have h := run_convert_bytes_arg (P := Tryd.prog) W 33 5 Tryd.underlying33 Tryd.underlying5 b 0 1 1 [c] rfl ?_ 9 Tryd.underlying9
  · exact h
  · intro i hi
    have : i = 0 := by omega
    subst this
    exact h
theorem dd_len (n : Nat) (h : n < 18446744073709551616) : (Lib.decDigits n).length ≤ 20 := by
  rw [Lib.decDigits_length]
  rcases Nat.eq_zero_or_pos n with h0 | h0
  · subst h0; rw [Lib.nDigits_small (by omega)]; omega
  · have := Lib.numDigits_eq n h0 h; split at this <;> omega

end Go.Proofs.YtjlnajokkhdhnaaDoor
