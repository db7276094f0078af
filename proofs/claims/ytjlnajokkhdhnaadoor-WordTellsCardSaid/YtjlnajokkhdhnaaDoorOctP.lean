/- Texts as lists of octets; parts, and what is put together: plain facts, and what the statements look at of a text. -/
import Derived.Test.YtjlnajokkhdhnaaDoorOctN
import Derived.Lib.Join
namespace Go.Proofs.YtjlnajokkhdhnaaDoor
open Go.RowKit
set_option maxRecDepth 100000

def mkB (l : List UInt8) : ByteArray := ⟨l.toArray⟩
theorem mkB_list (l : List UInt8) : (mkB l).data.toList = l := by simp [mkB]
theorem mkB_size (l : List UInt8) : (mkB l).size = l.length := by rw [Lib.size_eq, mkB_list]
theorem mkB_inj {a b : List UInt8} (h : mkB a = mkB b) : a = b := by rw [← mkB_list a, h, mkB_list]
theorem mkB_of' {x : ByteArray} {l : List UInt8} (h : x.data.toList = l) : x = mkB l := by unfold mkB; rw [← h]
theorem mkB_of {x : ByteArray} {l : List UInt8} (h : x.data.toList = l) : x = mkB l := by unfold mkB; rw [← h]
theorem mkB_beq (a b : List UInt8) : (mkB a == mkB b) = decide (a = b) := by
  rw [beq_toListBytes, Lib.toList_data, Lib.toList_data, mkB_list, mkB_list, Bool.eq_iff_iff, beq_iff_eq, decide_eq_true_eq]
theorem mk_beq (a b : List UInt8) : ((mkB a).toList == (mkB b).toList) = decide (a = b) := by
  rw [Lib.toList_data, Lib.toList_data, mkB_list, mkB_list, Bool.eq_iff_iff, beq_iff_eq, decide_eq_true_eq]
theorem mkB_cons (x : UInt8) (p : List UInt8) : (⟨#[x]⟩ : ByteArray) ++ mkB p = mkB (x :: p) := mkB_of' (by simp only [cat_list, mkB_list]; simp)
theorem tup2 {x y : ByteArray} {i j : Int} (h : x = y) (k : i = j) : Ending.returned (.tuple #[.string x, .int .i64 i]) = .returned (.tuple #[.string y, .int .i64 j]) := by rw [h, k]
theorem strV_mk (s : ByteArray) (a b : Nat) : s.extract a b = mkB ((s.data.toList.drop a).take (b - a)) := by unfold mkB; rw [← Lib.extract_eq]
theorem split_whole (c : Int) (l : List UInt8) (h : ∀ x ∈ l, ¬ (x.toNat : Int) = c) : splitL c l = [l] := by
  induction l with
  | nil => rfl
  | cons x l ih => rw [splitL, if_neg (h x List.mem_cons_self), ih fun y hy => h y (List.mem_cons_of_mem _ hy)]; rfl
theorem split_jn (c : Int) (x : UInt8) (hx : (x.toNat : Int) = c) (ls : List (List UInt8)) (hn : ls ≠ []) (h : ∀ l ∈ ls, ∀ y ∈ l, ¬ (y.toNat : Int) = c) : splitL c (jn x ls) = ls := by
  cases ls with
  | nil => exact absurd rfl hn
  | cons p ps =>
    clear hn
    induction ps generalizing p with
    | nil => simp only [jn, List.flatMap_nil, List.append_nil]; exact split_whole c p (h p List.mem_cons_self)
    | cons q qs ih =>
      have e : jn x (p :: q :: qs) = p ++ x :: jn x (q :: qs) := by simp [jn]
      rw [e, splitL_cat c x hx, ih q fun l hl => h l (List.mem_cons_of_mem _ hl), split_whole c p (h p List.mem_cons_self)]
      rfl
theorem split_le (c : Int) : ∀ l : List UInt8, ∀ p ∈ splitL c l, p.length ≤ l.length
  | [] => by simp [splitL]
  | x :: l => by
    have ih := split_le c l
    rw [splitL]
    split
    · intro p hp
      rcases List.mem_cons.1 hp with rfl | hp
      · simp
      · have := ih p hp; simp; omega
    · cases hs : splitL c l with
      | nil => exact absurd hs (splitL_ne c l)
      | cons u t =>
        rw [hs] at ih
        intro p hp
        rcases List.mem_cons.1 hp with rfl | hp
        · have := ih u List.mem_cons_self; simp; omega
        · have := ih p (List.mem_cons_of_mem _ hp); simp; omega
theorem strs_none (w : World) : Strs w (.slice none 0 0) [] := ⟨none, 0, rfl, Nat.le_refl _, by unfold maxLen; omega, fun _ => rfl, fun h => absurd h (by simp)⟩
theorem strs_drew {w : World} {v : Value} {ls : List (List UInt8)} (h : Strs w v ls) : Strs w.drew v ls := h.drewN 1
def fewL (l : List UInt8) : List UInt8 := l.take 400
theorem fewL_le (l : List UInt8) : (fewL l).length ≤ 400 := by unfold fewL; exact List.length_take_le _ _
theorem fewB_mk (l : List UInt8) : fewB (mkB l) = mkB (fewL l) := by
  unfold fewB fewL
  rw [mkB_size]
  split
  · refine mkB_of' ?_
    have := strV_mk (mkB l) 0 400
    rw [this, mkB_list, mkB_list]; simp
  · rw [List.take_of_length_le (by omega)]
theorem few_mk (s : ByteArray) : fewB s = mkB (fewL s.data.toList) := by
  have h : s = mkB s.data.toList := mkB_of' rfl
  rw [h, fewB_mk, mkB_list]
theorem few_l (l : List UInt8) (w : World) (hs : l.length ≤ maxLen) :
    Calls Tryd.prog 19 #[.string (mkB l)] w fun e w' => e = .returned (.string (mkB (fewL l))) ∧ w = w' := by
  have := few_any (mkB l) w (by rw [mkB_size]; exact hs)
  rwa [fewB_mk] at this
theorem few_s (l : List UInt8) (w : World) (hs : l.length ≤ maxLen) :
    Calls Tryd.prog 19 #[.string (mkB l)] w fun e w' => e = .returned (.string (mkB (fewL l))) ∧ w' = w := (few_l l w hs).mono fun _ _ ⟨h, k⟩ => ⟨h, k.symm⟩
theorem few_ml (s : ByteArray) (w : World) (hs : s.size ≤ maxLen) :
    Calls Tryd.prog 19 #[.string s] w fun e w' => e = .returned (.string (mkB (fewL s.data.toList))) ∧ w = w' := by
  have := few_any s w hs
  rwa [few_mk] at this
theorem flat_len (x : UInt8) (n : Nat) : ∀ ls : List (List UInt8), (∀ l ∈ ls, l.length ≤ n) → (ls.flatMap (fun q => x :: q)).length ≤ ls.length * (n + 1)
  | [], _ => by simp
  | p :: ps, h => by
    have ih := flat_len x n ps fun l hl => h l (List.mem_cons_of_mem _ hl)
    have hp := h p List.mem_cons_self
    rw [List.flatMap_cons, List.length_append, List.length_cons, List.length_cons, Nat.add_mul]
    omega
theorem jn_len (x : UInt8) (n : Nat) (ls : List (List UInt8)) (h : ∀ l ∈ ls, l.length ≤ n) : (jn x ls).length ≤ ls.length * (n + 1) := by
  cases ls with
  | nil => simp [jn]
  | cons p ps =>
    have ih := flat_len x n ps fun l hl => h l (List.mem_cons_of_mem _ hl)
    have hp := h p List.mem_cons_self
    simp only [jn, List.length_append, List.length_cons, Nat.add_mul]
    omega
theorem empty_iff (s : ByteArray) : s.toList.isEmpty = decide (s.size = 0) := by
  rw [Lib.toList_data, Lib.size_eq]
  cases s.data.toList <;> simp
theorem mem_getD {ls : List (List UInt8)} {k : Nat} (h : k < ls.length) : ls.getD k [] ∈ ls := by
  rw [List.getD_eq_getElem?_getD, List.getElem?_eq_getElem h]
  exact List.getElem_mem h
theorem all_take_succ {p : List UInt8 → Bool} {ls : List (List UInt8)} {k : Nat} (h : k < ls.length) (ht : (ls.take k).all p = true) (hp : p (ls.getD k []) = true) : (ls.take (k + 1)).all p = true := by
  rw [List.take_succ_eq_append_getElem h, List.all_append, ht]
  rw [List.getD_eq_getElem?_getD, List.getElem?_eq_getElem h] at hp
  simpa using hp
theorem strs_at {w : World} {a : Option Addr} {n c : Nat} {ls : List (List UInt8)} (h : Strs w (.slice a n c) ls) (k : Nat) (hk : k < ls.length) :
    ∃ b off, a = some ⟨b, off, none⟩ ∧ b < w.heap.size ∧ w.cell? ⟨b, off + k, none⟩ = some (.string (mkB (ls.getD k []))) := by
  obtain ⟨a', c', hv, _, _, _, h3⟩ := h.ex
  injection hv with e1 e2 e3
  subst e1
  obtain ⟨b, off, ha, hlt, hc⟩ := h3 (by omega)
  exact ⟨b, off, ha, hlt, hc k hk⟩
end Go.Proofs.YtjlnajokkhdhnaaDoor
