/- THE TEXTS OF NodY PatN RolA RolB StoA: Parts of a slice of nodes, and what a slice of nodes is copied from. Paths: plain facts of the laws. A region that draws its order and whose operations make, or turn, memory: which operation leaves what, by roles of blocks, till it is used up. What each kind of operation comes to, told by its operands. Lists put together: slices.Grow from nil, slices.Concat, of nodes and of texts; parts of slices. -/
import Derived.Test.YtceefoiffkgliaaRolL
import Derived.Test.YtceefoiffkgliaaNodW
import Derived.Lib.SmallJoins
import Derived.Great.BuildSlice
import Derived.ArgAppend
import Derived.Test.YtceefoiffkgliaaPatF
import Derived.Maps.AppendAt
import Derived.Lib.AppendZeros
namespace Go.Proofs.Ytceefoiffkgliaa
open Go.RowKit
set_option maxRecDepth 100000

/-! ### Parts of a slice of nodes -/
theorem ndsC_app (l m : List Nd) : ndsC (l ++ m) = ndsC l ++ ndsC m := by simp [ndsC]
theorem ndsC_one (l : List Nd) : ((ndsC l).all fun u => u.oneCell') = true := by
  induction l with
  | nil => rfl
  | cons x l ih =>
    have e : ndsC (x :: l) = .string (mkB x.1) :: .string (mkB x.2) :: ndsC l := rfl
    rw [e, List.all_cons, List.all_cons, ih]; rfl
theorem Nds.cells {w : World} {ad : Addr} {n c : Nat} {l : List Nd} (h : Nds w (.slice (some ad) n c) l) : ∀ j u, (ndsC l)[j]? = some u → w.cell? (ad.add j) = some u := by
  intro j u hj
  have hlt : j < (ndsC l).length := (List.getElem?_eq_some_iff.1 hj).1
  rw [ndsC_len] at hlt
  obtain ⟨k, hk⟩ : ∃ k, j = k * 2 ∨ j = k * 2 + 1 := ⟨j / 2, by omega⟩
  have hkl : k < l.length := by omega
  obtain ⟨b, off, ha, -, c0, c1⟩ := h.at k hkl
  obtain ⟨d0, d1⟩ := ndsC_at l k hkl
  cases ha
  rw [addr_add]
  rcases hk with rfl | rfl
  · rw [d0] at hj; cases hj; exact c0
  · rw [d1] at hj; cases hj; exact c1
theorem Nds.cut {w : World} {a : Option Addr} {n c : Nat} {l : List Nd} (h : Nds w (.slice a n c) l) {i : Nat} (hi : i ≤ l.length) : Nds w (.slice (if c = i then a else a.map (·.add (i * 2))) (n - i) (c - i)) (l.drop i) := by
  obtain ⟨a', c', hv, h1, h2, h3, h4⟩ := h.ex
  injection hv with e1 e2 e3
  subst e1 e2 e3
  refine ⟨_, _, by rw [List.length_drop], by rw [List.length_drop]; omega, by omega, fun hn => ?_, fun hp => ?_⟩
  · by_cases hc : c = i
    · omega
    · rw [if_neg hc] at hn
      have : a = none := by cases a <;> simp_all
      have := h3 this; omega
  · rw [List.length_drop] at hp
    obtain ⟨b, off, rfl, hb, hc⟩ := h4 (by omega)
    refine ⟨b, off + i * 2, ?_, hb, fun j hj => ?_⟩
    · rw [if_neg (by omega)]; simp [addr_add]
    · rw [List.length_drop] at hj
      have := hc (i + j) (by omega)
      have hg : (l.drop i).getD j ([], []) = l.getD (i + j) ([], []) := by simp [List.getD_eq_getElem?_getD, List.getElem?_drop]
      rw [hg, show off + i * 2 + j * 2 = off + (i + j) * 2 by omega]
      exact this
theorem Nds.ahead {w : World} {a : Option Addr} {n c : Nat} {l : List Nd} (h : Nds w (.slice a n c) l) {i : Nat} (hi : i ≤ l.length) : Nds w (sliced a 0 i i 2) (l.take i) := by
  obtain ⟨a', c', hv, h1, h2, h3, h4⟩ := h.ex
  injection hv with e1 e2 e3
  subst e1 e2 e3
  have hl : (l.take i).length = i := by rw [List.length_take]; omega
  refine ⟨if i = 0 then a else a.map (·.add (0 * 2)), i, by unfold sliced; rw [hl]; rfl, by rw [hl]; exact Nat.le_refl _, by omega, fun hn => ?_, fun hp => ?_⟩
  · by_cases hc : i = 0
    · exact hc
    · rw [if_neg hc] at hn
      have : a = none := by cases a <;> simp_all
      have := h3 this; omega
  · rw [hl] at hp
    obtain ⟨b, off, rfl, hb, hc⟩ := h4 (by omega)
    refine ⟨b, off, ?_, hb, fun j hj => ?_⟩
    · rw [if_neg (by omega)]; simp [addr_add]
    · rw [hl] at hj
      have := hc j (by omega)
      have hg : (l.take i).getD j ([], []) = l.getD j ([], []) := by simp [List.getD_eq_getElem?_getD, hj]
      rw [hg]
      exact this

/-! ### The operations -/
theorem run_slice_nd (w : World) (A : Option Addr) (n c i : Nat) (h : i ≤ c) : (Instr.sliceAt 22 (.slice A n c) none (some (.int .i64 i)) (some (.int .i64 i))).run Try.prog w = .ok (sliced A 0 i i 2) w := by
  have h1 : (0 : Int) ≤ (i : Int) := by omega
  have h2 : (i : Int) ≤ (c : Int) := by omega
  go_simp
theorem build_nd (w : World) (x y : ByteArray) : (Instr.buildSlice 22 1 #[(0, .agg #[.string x, .string y])]).run Try.prog w = .ok (.slice (some ⟨w.heap.size, 0, none⟩) 1 1) (w.alloc (.cells #[.string x, .string y] 27)) := by go_simp
theorem Nds.nil {w : World} {A : Option Addr} {n c : Nat} {l : List Nd} (h : Nds w (.slice A n c) l) : A = none → n = 0 ∧ c = 0 := by
  obtain ⟨_, _, hv, h1, _, h3, _⟩ := h.ex
  injection hv with e1 e2 e3
  subst e1 e2 e3
  intro hn
  have := h3 hn
  omega
theorem Nds.src {w : World} {A : Option Addr} {n c : Nat} {l : List Nd} (h : Nds w (.slice A n c) l) : ∀ ad, A = some ad → ∀ j u, (ndsC l)[j]? = some u → w.cell? (ad.add j) = some u := fun _ e => by subst e; exact h.cells

end Go.Proofs.Ytceefoiffkgliaa

namespace Go.Proofs.Ytceefoiffkgliaa
open Go.RowKit
set_option maxRecDepth 100000

theorem elemB_iff2 (l : List UInt8) : elemB l = true ↔ l ≠ [] ∧ (∀ c ∈ l, okC c = true) ∧ l.head? ≠ some 46 ∧ l.getLast? ≠ some 46 := by
  have n46 : (46 : UInt8).toNat = 46 := rfl
  rw [elemB_iff]
  constructor
  · rintro ⟨h0, h⟩
    have hne : l ≠ [] := List.length_pos_iff.1 h0
    refine ⟨hne, fun c hc => elem_oct ((elemB_iff l).2 ⟨h0, h⟩) c hc, ?_, ?_⟩
    · intro e
      refine okAt_nodot (h 0 h0) ⟨?_, .inl rfl⟩
      cases l with
      | nil => cases e
      | cons x t => injection e with e; subst e; rfl
    · intro e
      refine okAt_nodot (h (l.length - 1) (by omega)) ⟨?_, .inr (by omega)⟩
      rw [List.getLast?_eq_getElem?] at e
      rw [List.getD_eq_getElem?_getD, e]; rfl
  · rintro ⟨hne, hok, hh, hl⟩
    have h0 : 0 < l.length := List.length_pos_iff.2 hne
    refine ⟨h0, fun j hj => okAt_yes ?_ ?_⟩
    · rw [List.getD_eq_getElem?_getD, List.getElem?_eq_getElem hj]; exact hok _ (List.getElem_mem hj)
    · rintro ⟨h46, rfl | e⟩
      · apply hh
        cases l with
        | nil => exact absurd rfl hne
        | cons x t =>
          have : x.toNat = 46 := h46
          have : x = 46 := by rw [← UInt8.toNat_inj]; omega
          rw [this]; rfl
      · apply hl
        rw [List.getLast?_eq_getElem?]
        have hj' : j = l.length - 1 := by omega
        subst hj'
        rw [List.getD_eq_getElem?_getD, List.getElem?_eq_getElem hj] at h46
        rw [List.getElem?_eq_getElem hj]
        have : (l[l.length - 1]).toNat = 46 := h46
        congr 1
        rw [← UInt8.toNat_inj]; omega
theorem elem_parts {l : List UInt8} (h : elemB l = true) : l ≠ [] ∧ (∀ c ∈ l, okC c = true) ∧ l.head? ≠ some 46 ∧ l.getLast? ≠ some 46 := (elemB_iff2 l).1 h
theorem elem_mid {a m b : List UInt8} (ha : elemB a = true) (hm : ∀ c ∈ m, okC c = true) (hb : elemB b = true) : elemB (a ++ m ++ b) = true := by
  obtain ⟨a1, a2, a3, _⟩ := elem_parts ha
  obtain ⟨b1, b2, _, b4⟩ := elem_parts hb
  rw [elemB_iff2]
  refine ⟨?_, ?_, ?_, ?_⟩
  · intro e; exact a1 (List.append_eq_nil_iff.1 (List.append_eq_nil_iff.1 e).1).1
  · intro c hc
    rcases List.mem_append.1 hc with hc | hc
    · rcases List.mem_append.1 hc with hc | hc
      · exact a2 c hc
      · exact hm c hc
    · exact b2 c hc
  · cases a with
    | nil => exact absurd rfl a1
    | cons x t => simpa using a3
  · cases b with
    | nil => exact absurd rfl b1
    | cons x t =>
      rw [List.getLast?_append]
      rw [List.getLast?_eq_some_getLast (by simp : x :: t ≠ [])] at b4 ⊢
      simpa using b4

theorem withinB_iff (p q : List UInt8) : withinB p q = true ↔ pathB p = true ∧ pathB q = true ∧ splitL 47 p <+: splitL 47 q := by
  unfold withinB sameB
  simp only [Bool.and_eq_true, decide_eq_true_eq]
  rw [List.prefix_iff_eq_take]
  constructor
  · rintro ⟨⟨⟨h1, h2⟩, _⟩, h4⟩; exact ⟨h1, h2, h4⟩
  · rintro ⟨h1, h2, h4⟩
    refine ⟨⟨⟨h1, h2⟩, ?_⟩, h4⟩
    have := congrArg List.length h4
    rw [List.length_take] at this
    omega
theorem within_trans {x y z : List UInt8} (h : withinB x y = true) (k : withinB y z = true) : withinB x z = true := by
  rw [withinB_iff] at *
  exact ⟨h.1, k.2.1, h.2.2.trans k.2.2⟩
theorem split_inj {x y : List UInt8} (h : splitL 47 x = splitL 47 y) : x = y := by
  rw [← jn_split 47 47 (by decide) x, h, jn_split 47 47 (by decide) y]
theorem within_anti {x y : List UInt8} (h : withinB x y = true) (k : withinB y x = true) : x = y := by
  rw [withinB_iff] at *
  exact split_inj (h.2.2.eq_of_length_le k.2.2.length_le)
theorem within_line {x y z : List UInt8} (h : withinB x z = true) (k : withinB y z = true) : withinB x y = true ∨ withinB y x = true := by
  rw [withinB_iff] at *
  rw [withinB_iff]
  rcases List.prefix_or_prefix_of_prefix h.2.2 k.2.2 with e | e
  · exact .inl ⟨h.1, k.1, e⟩
  · exact .inr ⟨k.1, h.1, e⟩
theorem within_self {x : List UInt8} (h : pathB x = true) : withinB x x = true := (withinB_iff x x).2 ⟨h, h, List.prefix_refl _⟩

theorem split_slash (x y : List UInt8) : splitL 47 (x ++ 47 :: y) = splitL 47 x ++ splitL 47 y := splitL_cat 47 47 (by decide) y x
theorem path_slash (x y : List UInt8) : pathB (x ++ 47 :: y) = (pathB x && pathB y) := by
  unfold pathB; rw [split_slash, List.all_append]
theorem within_slash {x y : List UInt8} (h : pathB x = true) (k : pathB y = true) : withinB x (x ++ 47 :: y) = true := by
  rw [withinB_iff, path_slash, h, k, split_slash]
  exact ⟨rfl, rfl, List.prefix_append _ _⟩
theorem slash_within (x y : List UInt8) : withinB (x ++ 47 :: y) x = false := by
  rw [Bool.eq_false_iff]
  intro h
  rw [withinB_iff, split_slash] at h
  have := h.2.2.length_le
  rw [List.length_append] at this
  have h2 : 0 < (splitL 47 y).length := List.length_pos_iff.2 (splitL_ne 47 y)
  omega
theorem path_elem {y : List UInt8} (h : elemB y = true) : pathB y = true := by
  unfold pathB
  rw [split_whole 47 y (elem_no47 h), List.all_cons, h]; rfl
theorem jn_snoc (x : UInt8) (ls : List (List UInt8)) (hn : ls ≠ []) (y : List UInt8) : jn x (ls ++ [y]) = jn x ls ++ x :: y := by
  cases ls with
  | nil => exact absurd rfl hn
  | cons p ps => simp [jn]
theorem joinP_split {x : List UInt8} (h : pathB x = true) : joinP (splitL 47 x) = (x, 0) := by
  rw [joinP_ok (by rw [okJ_split]; exact h), jn_split 47 47 (by decide)]
theorem joinP_snoc_ok {x y : List UInt8} (h : pathB x = true) (k : elemB y = true) : joinP (splitL 47 x ++ [y]) = (x ++ 47 :: y, 0) := by
  have hk : okJ (splitL 47 x ++ [y]) = true := by
    unfold okJ
    rw [List.all_append]
    have h' : (splitL 47 x).all elemB = true := h
    rw [h', List.all_cons, k]
    simp
  rw [joinP_ok hk, jn_snoc 47 _ (splitL_ne 47 x), jn_split 47 47 (by decide)]
theorem joinP_snoc_no (x : List UInt8) {y : List UInt8} (k : elemB y = false) : joinP (splitL 47 x ++ [y]) = ([], 1) := by
  refine joinP_no ?_
  unfold okJ
  rw [List.all_append, List.all_cons, k]
  simp
theorem slash_txt (x y : List UInt8) : mkB x ++ (⟨#[47]⟩ : ByteArray) ++ mkB y = mkB (x ++ 47 :: y) := mkB_of' (by simp only [cat_list, mkB_list]; simp)

/-- The parts of two texts, one behind the other with nothing between. -/
theorem split_app (c : Int) (b : List UInt8) (hb : ∀ y ∈ b, ¬ (y.toNat : Int) = c) : ∀ a : List UInt8, splitL c (a ++ b) = (splitL c a).dropLast ++ [(splitL c a).getLastD [] ++ b]
  | [] => by rw [List.nil_append, split_whole c b hb]; simp [splitL]
  | x :: a => by
    have ih := split_app c b hb a
    have hn := splitL_ne c a
    rw [List.cons_append, splitL, splitL, ih]
    cases hs : splitL c a with
    | nil => exact absurd hs hn
    | cons u t =>
      split
      · simp
      · cases t with
        | nil => simp [consHead]
        | cons v t => simp [consHead]
theorem split_head (c : Int) (b : List UInt8) : ∀ a : List UInt8, (∀ y ∈ a, ¬ (y.toNat : Int) = c) → splitL c (a ++ b) = consHead a (splitL c b)
  | [], _ => by rw [List.nil_append, consHead_nil _ (splitL_ne c b)]
  | x :: a, h => by
    rw [List.cons_append, splitL, if_neg (h x List.mem_cons_self), split_head c b a fun y hy => h y (List.mem_cons_of_mem _ hy), consHead_two]; rfl
theorem okC_46 : okC 46 = true := by decide +kernel
theorem dot_ahead (x : List UInt8) : pathB (46 :: x) = false := by
  have e : splitL 47 (46 :: x) = consHead [46] (splitL 47 x) := split_head 47 x [46] (by decide)
  unfold pathB
  rw [e]
  have hn := splitL_ne 47 x
  cases hs : splitL 47 x with
  | nil => exact absurd hs hn
  | cons u t =>
    rw [consHead, List.all_cons]
    have : elemB ([46] ++ u) = false := by
      rw [Bool.eq_false_iff]; intro e
      exact (elem_parts e).2.2.1 (by simp)
    rw [this]; rfl
theorem dot_behind (x : List UInt8) : pathB (x ++ [46]) = false := by
  unfold pathB
  rw [split_app 47 [46] (by decide), List.all_append]
  have : elemB ((splitL 47 x).getLastD [] ++ [46]) = false := by
    rw [Bool.eq_false_iff]; intro e
    exact (elem_parts e).2.2.2 (by simp)
  rw [List.all_cons, this]
  simp
theorem last_at (ls : List (List UInt8)) : ls.getLastD [] = ls.getD (ls.length - 1) [] := by
  rw [List.getLastD_eq_getLast?, List.getLast?_eq_getElem?, List.getD_eq_getElem?_getD]
theorem last_mem {ls : List (List UInt8)} (h : ls ≠ []) : ls.getLastD [] ∈ ls := by
  rw [List.getLastD_eq_getLast?, List.getLast?_eq_some_getLast h]
  exact List.getLast_mem h
theorem drop_last {ls : List (List UInt8)} (f : List UInt8 → Bool) (ha : ls.all f = true) : ls.dropLast.all f = true := by
  rw [List.all_eq_true] at *
  exact fun l hl => ha l (List.dropLast_subset _ hl)
theorem dot_last {x l : List UInt8} (h : pathB x = true) (hl : l = (splitL 47 x).getLastD []) : pathB (x ++ (46 :: l)) = true := by
  have hn := splitL_ne 47 x
  have hel : elemB l = true := by rw [hl]; exact List.all_eq_true.1 h _ (last_mem hn)
  have hno := elem_no47 hel
  unfold pathB
  rw [split_app 47 (46 :: l) (by
    intro y hy
    rcases List.mem_cons.1 hy with rfl | hy
    · decide
    · exact hno y hy), List.all_append, drop_last elemB h, ← hl, List.all_cons]
  have e : elemB (l ++ 46 :: l) = true := by
    have := elem_mid hel (m := [46]) (by simp [okC_46]) hel
    simpa using this
  rw [e]; rfl
theorem dots_head {x l : List UInt8} (h : pathB x = true) (hl : l = (splitL 47 x).getLastD []) : pathB (l ++ [46, 46] ++ x) = true := by
  have hn := splitL_ne 47 x
  have hel : elemB l = true := by rw [hl]; exact List.all_eq_true.1 h _ (last_mem hn)
  have hno := elem_no47 hel
  unfold pathB at h ⊢
  rw [split_head 47 x (l ++ [46, 46]) (by
    intro y hy
    rcases List.mem_append.1 hy with hy | hy
    · exact hno y hy
    · have : y = 46 := by simpa using hy
      subst this; decide)]
  cases hs : splitL 47 x with
  | nil => exact absurd hs hn
  | cons u t =>
    rw [hs, List.all_cons, Bool.and_eq_true] at h
    rw [consHead, List.all_cons, elem_mid hel (m := [46, 46]) (by simp [okC_46]) h.1, h.2]; rfl
theorem dot_a_txt (x : List UInt8) : (⟨#[46]⟩ : ByteArray) ++ mkB x = mkB (46 :: x) := mkB_of' (by simp only [cat_list, mkB_list]; simp)
theorem dot_b_txt (x : List UInt8) : mkB x ++ (⟨#[46]⟩ : ByteArray) = mkB (x ++ [46]) := mkB_of' (by simp only [cat_list, mkB_list])
theorem dot_l_txt (x l : List UInt8) : mkB x ++ (⟨#[46]⟩ : ByteArray) ++ mkB l = mkB (x ++ 46 :: l) := mkB_of' (by simp only [cat_list, mkB_list]; simp)
theorem dots_txt (x l : List UInt8) : mkB l ++ (⟨#[46, 46]⟩ : ByteArray) ++ mkB x = mkB (l ++ [46, 46] ++ x) := mkB_of' (by simp only [cat_list, mkB_list])
theorem Strs.last {w : World} {a : Option Addr} {n c : Nat} {es : List (List UInt8)} {l : List UInt8} (h : Strs w (.slice a n c) es) (hn : es.length = n) (h0 : 0 < n) (hl : l = es.getD (n - 1) []) :
    ∃ b off, a = some ⟨b, off, none⟩ ∧ b < w.heap.size ∧ w.cell? ⟨b, off + (n - 1), none⟩ = some (.string (mkB l)) := by
  subst hn hl
  obtain ⟨a', c', hv, _, _, _, h3⟩ := h.ex
  injection hv with e1 e2 e3
  subst e1 e3
  obtain ⟨b, off, rfl, hlt, hc⟩ := h3 h0
  exact ⟨b, off, rfl, hlt, hc _ (by omega)⟩
theorem Strs.src2 {w : World} {a : Option Addr} {m c : Nat} {zs : List (List UInt8)} (h : Strs w (.slice a m c) zs) :
    (a = none → m = 0 ∧ c = 0) ∧ (∀ ad, a = some ad → ∀ j u, (zs.map strV)[j]? = some u → w.cell? (ad.add j) = some u) := ⟨h.src.2.1, h.src.2.2⟩
/-- What the statements look at of a list of texts. -/
def someL (n : Nat) (zs : List (List UInt8)) : List (List UInt8) := (zs.take n).map fewL
theorem someL_take {n k : Nat} {zs : List (List UInt8)} (hn : k < n) (hk : k < zs.length) : (someL n zs).take (k + 1) = (someL n zs).take k ++ [fewL (zs.getD k [])] := by
  unfold someL
  have hl : k < ((zs.take n).map fewL).length := by rw [List.length_map, List.length_take]; omega
  rw [List.take_succ_eq_append_getElem hl]
  congr 2
  rw [List.getElem_map, List.getElem_take, List.getD_eq_getElem?_getD, List.getElem?_eq_getElem hk]; rfl
theorem someL_len (n : Nat) (zs : List (List UInt8)) : (someL n zs).length = min n zs.length := by unfold someL; rw [List.length_map, List.length_take]
theorem someL_le (n : Nat) (zs : List (List UInt8)) : ∀ l ∈ someL n zs, l.length ≤ 400 := by
  intro l hl
  obtain ⟨q, _, rfl⟩ := List.mem_map.1 hl
  exact fewL_le q
theorem jn_take_succ (x : UInt8) {ls : List (List UInt8)} {k : Nat} {y : List UInt8} (h : ls.take (k + 1) = ls.take k ++ [y]) (hl : k < ls.length) :
    jn x (ls.take (k + 1)) = if k = 0 then y else jn x (ls.take k) ++ x :: y := by
  rw [h]
  split
  · rename_i h0; subst h0; simp [jn]
  · rename_i h0
    exact jn_snoc x _ (by intro e; have := congrArg List.length e; rw [List.length_take, List.length_nil] at this; omega) y
theorem cat_txt (x y : List UInt8) : mkB x ++ mkB y = mkB (x ++ y) := mkB_of' (by simp only [cat_list, mkB_list])
theorem own_last {w : World} {base g cap k n : Nat} {e : TypeId} {acc : List (List UInt8)} {y : List UInt8} (h : w.ownsRow base e 1 (.slice (some ⟨g, 0, none⟩) n cap) n ((acc ++ [y]).map strV)) (hk : acc.length = k) (hn : n = k + 1) :
    w.cell? ⟨g, k, none⟩ = some (.string (mkB y)) := by
  rw [h.cellAt k (by omega), List.map_append, List.getElem?_append_right (by rw [List.length_map]; omega), List.length_map, hk, Nat.sub_self]; rfl
end Go.Proofs.Ytceefoiffkgliaa

namespace Go.Proofs.Ytceefoiffkgliaa
open Go.RowKit
set_option maxRecDepth 100000

/-- Blocks of other roles are as they were. -/
structure RKeep (r : Nat) (w : World) (who : Nat → Nat) (w' : World) (who' : Nat → Nat) : Prop where
  block : ∀ k, k < w.heap.size → who k ≠ r → w'.heap[k]? = w.heap[k]?
  who : ∀ k, k < w.heap.size → who' k = who k
  size : w.heap.size ≤ w'.heap.size
/-- What is new has the role r. -/
def rtag (w : World) (who : Nat → Nat) (r : Nat) : Nat → Nat := fun k => if k < w.heap.size then who k else r
theorem rtag_old {w : World} {who : Nat → Nat} {r k : Nat} (h : k < w.heap.size) : rtag w who r k = who k := if_pos h
theorem rtag_new {w : World} {who : Nat → Nat} {r k : Nat} (h : w.heap.size ≤ k) : rtag w who r k = r := if_neg (Nat.not_lt.2 h)
theorem RKeep.same (r : Nat) (w : World) (who : Nat → Nat) : RKeep r w who w who := ⟨fun _ _ _ => rfl, fun _ _ => rfl, Nat.le_refl _⟩
theorem RKeep.below {w w' : World} (h : Below w.heap.size w w') (r : Nat) (who : Nat → Nat) : RKeep r w who w' (rtag w who r) := ⟨fun k hk _ => h.block k hk, fun _ hk => rtag_old hk, h.size⟩
theorem RKeep.belowO {w w' : World} (h : Below w.heap.size w w') (r o : Nat) (who : Nat → Nat) : RKeep o w who w' (rtag w who r) := ⟨fun k hk _ => h.block k hk, fun _ hk => rtag_old hk, h.size⟩
theorem RKeep.grown {r : Nat} {w w' : World} {who : Nat → Nat} {ob : Option Nat} (hg : w.grownBy w' ob) (hb : ∀ b, ob = some b → who b = r) : RKeep r w who w' (rtag w who r) :=
  ⟨fun k hk hr => hg.block k hk (fun e => hr (hb k e.symm)), fun _ hk => rtag_old hk, hg.size⟩

/-- What an operation leaves: a value in a slot; a value in a slot, and what stands in its block (or it has none); what a block holds. -/
inductive RLeaf where
  | val (s : Nat) (v : Value)
  | mem (s : Nat) (p : World → Value → Option Nat → Prop)
  | mem2 (s t : Nat) (p : World → Value → Value → Option Nat → Prop)
  | mems (s : Nat) (p : World → Value → (Nat → Prop) → Prop)
  | box (g : Nat) (o : Obj)
  | any
def RLeaf.holds (k : RLeaf) (r : Nat) (a : Act) (w : World) (who : Nat → Nat) : Prop := match k with
  | .val s v => a.tmps[s]? = some v
  | .mem s p => ∃ v ob, a.tmps[s]? = some v ∧ (∀ b, ob = some b → b < w.heap.size ∧ who b = r) ∧ p w v ob
  | .mem2 s t p => ∃ v u ob, a.tmps[s]? = some v ∧ a.tmps[t]? = some u ∧ (∀ b, ob = some b → b < w.heap.size ∧ who b = r) ∧ p w v u ob
  | .mems s p => ∃ v bs, a.tmps[s]? = some v ∧ (∀ b, bs b → b < w.heap.size ∧ who b = r) ∧ p w v bs
  | .box g o => w.heap[g]? = some o ∧ who g = r
  | .any => True
def RLeaf.near (k : RLeaf) : Prop := match k with
  | .mem _ p => ∀ w w' v ob, (∀ b, ob = some b → w'.heap[b]? = w.heap[b]?) → p w v ob → p w' v ob
  | .mem2 _ _ p => ∀ w w' v u ob, (∀ b, ob = some b → w'.heap[b]? = w.heap[b]?) → p w v u ob → p w' v u ob
  | .mems _ p => ∀ w w' v bs, (∀ b, bs b → w'.heap[b]? = w.heap[b]?) → p w v bs → p w' v bs
  | _ => True
def RLeaf.slotOk (k : RLeaf) (dst : Option Nat) : Bool := match k with
  | .val s _ => dst != some s
  | .mem s _ => dst != some s
  | .mem2 s t _ => dst != some s && dst != some t
  | .mems s _ => dst != some s
  | _ => true
def RLeaf.roleOk (k : RLeaf) (r r' : Nat) : Bool := match k with
  | .mem _ _ => r != r'
  | .mem2 _ _ _ => r != r'
  | .mems _ _ => r != r'
  | .box _ _ => r != r'
  | _ => true
theorem RLeaf.keep {k : RLeaf} {r r' : Nat} {a : Act} {w w' : World} {who who' : Nat → Nat} {dst : Option Nat} {v : Value} (h1 : k.slotOk dst = true) (h2 : k.roleOk r r' = true) (hl : k.near) (hk : RKeep r' w who w' who') (h : k.holds r a w who) :
    k.holds r (a.put dst v) w' who' := by
  cases k with
  | val s u =>
    have hd : dst ≠ some s := by simpa [RLeaf.slotOk] using h1
    simp only [RLeaf.holds] at h ⊢; rw [put_other hd]; exact h
  | mem s p =>
    have hd : dst ≠ some s := by simpa [RLeaf.slotOk] using h1
    have hr : r ≠ r' := by simpa [RLeaf.roleOk] using h2
    obtain ⟨u, ob, hu, hb, hp⟩ := h
    refine ⟨u, ob, by rw [put_other hd]; exact hu, fun b e => ?_, hl w w' u ob (fun b e => ?_) hp⟩
    · obtain ⟨b1, b2⟩ := hb b e
      exact ⟨Nat.lt_of_lt_of_le b1 hk.size, (hk.who b b1).trans b2⟩
    · obtain ⟨b1, b2⟩ := hb b e
      exact hk.block b b1 (by rw [b2]; exact hr)
  | mem2 s t p =>
    have hd : dst ≠ some s ∧ dst ≠ some t := by simpa [RLeaf.slotOk] using h1
    have hr : r ≠ r' := by simpa [RLeaf.roleOk] using h2
    obtain ⟨v1, u, ob, hv, hu, hb, hp⟩ := h
    refine ⟨v1, u, ob, by rw [put_other hd.1]; exact hv, by rw [put_other hd.2]; exact hu, fun b e => ?_, hl w w' v1 u ob (fun b e => ?_) hp⟩
    · obtain ⟨b1, b2⟩ := hb b e
      exact ⟨Nat.lt_of_lt_of_le b1 hk.size, (hk.who b b1).trans b2⟩
    · obtain ⟨b1, b2⟩ := hb b e
      exact hk.block b b1 (by rw [b2]; exact hr)
  | mems s p =>
    have hd : dst ≠ some s := by simpa [RLeaf.slotOk] using h1
    have hr : r ≠ r' := by simpa [RLeaf.roleOk] using h2
    obtain ⟨u, bs, hu, hb, hp⟩ := h
    refine ⟨u, bs, by rw [put_other hd]; exact hu, fun b e => ?_, hl w w' u bs (fun b e => ?_) hp⟩
    · obtain ⟨b1, b2⟩ := hb b e
      exact ⟨Nat.lt_of_lt_of_le b1 hk.size, (hk.who b b1).trans b2⟩
    · obtain ⟨b1, b2⟩ := hb b e
      exact hk.block b b1 (by rw [b2]; exact hr)
  | box g o =>
    have hr : r ≠ r' := by simpa [RLeaf.roleOk] using h2
    obtain ⟨h3, h4⟩ := h
    have hlt := (Array.getElem?_eq_some_iff.1 h3).1
    exact ⟨(hk.block g hlt (by rw [h4]; exact hr)).trans h3, (hk.who g hlt).trans h4⟩
  | any => trivial

/-- Must fact j be kept by operation i: i may stand behind it, and ahead of what uses it up. -/
def rAlive (n : Nat) (deps : List (List Nat)) (till : List Nat) (i j : Nat) : Bool :=
  !(j == i || till.getD j n == i || (deps.getD i []).contains (till.getD j n) || (decide (j < n) && (deps.getD j []).contains i))
def rOk (ops : Array Oper) (S : List Nat) (deps pre : List (List Nat)) (role own till : List Nat) (FF : List RLeaf) : Bool :=
  (List.range ops.size).all fun i => ((dstOf ops i).all fun d => S.contains d) &&
    ((pre.getD i []).all fun d => decide (d < FF.length) && (decide (ops.size ≤ d) || (deps.getD i []).contains d) && (till.getD d ops.size == i || decide (ops.size ≤ till.getD d ops.size) || (deps.getD (till.getD d ops.size) []).contains i)) &&
    (List.range FF.length).all fun j => !rAlive ops.size deps till i j || ((FF.getD j .any).slotOk (dstOf ops i) && (FF.getD j .any).roleOk (role.getD j 0) (own.getD i 0))

/-- Behind an operation that turns blocks of role o alone: the fact that it leaves, of role r. -/
def RPost (ops : Array Oper) (i : Nat) (r o : Nat) (k : RLeaf) (B : Nat) (w0 : World) (a : Act) (w : World) (who : Nat → Nat) (a' : Act) (w' : World) : Prop :=
  (∃ v, a' = a.put (dstOf ops i) v) ∧ Below B w0 w' ∧ ∃ who', RKeep o w who w' who' ∧ k.holds r a' w' who'

theorem rol_run {P : Program} {ops : Array Oper} {Q : Exit → Act → World → Prop} {id : Nat} {a0 : Act} {w0 w : World} (hm : P.follows .mixedOrders = true) (deps : List (List Nat)) (hg : laneGood ops deps = true)
    (S : List Nat) (pre : List (List Nat)) (role own till : List Nat) (FF : List RLeaf) (hok : rOk ops S deps pre role own till FF = true) (hnear : ∀ j, j < FF.length → (FF.getD j .any).near) (B N : Nat) (hd : a0.defers = []) (hb : Below B w0 w) (hN : N = w.heap.size)
    (who0 : Nat → Nat) (hE0 : ∀ j, ops.size ≤ j → j < FF.length → (FF.getD j .any).holds (role.getD j 0) a0 w.drew who0)
    (hstep : ∀ i, i < ops.size → ∀ a w who, Lane a0 S B N w0 a w → (∀ d ∈ pre.getD i [], (FF.getD d .any).holds (role.getD d 0) a w who) → wpOp P ops Q i (RPost ops i (role.getD i 0) (own.getD i 0) (FF.getD i .any) B w0 a w who) a w)
    (hend : ∀ a w who, Lane a0 S B N w0 a w → (∀ j, j < FF.length → ops.size ≤ till.getD j ops.size → (FF.getD j .any).holds (role.getD j 0) a w who) → Q .normal a w) : (Code.region id ops true).wp P Q a0 w := by
  subst hN
  have hgood : ∀ i, i < ops.size → (∀ d ∈ deps.getD i [], d < i ∧ (d ∈ laneDeps ops i ∨ ∃ e ∈ laneDeps ops i, d ∈ deps.getD e [])) ∧ ∀ e ∈ laneDeps ops i, e < i := fun i hi => by
    unfold laneGood at hg
    have h := List.all_eq_true.1 hg i (List.mem_range.2 hi)
    rw [Bool.and_eq_true] at h
    refine ⟨fun d hd => ?_, fun e he => of_decide_eq_true (List.all_eq_true.1 h.2 e he)⟩
    have h1 := List.all_eq_true.1 h.1 d hd
    rw [Bool.and_eq_true, Bool.or_eq_true] at h1
    refine ⟨of_decide_eq_true h1.1, h1.2.imp (fun k => by simpa using k) fun k => ?_⟩
    obtain ⟨e, he, k⟩ := List.any_eq_true.1 k
    exact ⟨e, he, by simpa using k⟩
  refine wp_region_any hm (lane_inv (fun listed a w' => listed.size = ops.size ∧ (∃ who, Lane a0 S B w.heap.size w0 a w' ∧ ∀ j, j < FF.length → (j < ops.size → listed.getD j true = true) → (till.getD j ops.size < ops.size → listed.getD (till.getD j ops.size) true = false) → (FF.getD j .any).holds (role.getD j 0) a w' who) ∧ (∀ j, j < ops.size → listed.getD j true = true → ∀ d ∈ deps.getD j [], listed.getD d true = true)) ?_ ?_ _ _ _ _ (by simp) (by simp) ?_)
  · rintro listed a w' i hsz hi ⟨_, ⟨who, hG, hFF⟩, hC⟩
    obtain ⟨hun, o, ho, hall⟩ := mem_ready.1 hi
    have hin : i < ops.size := (Array.getElem?_eq_some_iff.1 ho).1
    have hdir : ∀ e ∈ laneDeps ops i, listed.getD e true = true := fun e he => by
      obtain ⟨x, hx, hb, rfl⟩ := (mem_laneDeps ho).1 he
      exact getD_false (hall x hx hb)
    have hdl : ∀ d ∈ deps.getD i [], listed.getD d true = true := fun d hd => by
      rcases ((hgood i hin).1 d hd).2 with h | ⟨e, he, h⟩
      · exact hdir d h
      · exact hC e (Nat.lt_trans ((hgood i hin).2 e he) hin) (hdir e he) d h
    unfold rOk at hok
    have h1 := List.all_eq_true.1 hok i (List.mem_range.2 hin)
    rw [Bool.and_eq_true, Bool.and_eq_true] at h1
    obtain ⟨⟨hS, hP⟩, hA⟩ := h1
    have hpre : ∀ d ∈ pre.getD i [], (FF.getD d .any).holds (role.getD d 0) a w' who := fun d hd => by
      have h2 := List.all_eq_true.1 hP d hd
      simp only [Bool.and_eq_true, Bool.or_eq_true, decide_eq_true_iff, beq_iff_eq] at h2
      obtain ⟨⟨h3, h4⟩, h5⟩ := h2
      refine hFF d h3 (fun hdn => ?_) (fun ht => ?_)
      · rcases h4 with h4 | h4
        · omega
        · exact hdl d (by simpa using h4)
      · rcases h5 with (h5 | h5) | h5
        · rw [h5]; exact hun
        · omega
        · cases e : listed.getD (till.getD d ops.size) true with
          | false => rfl
          | true => have := hC _ ht e i (by simpa using h5); rw [this] at hun; cases hun
    refine wpOp_mono ?_ (hstep i hin a w' who hG hpre)
    rintro a' w2 ⟨⟨v, rfl⟩, hb2, who', hk, hnew⟩
    refine ⟨by rw [Array.size_setIfInBounds]; exact hsz, ⟨who', hG.put v (fun d e => ?_) hb2 hk.size, fun j hj hl ht => ?_⟩, fun j hj hl d hd => ?_⟩
    · rw [e] at hS
      simpa using hS
    · by_cases hji : j = i
      · rw [hji]; exact hnew
      · have hti : till.getD j ops.size ≠ i := fun e => by
          have := ht (by rw [e]; exact hin)
          rw [e, Array.getD_eq_getD_getElem?, Array.getElem?_setIfInBounds_self_of_lt (by omega)] at this
          cases this
        have hl1 : j < ops.size → listed.getD j true = true := fun hjn => lane_set (hl hjn) hji
        have ht1 : till.getD j ops.size < ops.size → listed.getD (till.getD j ops.size) true = false := fun hjn => by
          have := ht hjn
          rwa [getD_set_ne true (Ne.symm hti)] at this
        have h2 := List.all_eq_true.1 hA j (List.mem_range.2 hj)
        have hal : rAlive ops.size deps till i j = true := by
          unfold rAlive
          simp only [Bool.not_eq_true', Bool.or_eq_false_iff, beq_eq_false_iff_ne, ne_eq, Bool.and_eq_false_iff, decide_eq_false_iff_not]
          refine ⟨⟨⟨hji, hti⟩, ?_⟩, ?_⟩
          · cases e : (deps.getD i []).contains (till.getD j ops.size) with
            | false => rfl
            | true =>
              have hm : till.getD j ops.size ∈ deps.getD i [] := by simpa using e
              have h3 := hdl _ hm
              have h4 := ht1 (Nat.lt_trans ((hgood i hin).1 _ hm).1 hin)
              rw [h3] at h4; cases h4
          · by_cases hjn : j < ops.size
            · right
              cases e : (deps.getD j []).contains i with
              | false => rfl
              | true =>
                have hm : i ∈ deps.getD j [] := by simpa using e
                have := hC j hjn (hl1 hjn) i hm
                rw [this] at hun; cases hun
            · exact .inl hjn
        rw [hal, Bool.not_true, Bool.false_or, Bool.and_eq_true] at h2
        exact RLeaf.keep h2.1 h2.2 (hnear j hj) hk (hFF j hj hl1 ht1)
    · have : listed.getD d true = true := by
        by_cases hji : j = i
        · rw [hji] at hd; exact hdl d hd
        · exact hC j hj (lane_set hl hji) d hd
      by_cases hdi : d = i
      · rw [hdi, Array.getD_eq_getD_getElem?, Array.getElem?_setIfInBounds_self_of_lt (by omega)]; rfl
      · rw [getD_set_ne true (Ne.symm hdi)]; exact this
  · rintro listed a w' hsz hr ⟨_, ⟨who, hG, hFF⟩, _⟩
    have hall : ∀ m j, j < m → j < ops.size → listed.getD j true = true := by
      intro m
      induction m with
      | zero => intro j h; exact absurd h (Nat.not_lt_zero j)
      | succ m ih =>
        intro j hjm hjs
        cases e : listed.getD j true with
        | true => rfl
        | false =>
          exfalso
          have hmem : j ∈ Region.ready .any ops listed := mem_ready.2 ⟨e, ops[j], Array.getElem?_eq_getElem hjs, fun x hx hb => by
            have hlt := (hgood j hjs).2 x.on ((mem_laneDeps (Array.getElem?_eq_getElem hjs)).2 ⟨x, hx, hb, rfl⟩)
            exact getD_true (by omega) (ih x.on (by omega) (by omega))⟩
          rw [hr] at hmem
          cases hmem
    exact hend a w' who hG fun j hj ht => hFF j hj (fun hjn => hall (j + 1) j (Nat.lt_succ_self j) hjn) (fun h => absurd h (Nat.not_lt.2 ht))
  · refine ⟨by simp, ⟨who0, lane_start hd S hb, fun j hj hl _ => ?_⟩, fun j hj hl => ?_⟩
    · by_cases hjn : j < ops.size
      · have := hl hjn
        rw [Array.getD_eq_getD_getElem?, Array.getElem?_replicate, if_pos hjn] at this
        cases this
      · exact hE0 j (Nat.not_lt.1 hjn) hj
    · exfalso
      rw [Array.getD_eq_getD_getElem?, Array.getElem?_replicate, if_pos hj] at hl
      cases hl

/-! ### The operations -/
section
variable {P : Program} {ops : Array Oper} {Q : Exit → Act → World → Prop} {a : Act} {w w0 : World} {who : Nat → Nat} {i B r ro : Nat} {o : Oper}
theorem rol_wp {K : Act → World → Prop} (ho : ops[i]? = some o) (hw : Region.wanted o (yielded ops a.tmps) = true) (h : o.wp P a w K Q) : wpOp P ops Q i K a w := by
  unfold wpOp
  simp only [ho]
  rw [if_pos hw]
  exact Or.inl h
theorem dst_of (ho : ops[i]? = some o) : dstOf ops i = o.dst := by unfold dstOf; rw [ho]; rfl
/-- It reads, or reckons. -/
theorem rol_val (ho : ops[i]? = some o) (hw : Region.wanted o (yielded ops a.tmps) = true) {s : Nat} (hd : o.dst = some s) (hs : s < a.tmps.size) {v : Value} (hr : Sem.run P (execOp a.eval o) w = .ok (.value v) w) (hb : Below B w0 w) :
    wpOp P ops Q i (RPost ops i r ro (.val s v) B w0 a w who) a w := by
  refine rol_wp ho hw ?_
  unfold Oper.wp
  rw [hr, Oper.upon_value, hd]
  refine ⟨⟨v, by rw [dst_of ho, hd]⟩, hb, who, RKeep.same _ _ _, put_self _ hs⟩
/-- It is not wanted. -/
theorem rol_skip (ho : ops[i]? = some o) (hw : Region.wanted o (yielded ops a.tmps) = false) (hb : Below B w0 w) : wpOp P ops Q i (RPost ops i r ro .any B w0 a w who) a w := by
  unfold wpOp
  simp only [ho]
  rw [if_neg (by rw [hw]; simp)]
  exact ⟨⟨undef, by rw [dst_of ho]⟩, hb, who, RKeep.same _ _ _, trivial⟩
/-- What stands in a slot, with its block, is put into another one. -/
theorem rol_move (ho : ops[i]? = some o) (hw : Region.wanted o (yielded ops a.tmps) = true) {s t : Nat} (hd : o.dst = some s) (hs : s < a.tmps.size) (hop : o.op = .move (.tmp t) ∨ o.op = .assign (.tmp t)) {p : World → Value → Option Nat → Prop}
    (h : (RLeaf.mem t p).holds r a w who) (hb : Below B w0 w) : wpOp P ops Q i (RPost ops i r ro (.mem s p) B w0 a w who) a w := by
  obtain ⟨v, ob, hv, hob, hp⟩ := h
  refine rol_wp ho hw ?_
  have he := eval_slot hv
  unfold Oper.wp
  have hr : Sem.run P (execOp a.eval o) w = .ok (.value v) w := by rcases hop with hop | hop <;> simp only [execOp, hop, Sem.run_pure, he]
  rw [hr, Oper.upon_value, hd]
  exact ⟨⟨v, by rw [dst_of ho, hd]⟩, hb, who, RKeep.same _ _ _, v, ob, put_self _ hs, hob, hp⟩
/-- It makes one block. -/
theorem rol_new (ho : ops[i]? = some o) (hw : Region.wanted o (yielded ops a.tmps) = true) {s : Nat} (hd : o.dst = some s) (hs : s < a.tmps.size) {v : Value} {x : Obj} (hr : Sem.run P (execOp a.eval o) w = .ok (.value v) (w.alloc x)) {p : World → Value → Option Nat → Prop}
    (hp : p (w.alloc x) v (some w.heap.size)) (hb : Below B w0 w) (hB : B ≤ w.heap.size) : wpOp P ops Q i (RPost ops i r r (.mem s p) B w0 a w who) a w := by
  refine rol_wp ho hw ?_
  unfold Oper.wp
  rw [hr, Oper.upon_value, hd]
  refine ⟨⟨v, by rw [dst_of ho, hd]⟩, hb.alloc hB _, rtag w who r, RKeep.below ((Below.refl _ _).alloc (Nat.le_refl _) _) r who, v, some w.heap.size, put_self _ hs, fun b e => ?_, hp⟩
  cases e
  exact ⟨by simp, rtag_new (Nat.le_refl _)⟩
/-- An append onto a row of the region's own. -/
theorem rol_grow (ho : ops[i]? = some o) (hw : Region.wanted o (yielded ops a.tmps) = true) {s : Nat} (hd : o.dst = some s) (hs : s < a.tmps.size) {v' : Value} {w' : World} (hr : Sem.run P (execOp a.eval o) w = .ok (.value v') w') {ob ob' : Option Nat}
    (hg : w.grownBy w' ob) (hob : ∀ b, ob = some b → b < w.heap.size ∧ who b = r) (hob' : ob' = ob ∨ ob' = some w.heap.size ∧ w.heap.size < w'.heap.size) {p : World → Value → Option Nat → Prop} (hp : p w' v' ob') (hb : Below B w0 w) (hB : B ≤ w.heap.size) (hrow : ∀ b, ob = some b → B ≤ b) :
    wpOp P ops Q i (RPost ops i r r (.mem s p) B w0 a w who) a w := by
  refine rol_wp ho hw ?_
  unfold Oper.wp
  rw [hr, Oper.upon_value, hd]
  refine ⟨⟨v', by rw [dst_of ho, hd]⟩, hb.grown hg hB hrow, rtag w who r, RKeep.grown hg (fun b e => (hob b e).2), v', ob', put_self _ hs, fun b e => ?_, hp⟩
  rcases hob' with h | ⟨h, hlt⟩
  · rw [h] at e
    obtain ⟨b1, b2⟩ := hob b e
    exact ⟨Nat.lt_of_lt_of_le b1 hg.size, (rtag_old b1).trans b2⟩
  · rw [h] at e
    cases e
    exact ⟨hlt, rtag_new (Nat.le_refl _)⟩
/-- It writes into one block. -/
theorem rol_store (ho : ops[i]? = some o) (hw : Region.wanted o (yielded ops a.tmps) = true) (hd : o.dst = none) {g : Nat} {x x' : Obj} {w' : World} (hr : Sem.run P (execOp a.eval o) w = .ok .skip w') (hx : w.heap[g]? = some x ∧ who g = r) (hx' : w'.heap[g]? = some x')
    (hk : ∀ k, k ≠ g → w'.heap[k]? = w.heap[k]?) (hsz : w'.heap.size = w.heap.size) (hb : Below B w0 w') : wpOp P ops Q i (RPost ops i r r (.box g x') B w0 a w who) a w := by
  refine rol_wp ho hw ?_
  unfold Oper.wp
  rw [hr, Oper.upon_skip, hd]
  refine ⟨⟨undef, by rw [dst_of ho, hd]⟩, hb, who, ⟨fun k _ hk2 => hk k (fun e => hk2 (by rw [e]; exact hx.2)), fun _ _ => rfl, by omega⟩, hx', hx.2⟩
/-- A call: what comes back, in a world that has grown. -/
theorem rol_call (ho : ops[i]? = some o) (hw : Region.wanted o (yielded ops a.tmps) = true) {s : Nat} (hd : o.dst = some s) (hs : s < a.tmps.size) {f : Nat} {vs : Array Value} (hr : Sem.run P (execOp a.eval o) w = .ok (.enter f vs) w) {R : Ending → World → Prop} (hc : Calls P f vs w R) {k : RLeaf}
    (h : ∀ e w', R e w' → ∃ v, e = .returned v ∧ Below w.heap.size w w' ∧ (k = .val s v ∨ ∃ p ob, k = .mem s p ∧ (∀ b, ob = some b → w.heap.size ≤ b ∧ b < w'.heap.size) ∧ p w' v ob)) (hb : Below B w0 w) (hB : B ≤ w.heap.size) :
    wpOp P ops Q i (RPost ops i r r k B w0 a w who) a w := by
  refine rol_wp ho hw ?_
  unfold Oper.wp
  rw [hr, Oper.upon_enter]
  refine hc.mono fun e w' hR => ?_
  obtain ⟨v, rfl, hb1, hk⟩ := h e w' hR
  rw [hd]
  refine ⟨⟨v, by rw [dst_of ho, hd]⟩, hb.trans (hb1.mono hB), rtag w who r, RKeep.below hb1 r who, ?_⟩
  rcases hk with rfl | ⟨p, ob, rfl, hob, hp⟩
  · exact put_self _ hs
  · refine ⟨v, ob, put_self _ hs, fun b e => ?_, hp⟩
    obtain ⟨b1, b2⟩ := hob b e
    exact ⟨b2, rtag_new b1⟩
/-- A call whose answer's memory is several blocks, all new (it turns none that was: the role that it may turn is any one). -/
theorem rol_calls (ho : ops[i]? = some o) (hw : Region.wanted o (yielded ops a.tmps) = true) {s : Nat} (hd : o.dst = some s) (hs : s < a.tmps.size) {f : Nat} {vs : Array Value} (hr : Sem.run P (execOp a.eval o) w = .ok (.enter f vs) w) {R : Ending → World → Prop} (hc : Calls P f vs w R) {k : RLeaf}
    (h : ∀ e w', R e w' → ∃ v, e = .returned v ∧ Below w.heap.size w w' ∧ (k = .val s v ∨ (∃ p ob, k = .mem s p ∧ (∀ b, ob = some b → w.heap.size ≤ b ∧ b < w'.heap.size) ∧ p w' v ob) ∨ ∃ p bs, k = .mems s p ∧ (∀ b, bs b → w.heap.size ≤ b ∧ b < w'.heap.size) ∧ p w' v bs)) (hb : Below B w0 w) (hB : B ≤ w.heap.size) :
    wpOp P ops Q i (RPost ops i r ro k B w0 a w who) a w := by
  refine rol_wp ho hw ?_
  unfold Oper.wp
  rw [hr, Oper.upon_enter]
  refine hc.mono fun e w' hR => ?_
  obtain ⟨v, rfl, hb1, hk⟩ := h e w' hR
  rw [hd]
  refine ⟨⟨v, by rw [dst_of ho, hd]⟩, hb.trans (hb1.mono hB), rtag w who r, RKeep.belowO hb1 r ro who, ?_⟩
  rcases hk with rfl | ⟨p, ob, rfl, hob, hp⟩ | ⟨p, bs, rfl, hob, hp⟩
  · exact put_self _ hs
  · refine ⟨v, ob, put_self _ hs, fun b e => ?_, hp⟩
    obtain ⟨b1, b2⟩ := hob b e
    exact ⟨b2, rtag_new b1⟩
  · refine ⟨v, bs, put_self _ hs, fun b e => ?_, hp⟩
    obtain ⟨b1, b2⟩ := hob b e
    exact ⟨b2, rtag_new b1⟩
/-- It makes one block: the role that it may turn is any one. -/
theorem rol_newO (ho : ops[i]? = some o) (hw : Region.wanted o (yielded ops a.tmps) = true) {s : Nat} (hd : o.dst = some s) (hs : s < a.tmps.size) {v : Value} {x : Obj} (hr : Sem.run P (execOp a.eval o) w = .ok (.value v) (w.alloc x)) {p : World → Value → Option Nat → Prop}
    (hp : p (w.alloc x) v (some w.heap.size)) (hb : Below B w0 w) (hB : B ≤ w.heap.size) : wpOp P ops Q i (RPost ops i r ro (.mem s p) B w0 a w who) a w := by
  refine rol_wp ho hw ?_
  unfold Oper.wp
  rw [hr, Oper.upon_value, hd]
  refine ⟨⟨v, by rw [dst_of ho, hd]⟩, hb.alloc hB _, rtag w who r, RKeep.belowO ((Below.refl _ _).alloc (Nat.le_refl _) _) r ro who, v, some w.heap.size, put_self _ hs, fun b e => ?_, hp⟩
  cases e
  exact ⟨by simp, rtag_new (Nat.le_refl _)⟩
/-- It reckons out of memory that several slots hold: a value whose blocks are of one role. -/
theorem rol_vals (ho : ops[i]? = some o) (hw : Region.wanted o (yielded ops a.tmps) = true) {s : Nat} (hd : o.dst = some s) (hs : s < a.tmps.size) {v : Value} (hr : Sem.run P (execOp a.eval o) w = .ok (.value v) w) {p : World → Value → (Nat → Prop) → Prop} {bs : Nat → Prop}
    (hbs : ∀ b, bs b → b < w.heap.size ∧ who b = r) (hp : p w v bs) (hb : Below B w0 w) : wpOp P ops Q i (RPost ops i r ro (.mems s p) B w0 a w who) a w := by
  refine rol_wp ho hw ?_
  unfold Oper.wp
  rw [hr, Oper.upon_value, hd]
  exact ⟨⟨v, by rw [dst_of ho, hd]⟩, hb, who, RKeep.same _ _ _, v, bs, put_self _ hs, hbs, hp⟩
end
end Go.Proofs.Ytceefoiffkgliaa

namespace Go.Proofs.Ytceefoiffkgliaa
open Go.RowKit
set_option maxRecDepth 100000

section
variable {P : Program} {ops : Array Oper} {a : Act} {w : World} {o : Oper}
theorem want_yes {j s : Nat} {b : Bool} (hg : o.guard = some (j, b)) (hd : dstOf ops j = some s) (hs : a.tmps[s]? = some (.bool b)) : Region.wanted o (yielded ops a.tmps) = true := by
  have h : yielded ops a.tmps j = some b := by
    unfold yielded
    have : (ops[j]?).bind (·.dst) = some s := hd
    rw [this, Option.bind_some, hs]
  unfold Region.wanted
  rw [hg]
  simp only [h]
  simp
theorem want_no {j s : Nat} {b b' : Bool} (hg : o.guard = some (j, b)) (hd : dstOf ops j = some s) (hs : a.tmps[s]? = some (.bool b')) (hne : b' ≠ b) : Region.wanted o (yielded ops a.tmps) = false := by
  have h : yielded ops a.tmps j = some b' := by
    unfold yielded
    have : (ops[j]?).bind (·.dst) = some s := hd
    rw [this, Option.bind_some, hs]
  unfold Region.wanted
  rw [hg]
  simp only [h]
  simp [hne]
/-- An operation of the region that is not wanted, for what guards it was not. -/
theorem want_undef {j s : Nat} {b : Bool} (hg : o.guard = some (j, b)) (hd : dstOf ops j = some s) (hs : a.tmps[s]? = some undef) : Region.wanted o (yielded ops a.tmps) = false := by
  have h : yielded ops a.tmps j = none := by
    unfold yielded
    have : (ops[j]?).bind (·.dst) = some s := hd
    rw [this, Option.bind_some, hs]
    rfl
  unfold Region.wanted
  rw [hg]
  simp only [h]
  rfl
/-- It is not wanted: what is told of its slot. -/
theorem rol_val_skip {Q : Exit → Act → World → Prop} {w0 : World} {who : Nat → Nat} {i B r ro : Nat} (ho : ops[i]? = some o) (hw : Region.wanted o (yielded ops a.tmps) = false) {s : Nat} (hd : o.dst = some s) (hs : s < a.tmps.size) (hb : Below B w0 w) :
    wpOp P ops Q i (RPost ops i r ro (.val s undef) B w0 a w who) a w := by
  unfold wpOp
  simp only [ho]
  rw [if_neg (by rw [hw]; simp), hd]
  exact ⟨⟨undef, by rw [dst_of ho, hd]⟩, hb, who, RKeep.same _ _ _, put_self _ hs⟩
theorem ex_move {x : Operand} {v : Value} (hop : o.op = .move x ∨ o.op = .assign x) (hx : a.eval x = v) : Sem.run P (execOp a.eval o) w = .ok (.value v) w := by
  rcases hop with hop | hop <;> simp only [execOp, hop, Sem.run_pure, hx]
theorem ex_field {t : TypeId} {x : Operand} {g k c : Nat} (hop : o.op = .fieldAddr t x k) (hx : a.eval x = .pointer (some ⟨g, c, none⟩)) {v : Value} (hr : Sem.run P (Instr.fieldAt t (.pointer (some ⟨g, c, none⟩)) k) w = .ok v w) : Sem.run P (execOp a.eval o) w = .ok (.value v) w := by
  simp only [execOp, hop, hx]
  simp [hr]
theorem ex_load {t : TypeId} {x : Operand} {q : Addr} {v : Value} (hop : o.op = .load t x) (hx : a.eval x = .pointer (some q)) (hr : Sem.run P (Instr.loadAt t (.pointer (some q))) w = .ok v w) : Sem.run P (execOp a.eval o) w = .ok (.value v) w := by
  simp only [execOp, hop, hx]
  simp [hr]
theorem ex_bin {op : BinOp} {t u : TypeId} {x y : Operand} {vx vy v : Value} (hop : o.op = .binOp op t x y u) (hx : a.eval x = vx) (hy : a.eval y = vy) (hq : Sem.run P (eqGuard op t x y vx vy) w = .ok () w) (hr : Sem.run P (binOp op t vx vy) w = .ok v w) : Sem.run P (execOp a.eval o) w = .ok (.value v) w := by
  simp only [execOp, hop, hx, hy]
  simp [hq, hr]
theorem ex_un {op : UnOp} {t : TypeId} {x : Operand} {vx v : Value} (hop : o.op = .unOp op t x) (hx : a.eval x = vx) (hr : Sem.run P (Op.unary op vx) w = .ok v w) : Sem.run P (execOp a.eval o) w = .ok (.value v) w := by
  simp only [execOp, hop, hx]
  simp [hr]
theorem ex_pick_yes {c x y : Operand} {v : Value} (hop : o.op = .pick c x y) (hc : a.eval c = .bool true) (hx : a.eval x = v) : Sem.run P (execOp a.eval o) w = .ok (.value v) w := by
  simp only [execOp, hop, hc]
  simp [hx, asBool]
theorem ex_pick_no {c x y : Operand} {v : Value} (hop : o.op = .pick c x y) (hc : a.eval c = .bool false) (hx : a.eval y = v) : Sem.run P (execOp a.eval o) w = .ok (.value v) w := by
  simp only [execOp, hop, hc]
  simp [hx, asBool]
theorem ex_extract {x : Operand} {k : Nat} {vs : Array Value} {v : Value} (hop : o.op = .extract x k) (hx : a.eval x = .tuple vs) (hv : vs[k]? = some v) : Sem.run P (execOp a.eval o) w = .ok (.value v) w := by
  simp only [execOp, hop, hx]
  simp [Instr.extract, hv]
theorem ex_len {x : Operand} {t : TypeId} {vx v : Value} (hop : o.op = .call { callee := .builtin .len, args := #[x], argTypes := #[t] }) (hx : a.eval x = vx) (hr : Sem.run P (Builtin.len_ #[t] o.type #[vx]) w = .ok v w) : Sem.run P (execOp a.eval o) w = .ok (.value v) w := by
  simp only [execOp, hop]
  simp [resolve, invoke, builtin, hx, hr]
theorem ex_call {f : Nat} {xs : Array Operand} {ts : Array TypeId} {vs : Array Value} (hop : o.op = .call { callee := .value (.func f), args := xs, argTypes := ts }) (hx : xs.map a.eval = vs) (hef : ∀ args w, (callFunc f args).run P w = .ok (.enter f args) w) : Sem.run P (execOp a.eval o) w = .ok (.enter f vs) w := by
  have := hef vs w
  subst hx
  simp only [execOp, hop]
  simp [resolve, invoke, Act.eval, Deferred.ofValue]
  simpa using this
theorem ex_append {x y : Operand} {t : TypeId} {vx vy v : Value} {w' : World} (hop : o.op = .call { callee := .builtin .append, args := #[x, y], argTypes := #[t, t] }) (hx : a.eval x = vx) (hy : a.eval y = vy) (hr : Sem.run P (Builtin.append_ #[t, t] o.type #[vx, vy]) w = .ok v w') : Sem.run P (execOp a.eval o) w = .ok (.value v) w' := by
  simp only [execOp, hop]
  simp [resolve, invoke, builtin, hx, hy, hr]
theorem ex_lookup {x y : Operand} {t : TypeId} {vx vy v : Value} {c : Bool} (hop : o.op = .lookup t x y c) (hx : a.eval x = vx) (hy : a.eval y = vy) (hr : Sem.run P (Instr.lookup t vx vy c) w = .ok v w) : Sem.run P (execOp a.eval o) w = .ok (.value v) w := by
  simp only [execOp, hop, hx, hy]
  simp [hr]
theorem ex_build {t : TypeId} {xs : Array (Nat × Operand)} {vs : Array (Nat × Value)} {v : Value} (hop : o.op = .build t xs) (hx : (xs.map fun (i, x) => (i, a.eval x)) = vs) (hr : Sem.run P (Instr.build t vs) w = .ok v w) : Sem.run P (execOp a.eval o) w = .ok (.value v) w := by
  subst hx
  simp only [execOp, hop]
  simp [hr]
theorem ex_slice {t : TypeId} {n : Nat} {xs : Array (Nat × Operand)} {vs : Array (Nat × Value)} {v : Value} {w' : World} (hop : o.op = .buildSlice t n xs) (hx : (xs.map fun (i, x) => (i, a.eval x)) = vs) (hr : Sem.run P (Instr.buildSlice t n vs) w = .ok v w') : Sem.run P (execOp a.eval o) w = .ok (.value v) w' := by
  subst hx
  simp only [execOp, hop]
  simp [hr]
theorem ex_store {t : TypeId} {x y : Operand} {vx vy : Value} {w' : World} (hop : o.op = .store t x y) (hx : a.eval x = vx) (hy : a.eval y = vy) (hr : Sem.run P (Instr.storeAt t vx vy) w = .ok () w') : Sem.run P (execOp a.eval o) w = .ok .skip w' := by
  simp only [execOp, hop, hx, hy]
  simp [hr]
theorem ex_cut {t : TypeId} {x y : Operand} {vx vy v : Value} (hop : o.op = .slice t x none (some y) none) (hx : a.eval x = vx) (hy : a.eval y = vy) (hr : Sem.run P (Instr.sliceAt t vx none (some vy) none) w = .ok v w) : Sem.run P (execOp a.eval o) w = .ok (.value v) w := by
  simp only [execOp, hop, Option.map, hx, hy]
  simp [hr]
theorem ex_index {t : TypeId} {x y : Operand} {vx vy v : Value} (hop : o.op = .indexAddr t x y) (hx : a.eval x = vx) (hy : a.eval y = vy) (hr : Sem.run P (Instr.indexAt t vx vy) w = .ok v w) : Sem.run P (execOp a.eval o) w = .ok (.value v) w := by
  simp only [execOp, hop, hx, hy]
  simp [hr]
end
end Go.Proofs.Ytceefoiffkgliaa

namespace Go.Proofs.Ytceefoiffkgliaa
open Go.RowKit
set_option linter.unusedVariables false
set_option maxRecDepth 100000

/-! ### Slices of texts -/
def strC (l : List (List UInt8)) : List Value := l.map strV
theorem strC_len (l : List (List UInt8)) : (strC l).length = l.length * 1 := by simp [strC]
theorem strC_app (l m : List (List UInt8)) : strC (l ++ m) = strC l ++ strC m := by simp [strC]
theorem strC_one (l : List (List UInt8)) : ((strC l).all fun u => u.oneCell') = true := strs_one l
theorem Strs.belowB {w w' : World} {v : Value} {zs : List (List UInt8)} (h : Strs w v zs) (hb : Below w.heap.size w w') : Strs w' v zs := by
  obtain ⟨a, c, hv, h1, h2, hn, h3⟩ := h.ex
  refine ⟨a, c, hv, h1, h2, hn, fun hp => ?_⟩
  obtain ⟨b, off, ha, hlt, hc⟩ := h3 hp
  exact ⟨b, off, ha, Nat.lt_of_lt_of_le hlt hb.size, fun j hj => by rw [hb.cell (by exact hlt)]; exact hc j hj⟩
theorem Strs.nil {w : World} {A : Option Addr} {n c : Nat} {l : List (List UInt8)} (h : Strs w (.slice A n c) l) : A = none → n = 0 ∧ c = 0 := h.src.2.1
theorem Strs.cells {w : World} {A : Option Addr} {n c : Nat} {l : List (List UInt8)} (h : Strs w (.slice A n c) l) : ∀ ad, A = some ad → ∀ j u, (strC l)[j]? = some u → w.cell? (ad.add j) = some u := h.src.2.2
theorem stsO {w : World} {base : Nat} {e : TypeId} {v : Value} {ns : List (List UInt8)} (h : w.ownsRow base e 1 v ns.length (strC ns)) : ∃ a c, v = .slice a ns.length c ∧ Strs w (.slice a ns.length c) ns := by
  have hst := Strs.owned h
  obtain ⟨a, c, rfl, _⟩ := hst.ex
  exact ⟨a, c, rfl, hst⟩
theorem Strs.lenE {w : World} {A : Option Addr} {n c : Nat} {l : List (List UInt8)} (h : Strs w (.slice A n c) l) : l.length = n ∧ n ≤ c ∧ c ≤ maxLen := by
  obtain ⟨_, _, hv, h1, h2, _⟩ := h.ex
  injection hv with e1 e2 e3
  subst e2 e3; exact ⟨rfl, h1, h2⟩
theorem Nds.lenE {w : World} {A : Option Addr} {n c : Nat} {l : List Nd} (h : Nds w (.slice A n c) l) : l.length = n ∧ n ≤ c ∧ c ≤ maxLen := by
  obtain ⟨_, _, hv, h1, h2, _⟩ := h.ex
  injection hv with e1 e2 e3
  subst e2 e3; exact ⟨rfl, h1, h2⟩
theorem flat_take {α : Type} (ls : List (List α)) (k : Nat) (h : k < ls.length) : (ls.take (k + 1)).flatten = (ls.take k).flatten ++ ls.getD k [] := by
  rw [List.take_succ_eq_append_getElem h, List.flatten_append]
  simp [List.getD_eq_getElem?_getD, h]
theorem flat_le {α : Type} (ls : List (List α)) (k : Nat) : (ls.take k).flatten.length ≤ ls.flatten.length := by
  conv => rhs; rw [← List.take_append_drop k ls, List.flatten_append, List.length_append]
  omega

/-! ### Nds -/
/-- A slice of slices, in memory. -/
structure NdsL (w : World) (v : Value) (ls : List (List (Nd))) : Prop where
  ex : ∃ b off c, v = .slice (some ⟨b, off, none⟩) ls.length c ∧ ls.length ≤ c ∧ c ≤ maxLen ∧ ∀ j, j < ls.length → ∃ a n c', w.cell? ⟨b, off + j, none⟩ = some (.slice a n c') ∧ Nds w (.slice a n c') (ls.getD j [])
theorem NdsL.below {w w' : World} {v : Value} {ls : List (List (Nd))} (h : NdsL w v ls) (hb : Below w.heap.size w w') : NdsL w' v ls := by
  obtain ⟨b, off, c, hv, h1, h2, h3⟩ := h.ex
  refine ⟨b, off, c, hv, h1, h2, fun j hj => ?_⟩
  obtain ⟨a, n, c', h4, h5⟩ := h3 j hj
  exact ⟨a, n, c', cell_keep h4 hb, Nds.below h5 hb⟩
theorem nd_back (w : World) (A : Option Addr) (n c i : Nat) (h : i ≤ n) (hc : n ≤ c) : (Instr.sliceAt 22 (.slice A n c) (some (.int .i64 i)) none none).run Try.prog w = .ok (sliced A i n c 2) w := by
  have h1 : (0 : Int) ≤ (i : Int) := by omega
  have h2 : (i : Int) ≤ (n : Int) := by omega
  have h3 : (n : Int) ≤ (c : Int) := by omega
  go_simp
theorem nd_front (w : World) (A : Option Addr) (n c i : Nat) (h : i ≤ c) : (Instr.sliceAt 22 (.slice A n c) none (some (.int .i64 i)) none).run Try.prog w = .ok (sliced A 0 i c 2) w := by
  have h1 : (0 : Int) ≤ (i : Int) := by omega
  have h2 : (i : Int) ≤ (c : Int) := by omega
  go_simp

set_option maxHeartbeats 1600000 in
theorem nd_grow (n : Nat) (w : World) (hn : n ≤ 4000000) :
    Calls Try.prog 52 #[.slice none 0 0, .int .i64 (n : Int)] w fun e w' => ∃ v, e = .returned v ∧ w'.ownsRow w.heap.size 27 2 v 0 [] ∧ Below w.heap.size w w' := by
  obtain ⟨i, hi, hz, hsize, hby⟩ := info_parts Try.info_node
  by_cases h0 : n = 0
  · subst h0
    go_enter Try.func52, Try.ntmps52
    go_wp2
    go_ret
    exact ⟨_, rfl, World.ownsRow_nil _ _ _ _, Below.refl _ _⟩
  · have hp : 0 < n := by omega
    have hpI : (0 : Int) < (n : Int) := by omega
    have hc1 := grownCap_ge w n 0 27
    have hc2 := grownCap_le_maxLen w n 0 27 (by unfold maxLen; omega)
    have hr := fun ty => Lib.run_append_nil_zeros (P := Try.prog) w 22 3 ty 27 i (.agg #[.string ByteArray.empty, .string ByteArray.empty]) .i64 .i64 Try.underlying22 Try.underlying3 hi hz n hp (by rw [hsize]; decide) (by omega) (by rw [hby]; omega)
    obtain ⟨C, hC⟩ : ∃ C, grownCap w n 0 27 = C := ⟨_, rfl⟩
    rw [hC] at hc1 hc2 hr
    obtain ⟨cs, hcs⟩ : ∃ cs, Builtin.zeroCells (Value.cells (.agg #[.string ByteArray.empty, .string ByteArray.empty])) n ++ Builtin.zeroCells (Value.cells (.agg #[.string ByteArray.empty, .string ByteArray.empty])) (C - n) = cs := ⟨_, rfl⟩
    have hsz : cs.size = C * 2 := by
      have e1 : (Value.cells (.agg #[.string ByteArray.empty, .string ByteArray.empty])).size = 2 := rfl
      rw [← hcs, Array.size_append, size_zeroCells, size_zeroCells, e1, ← Nat.add_mul]
      congr 1
      omega
    rw [hcs] at hr
    have hown : (w.drew.alloc (.cells cs 27)).ownsRow w.heap.size 27 2 (.slice (some ⟨w.heap.size, 0, none⟩) 0 C) 0 [] := World.ownsRow_made w.drew cs C (Nat.le_refl _) hc2 hsz
    have hbel : Below w.heap.size w (w.drew.alloc (.cells cs 27)) := ((Below.refl _ w).drew).alloc (by simp) _
    obtain ⟨W, hW⟩ : ∃ W, w.drew.alloc (.cells cs 27) = W := ⟨_, rfl⟩
    rw [hW] at hown hbel hr
    have HO := Lib.hid hown; have HB := Lib.hid hbel
    clear hC hcs hsz hown hbel hW hi hz hsize hby
    unfold maxLen at hc2
    go_enter Try.func52, Try.ntmps52
    go_wp2_with (at_builtin; refine Lib.wpList_append_run _ rfl _ _ 22 3 rfl _ _ rfl rfl _ _ (hr _) ?_)
    go_ret
    exact ⟨_, rfl, HO.out, HB.out⟩

set_option maxHeartbeats 3200000 in
theorem nd_concat (V : Value) (ls : List (List (Nd))) (w : World) (h : NdsL w V ls) (hm : ls.length ≤ 1000) (hl : ls.flatten.length ≤ 2000000) :
    Calls Try.prog 42 #[V] w fun e w' => ∃ v, e = .returned v ∧ w'.ownsRow w.heap.size 27 2 v ls.flatten.length (ndsC ls.flatten) ∧ Below w.heap.size w w' := by
  obtain ⟨b, off, c, rfl, h1, h2, h3⟩ := h.ex
  unfold maxLen at h2
  obtain ⟨m, hmm⟩ : ∃ m, ls.length = m := ⟨_, rfl⟩
  obtain ⟨R, hR⟩ : ∃ R, ls.flatten = R := ⟨_, rfl⟩
  obtain ⟨r, hr⟩ : ∃ r, R.length = r := ⟨_, rfl⟩
  have hfl := fun k => flat_le ls k
  have hst := fun k => flat_take ls k
  rw [hmm] at h1 hm h3 hst
  rw [hR] at hl hfl
  rw [hR, hr]
  rw [hr] at hl hfl
  have H3 := Lib.hid h3; have HM := Lib.hid hmm; have HR := Lib.hid hR; have HRL := Lib.hid hr; have HFL := Lib.hid hfl; have HST := Lib.hid hst
  clear h h3 hmm hR hr hfl hst
  rw [HM.out]
  go_enter Try.func42, Try.ntmps42
  go_wp2
  go_loopw [3, 11] (fun v3 v11 wr => ∃ k s : Nat, k ≤ m ∧ v3 = .int .i64 (s : Int) ∧ v11 = .int .i64 (k : Int) ∧ s ≤ r ∧ Hid ((ls.take k).flatten.length = s) ∧ w = wr) (fun _ v _ => m - (intOf v).toNat)
  case atStart => exact ⟨0, 0, Nat.zero_le _, rfl, rfl, Nat.zero_le _, Lib.hid rfl, rfl⟩
  case round =>
    obtain ⟨k, s, hk, rfl, rfl, hs, HS, rfl⟩ := hrel
    by_cases hlt : k < m
    · obtain ⟨a, n, c', hc, hN⟩ := H3.out k hlt
      have hkb : (k : Int) < (m : Int) := by omega
      have hlen := hN.lenE
      have hs2 : (ls.take (k + 1)).flatten.length = s + n := by rw [HST.out k hlt, List.length_append, HS.out, hlen.1]
      have hle := HFL.out (k + 1)
      rw [hs2] at hle
      have HS2 := Lib.hid hs2
      obtain ⟨-, hn1, hn2⟩ := hlen
      unfold maxLen at hn2
      clear hN hs2
      go_wp2
      go_roundw
      case rel => exact ⟨k + 1, s + n, by omega, by go_num, by go_num, hle, HS2, by first | rfl | trivial⟩
      case measure => simp [intOf]; omega
    · have e : k = m := by omega
      subst e
      have hsr : s = r := by
        have := HS.out
        rw [List.take_of_length_le (by rw [HM.out]; exact Nat.le_refl _), HR.out, HRL.out] at this
        exact this.symm
      subst hsr
      clear HS
      go_wp2_with (go_at_call 52; refine (nd_grow _ _ (by omega)).mono ?_; rintro e w1 ⟨v1, rfl, hown1, hb1⟩; have HO := Lib.hid hown1; have HB := Lib.hid hb1; clear hown1 hb1)
      go_loopw [6, 27] (fun v6 v27 wr => ∃ (j : Nat) (ys : List (Nd)), j ≤ k ∧ v27 = .int .i64 (j : Int) ∧ ys.length ≤ s ∧ Hid (ys = (ls.take j).flatten) ∧ wr.ownsRow w.heap.size 27 2 v6 ys.length (ndsC ys) ∧ Hid (Below w.heap.size w wr)) (fun _ v _ => k - (intOf v).toNat)
      case atStart => exact ⟨0, [], Nat.zero_le _, rfl, Nat.zero_le _, Lib.hid rfl, HO.out, HB⟩
      case round =>
        obtain ⟨j, ys, hj, rfl, hys, HY, hown, HB2⟩ := hrel
        by_cases hlt2 : j < k
        · obtain ⟨a, n, c', hc0, hN0⟩ := H3.out j hlt2
          have hjb : (j : Int) < (k : Int) := by omega
          have hc := cell_keep hc0 HB2.out
          have SN := Lib.hid (Nds.below hN0 HB2.out)
          have hlen := hN0.lenE
          have hld : (ndsC (ls.getD j [])).length = n * 2 := by rw [ndsC_len, hlen.1]
          have hY2 : (ls.take (j + 1)).flatten = ys ++ ls.getD j [] := by rw [HST.out j hlt2, HY.out]
          have hle := HFL.out (j + 1)
          rw [hY2, List.length_append, hlen.1] at hle
          obtain ⟨Z, hZ⟩ : ∃ Z, ls.getD j [] = Z := ⟨_, rfl⟩
          rw [hZ] at hY2 hld SN
          have hZn : Z.length = n := by rw [← hZ]; exact hlen.1
          have HY2 := Lib.hid hY2; have HZN := Lib.hid hZn
          obtain ⟨-, hn1, hn2⟩ := hlen
          unfold maxLen at hn2
          obtain ⟨ny, hny⟩ : ∃ ny, ys.length = ny := ⟨_, rfl⟩
          rw [hny] at hle hys hown
          have HNY := Lib.hid hny
          clear hN0 hY2 hZ hZn hc0 hny
          go_wp2_with (at_builtin; refine wpList_append_src rfl _ _ 22 rfl w.heap.size 27 (.agg #[.string ByteArray.empty, .string ByteArray.empty]) 2 32 Try.underlying22 Try.info_node rfl (by decide) _ ny (ndsC ys) rfl hown a n c' (ndsC Z) rfl hld SN.out.nil SN.out.src (ndsC_one _) (by omega) (by unfold maxLen; omega) HB2.out.size ?_)
          intro v' w' hown' hb'
          have ho2 : w'.ownsRow w.heap.size 27 2 v' (ys ++ Z).length (ndsC (ys ++ Z)) := by
            rw [ndsC_app, List.length_append, HNY.out, HZN.out]; exact hown'
          have HO2 := Lib.hid ho2
          have HB3 := Lib.hid (HB2.out.trans hb'.toBelow)
          clear hown hown' ho2 hb' hld
          go_wp2
          go_roundw
          case rel => exact ⟨j + 1, ys ++ Z, by omega, by go_num, by rw [List.length_append, HNY.out, HZN.out]; exact hle, Lib.hid HY2.out.symm, HO2.out, HB3⟩
          case measure => simp [intOf]; omega
        · have e : j = k := by omega
          subst e
          have e2 : ys = R := by
            have := HY.out
            rwa [List.take_of_length_le (by rw [HM.out]; exact Nat.le_refl _), HR.out] at this
          subst e2
          have HO2 := Lib.hid hown; clear hown
          go_wp2
          go_ret
          refine ⟨_, rfl, ?_, HB2.out⟩
          have := HO2.out
          rwa [HRL.out] at this

/-! ### Strs -/
/-- A slice of slices, in memory. -/
structure StrsL (w : World) (v : Value) (ls : List (List (List UInt8))) : Prop where
  ex : ∃ b off c, v = .slice (some ⟨b, off, none⟩) ls.length c ∧ ls.length ≤ c ∧ c ≤ maxLen ∧ ∀ j, j < ls.length → ∃ a n c', w.cell? ⟨b, off + j, none⟩ = some (.slice a n c') ∧ Strs w (.slice a n c') (ls.getD j [])
theorem StrsL.below {w w' : World} {v : Value} {ls : List (List (List UInt8))} (h : StrsL w v ls) (hb : Below w.heap.size w w') : StrsL w' v ls := by
  obtain ⟨b, off, c, hv, h1, h2, h3⟩ := h.ex
  refine ⟨b, off, c, hv, h1, h2, fun j hj => ?_⟩
  obtain ⟨a, n, c', h4, h5⟩ := h3 j hj
  exact ⟨a, n, c', cell_keep h4 hb, Strs.belowB h5 hb⟩
theorem st_back (w : World) (A : Option Addr) (n c i : Nat) (h : i ≤ n) (hc : n ≤ c) : (Instr.sliceAt 23 (.slice A n c) (some (.int .i64 i)) none none).run Try.prog w = .ok (sliced A i n c 1) w := by
  have h1 : (0 : Int) ≤ (i : Int) := by omega
  have h2 : (i : Int) ≤ (n : Int) := by omega
  have h3 : (n : Int) ≤ (c : Int) := by omega
  go_simp
theorem st_front (w : World) (A : Option Addr) (n c i : Nat) (h : i ≤ c) : (Instr.sliceAt 23 (.slice A n c) none (some (.int .i64 i)) none).run Try.prog w = .ok (sliced A 0 i c 1) w := by
  have h1 : (0 : Int) ≤ (i : Int) := by omega
  have h2 : (i : Int) ≤ (c : Int) := by omega
  go_simp

set_option maxHeartbeats 1600000 in
theorem st_grow (n : Nat) (w : World) (hn : n ≤ 4000000) :
    Calls Try.prog 53 #[.slice none 0 0, .int .i64 (n : Int)] w fun e w' => ∃ v, e = .returned v ∧ w'.ownsRow w.heap.size 9 1 v 0 [] ∧ Below w.heap.size w w' := by
  obtain ⟨i, hi, hz, hsize, hby⟩ := info_parts Try.info_str
  by_cases h0 : n = 0
  · subst h0
    go_enter Try.func53, Try.ntmps53
    go_wp2
    go_ret
    exact ⟨_, rfl, World.ownsRow_nil _ _ _ _, Below.refl _ _⟩
  · have hp : 0 < n := by omega
    have hpI : (0 : Int) < (n : Int) := by omega
    have hc1 := grownCap_ge w n 0 9
    have hc2 := grownCap_le_maxLen w n 0 9 (by unfold maxLen; omega)
    have hr := fun ty => Lib.run_append_nil_zeros (P := Try.prog) w 23 3 ty 9 i (.string ByteArray.empty) .i64 .i64 Try.underlying23 Try.underlying3 hi hz n hp (by rw [hsize]; decide) (by omega) (by rw [hby]; omega)
    obtain ⟨C, hC⟩ : ∃ C, grownCap w n 0 9 = C := ⟨_, rfl⟩
    rw [hC] at hc1 hc2 hr
    obtain ⟨cs, hcs⟩ : ∃ cs, Builtin.zeroCells (Value.cells (.string ByteArray.empty)) n ++ Builtin.zeroCells (Value.cells (.string ByteArray.empty)) (C - n) = cs := ⟨_, rfl⟩
    have hsz : cs.size = C * 1 := by
      have e1 : (Value.cells (.string ByteArray.empty)).size = 1 := rfl
      rw [← hcs, Array.size_append, size_zeroCells, size_zeroCells, e1, ← Nat.add_mul]
      congr 1
      omega
    rw [hcs] at hr
    have hown : (w.drew.alloc (.cells cs 9)).ownsRow w.heap.size 9 1 (.slice (some ⟨w.heap.size, 0, none⟩) 0 C) 0 [] := World.ownsRow_made w.drew cs C (Nat.le_refl _) hc2 hsz
    have hbel : Below w.heap.size w (w.drew.alloc (.cells cs 9)) := ((Below.refl _ w).drew).alloc (by simp) _
    obtain ⟨W, hW⟩ : ∃ W, w.drew.alloc (.cells cs 9) = W := ⟨_, rfl⟩
    rw [hW] at hown hbel hr
    have HO := Lib.hid hown; have HB := Lib.hid hbel
    clear hC hcs hsz hown hbel hW hi hz hsize hby
    unfold maxLen at hc2
    go_enter Try.func53, Try.ntmps53
    go_wp2_with (at_builtin; refine Lib.wpList_append_run _ rfl _ _ 23 3 rfl _ _ rfl rfl _ _ (hr _) ?_)
    go_ret
    exact ⟨_, rfl, HO.out, HB.out⟩

set_option maxHeartbeats 3200000 in
theorem st_concat (V : Value) (ls : List (List (List UInt8))) (w : World) (h : StrsL w V ls) (hm : ls.length ≤ 1000) (hl : ls.flatten.length ≤ 2000000) :
    Calls Try.prog 43 #[V] w fun e w' => ∃ v, e = .returned v ∧ w'.ownsRow w.heap.size 9 1 v ls.flatten.length (strC ls.flatten) ∧ Below w.heap.size w w' := by
  obtain ⟨b, off, c, rfl, h1, h2, h3⟩ := h.ex
  unfold maxLen at h2
  obtain ⟨m, hmm⟩ : ∃ m, ls.length = m := ⟨_, rfl⟩
  obtain ⟨R, hR⟩ : ∃ R, ls.flatten = R := ⟨_, rfl⟩
  obtain ⟨r, hr⟩ : ∃ r, R.length = r := ⟨_, rfl⟩
  have hfl := fun k => flat_le ls k
  have hst := fun k => flat_take ls k
  rw [hmm] at h1 hm h3 hst
  rw [hR] at hl hfl
  rw [hR, hr]
  rw [hr] at hl hfl
  have H3 := Lib.hid h3; have HM := Lib.hid hmm; have HR := Lib.hid hR; have HRL := Lib.hid hr; have HFL := Lib.hid hfl; have HST := Lib.hid hst
  clear h h3 hmm hR hr hfl hst
  rw [HM.out]
  go_enter Try.func43, Try.ntmps43
  go_wp2
  go_loopw [3, 11] (fun v3 v11 wr => ∃ k s : Nat, k ≤ m ∧ v3 = .int .i64 (s : Int) ∧ v11 = .int .i64 (k : Int) ∧ s ≤ r ∧ Hid ((ls.take k).flatten.length = s) ∧ w = wr) (fun _ v _ => m - (intOf v).toNat)
  case atStart => exact ⟨0, 0, Nat.zero_le _, rfl, rfl, Nat.zero_le _, Lib.hid rfl, rfl⟩
  case round =>
    obtain ⟨k, s, hk, rfl, rfl, hs, HS, rfl⟩ := hrel
    by_cases hlt : k < m
    · obtain ⟨a, n, c', hc, hN⟩ := H3.out k hlt
      have hkb : (k : Int) < (m : Int) := by omega
      have hlen := hN.lenE
      have hs2 : (ls.take (k + 1)).flatten.length = s + n := by rw [HST.out k hlt, List.length_append, HS.out, hlen.1]
      have hle := HFL.out (k + 1)
      rw [hs2] at hle
      have HS2 := Lib.hid hs2
      obtain ⟨-, hn1, hn2⟩ := hlen
      unfold maxLen at hn2
      clear hN hs2
      go_wp2
      go_roundw
      case rel => exact ⟨k + 1, s + n, by omega, by go_num, by go_num, hle, HS2, by first | rfl | trivial⟩
      case measure => simp [intOf]; omega
    · have e : k = m := by omega
      subst e
      have hsr : s = r := by
        have := HS.out
        rw [List.take_of_length_le (by rw [HM.out]; exact Nat.le_refl _), HR.out, HRL.out] at this
        exact this.symm
      subst hsr
      clear HS
      go_wp2_with (go_at_call 53; refine (st_grow _ _ (by omega)).mono ?_; rintro e w1 ⟨v1, rfl, hown1, hb1⟩; have HO := Lib.hid hown1; have HB := Lib.hid hb1; clear hown1 hb1)
      go_loopw [6, 27] (fun v6 v27 wr => ∃ (j : Nat) (ys : List (List UInt8)), j ≤ k ∧ v27 = .int .i64 (j : Int) ∧ ys.length ≤ s ∧ Hid (ys = (ls.take j).flatten) ∧ wr.ownsRow w.heap.size 9 1 v6 ys.length (strC ys) ∧ Hid (Below w.heap.size w wr)) (fun _ v _ => k - (intOf v).toNat)
      case atStart => exact ⟨0, [], Nat.zero_le _, rfl, Nat.zero_le _, Lib.hid rfl, HO.out, HB⟩
      case round =>
        obtain ⟨j, ys, hj, rfl, hys, HY, hown, HB2⟩ := hrel
        by_cases hlt2 : j < k
        · obtain ⟨a, n, c', hc0, hN0⟩ := H3.out j hlt2
          have hjb : (j : Int) < (k : Int) := by omega
          have hc := cell_keep hc0 HB2.out
          have SN := Lib.hid (Strs.belowB hN0 HB2.out)
          have hlen := hN0.lenE
          have hld : (strC (ls.getD j [])).length = n * 1 := by rw [strC_len, hlen.1]
          have hY2 : (ls.take (j + 1)).flatten = ys ++ ls.getD j [] := by rw [HST.out j hlt2, HY.out]
          have hle := HFL.out (j + 1)
          rw [hY2, List.length_append, hlen.1] at hle
          obtain ⟨Z, hZ⟩ : ∃ Z, ls.getD j [] = Z := ⟨_, rfl⟩
          rw [hZ] at hY2 hld SN
          have hZn : Z.length = n := by rw [← hZ]; exact hlen.1
          have HY2 := Lib.hid hY2; have HZN := Lib.hid hZn
          obtain ⟨-, hn1, hn2⟩ := hlen
          unfold maxLen at hn2
          obtain ⟨ny, hny⟩ : ∃ ny, ys.length = ny := ⟨_, rfl⟩
          rw [hny] at hle hys hown
          have HNY := Lib.hid hny
          clear hN0 hY2 hZ hZn hc0 hny
          go_wp2_with (at_builtin; refine wpList_append_src rfl _ _ 23 rfl w.heap.size 9 (.string ByteArray.empty) 1 16 Try.underlying23 Try.info_str rfl (by decide) _ ny (strC ys) rfl hown a n c' (strC Z) rfl hld SN.out.nil SN.out.cells (strC_one _) (by omega) (by unfold maxLen; omega) HB2.out.size ?_)
          intro v' w' hown' hb'
          have ho2 : w'.ownsRow w.heap.size 9 1 v' (ys ++ Z).length (strC (ys ++ Z)) := by
            rw [strC_app, List.length_append, HNY.out, HZN.out]; exact hown'
          have HO2 := Lib.hid ho2
          have HB3 := Lib.hid (HB2.out.trans hb'.toBelow)
          clear hown hown' ho2 hb' hld
          go_wp2
          go_roundw
          case rel => exact ⟨j + 1, ys ++ Z, by omega, by go_num, by rw [List.length_append, HNY.out, HZN.out]; exact hle, Lib.hid HY2.out.symm, HO2.out, HB3⟩
          case measure => simp [intOf]; omega
        · have e : j = k := by omega
          subst e
          have e2 : ys = R := by
            have := HY.out
            rwa [List.take_of_length_le (by rw [HM.out]; exact Nat.le_refl _), HR.out] at this
          subst e2
          have HO2 := Lib.hid hown; clear hown
          go_wp2
          go_ret
          refine ⟨_, rfl, ?_, HB2.out⟩
          have := HO2.out
          rwa [HRL.out] at this
end Go.Proofs.Ytceefoiffkgliaa
