/- THE TEXTS OF PatN StoA: Paths: plain facts of the laws. Lists put together: slices.Grow from nil, slices.Concat, of nodes and of texts; parts of slices. -/
import Derived.Test.YtdefphacdcbljaaPatF
import Derived.Test.YtdefphacdcbljaaNodY
import Derived.Test.YtdefphacdcbljaaRolB
import Derived.Lib.AppendZeros
namespace Go.Proofs.Ytdefphacdcbljaa
open Go.RowKit
set_option maxRecDepth 100000

theorem elemB_iff2 (l : List UInt8) : elemB l = true ↔ l ≠ [] ∧ (∀ c ∈ l, okC c = true) ∧ l.head? ≠ some 46 ∧ l.getLast? ≠ some 46 := by
  have n46 : (46 : UInt8).toNat = 46 := rfl
  rw [elemB_iff]
  constructor
  · rintro ⟨h0, h⟩
    have hne : l ≠ [] := List.length_pos_iff.1 h0
    refine ⟨hne, fun c hc => elem_oct ((elemB_iff l).2 ⟨h0, h⟩) c hc, ?_, ?_⟩
    · intro e
      refine okAt_nodot (h 0 h0) ⟨?_, .inl rfl⟩
      cases l with
      | nil => cases e
      | cons x t => injection e with e; subst e; rfl
    · intro e
      refine okAt_nodot (h (l.length - 1) (by omega)) ⟨?_, .inr (by omega)⟩
      rw [List.getLast?_eq_getElem?] at e
      rw [List.getD_eq_getElem?_getD, e]; rfl
  · rintro ⟨hne, hok, hh, hl⟩
    have h0 : 0 < l.length := List.length_pos_iff.2 hne
    refine ⟨h0, fun j hj => okAt_yes ?_ ?_⟩
    · rw [List.getD_eq_getElem?_getD, List.getElem?_eq_getElem hj]; exact hok _ (List.getElem_mem hj)
    · rintro ⟨h46, rfl | e⟩
      · apply hh
        cases l with
        | nil => exact absurd rfl hne
        | cons x t =>
          have : x.toNat = 46 := h46
          have : x = 46 := by rw [← UInt8.toNat_inj]; omega
          rw [this]; rfl
      · apply hl
        rw [List.getLast?_eq_getElem?]
        have hj' : j = l.length - 1 := by omega
        subst hj'
        rw [List.getD_eq_getElem?_getD, List.getElem?_eq_getElem hj] at h46
        rw [List.getElem?_eq_getElem hj]
        have : (l[l.length - 1]).toNat = 46 := h46
        congr 1
        rw [← UInt8.toNat_inj]; omega
theorem elem_parts {l : List UInt8} (h : elemB l = true) : l ≠ [] ∧ (∀ c ∈ l, okC c = true) ∧ l.head? ≠ some 46 ∧ l.getLast? ≠ some 46 := (elemB_iff2 l).1 h
theorem elem_mid {a m b : List UInt8} (ha : elemB a = true) (hm : ∀ c ∈ m, okC c = true) (hb : elemB b = true) : elemB (a ++ m ++ b) = true := by
  obtain ⟨a1, a2, a3, _⟩ := elem_parts ha
  obtain ⟨b1, b2, _, b4⟩ := elem_parts hb
  rw [elemB_iff2]
  refine ⟨?_, ?_, ?_, ?_⟩
  · intro e; exact a1 (List.append_eq_nil_iff.1 (List.append_eq_nil_iff.1 e).1).1
  · intro c hc
    rcases List.mem_append.1 hc with hc | hc
    · rcases List.mem_append.1 hc with hc | hc
      · exact a2 c hc
      · exact hm c hc
    · exact b2 c hc
  · cases a with
    | nil => exact absurd rfl a1
    | cons x t => simpa using a3
  · cases b with
    | nil => exact absurd rfl b1
    | cons x t =>
      rw [List.getLast?_append]
      rw [List.getLast?_eq_some_getLast (by simp : x :: t ≠ [])] at b4 ⊢
      simpa using b4

theorem withinB_iff (p q : List UInt8) : withinB p q = true ↔ pathB p = true ∧ pathB q = true ∧ splitL 47 p <+: splitL 47 q := by
  unfold withinB sameB
  simp only [Bool.and_eq_true, decide_eq_true_eq]
  rw [List.prefix_iff_eq_take]
  constructor
  · rintro ⟨⟨⟨h1, h2⟩, _⟩, h4⟩; exact ⟨h1, h2, h4⟩
  · rintro ⟨h1, h2, h4⟩
    refine ⟨⟨⟨h1, h2⟩, ?_⟩, h4⟩
    have := congrArg List.length h4
    rw [List.length_take] at this
    omega
theorem within_trans {x y z : List UInt8} (h : withinB x y = true) (k : withinB y z = true) : withinB x z = true := by
  rw [withinB_iff] at *
  exact ⟨h.1, k.2.1, h.2.2.trans k.2.2⟩
theorem split_inj {x y : List UInt8} (h : splitL 47 x = splitL 47 y) : x = y := by
  rw [← jn_split 47 47 (by decide) x, h, jn_split 47 47 (by decide) y]
theorem within_anti {x y : List UInt8} (h : withinB x y = true) (k : withinB y x = true) : x = y := by
  rw [withinB_iff] at *
  exact split_inj (h.2.2.eq_of_length_le k.2.2.length_le)
theorem within_line {x y z : List UInt8} (h : withinB x z = true) (k : withinB y z = true) : withinB x y = true ∨ withinB y x = true := by
  rw [withinB_iff] at *
  rw [withinB_iff]
  rcases List.prefix_or_prefix_of_prefix h.2.2 k.2.2 with e | e
  · exact .inl ⟨h.1, k.1, e⟩
  · exact .inr ⟨k.1, h.1, e⟩
theorem within_self {x : List UInt8} (h : pathB x = true) : withinB x x = true := (withinB_iff x x).2 ⟨h, h, List.prefix_refl _⟩

theorem split_slash (x y : List UInt8) : splitL 47 (x ++ 47 :: y) = splitL 47 x ++ splitL 47 y := splitL_cat 47 47 (by decide) y x
theorem path_slash (x y : List UInt8) : pathB (x ++ 47 :: y) = (pathB x && pathB y) := by
  unfold pathB; rw [split_slash, List.all_append]
theorem within_slash {x y : List UInt8} (h : pathB x = true) (k : pathB y = true) : withinB x (x ++ 47 :: y) = true := by
  rw [withinB_iff, path_slash, h, k, split_slash]
  exact ⟨rfl, rfl, List.prefix_append _ _⟩
theorem slash_within (x y : List UInt8) : withinB (x ++ 47 :: y) x = false := by
  rw [Bool.eq_false_iff]
  intro h
  rw [withinB_iff, split_slash] at h
  have := h.2.2.length_le
  rw [List.length_append] at this
  have h2 : 0 < (splitL 47 y).length := List.length_pos_iff.2 (splitL_ne 47 y)
  omega
theorem path_elem {y : List UInt8} (h : elemB y = true) : pathB y = true := by
  unfold pathB
  rw [split_whole 47 y (elem_no47 h), List.all_cons, h]; rfl
theorem jn_snoc (x : UInt8) (ls : List (List UInt8)) (hn : ls ≠ []) (y : List UInt8) : jn x (ls ++ [y]) = jn x ls ++ x :: y := by
  cases ls with
  | nil => exact absurd rfl hn
  | cons p ps => simp [jn]
theorem joinP_split {x : List UInt8} (h : pathB x = true) : joinP (splitL 47 x) = (x, 0) := by
  rw [joinP_ok (by rw [okJ_split]; exact h), jn_split 47 47 (by decide)]
theorem joinP_snoc_ok {x y : List UInt8} (h : pathB x = true) (k : elemB y = true) : joinP (splitL 47 x ++ [y]) = (x ++ 47 :: y, 0) := by
  have hk : okJ (splitL 47 x ++ [y]) = true := by
    unfold okJ
    rw [List.all_append]
    have h' : (splitL 47 x).all elemB = true := h
    rw [h', List.all_cons, k]
    simp
  rw [joinP_ok hk, jn_snoc 47 _ (splitL_ne 47 x), jn_split 47 47 (by decide)]
theorem joinP_snoc_no (x : List UInt8) {y : List UInt8} (k : elemB y = false) : joinP (splitL 47 x ++ [y]) = ([], 1) := by
  refine joinP_no ?_
  unfold okJ
  rw [List.all_append, List.all_cons, k]
  simp
theorem slash_txt (x y : List UInt8) : mkB x ++ (⟨#[47]⟩ : ByteArray) ++ mkB y = mkB (x ++ 47 :: y) := mkB_of' (by simp only [cat_list, mkB_list]; simp)

/-- The parts of two texts, one behind the other with nothing between. -/
theorem split_app (c : Int) (b : List UInt8) (hb : ∀ y ∈ b, ¬ (y.toNat : Int) = c) : ∀ a : List UInt8, splitL c (a ++ b) = (splitL c a).dropLast ++ [(splitL c a).getLastD [] ++ b]
  | [] => by rw [List.nil_append, split_whole c b hb]; simp [splitL]
  | x :: a => by
    have ih := split_app c b hb a
    have hn := splitL_ne c a
    rw [List.cons_append, splitL, splitL, ih]
    cases hs : splitL c a with
    | nil => exact absurd hs hn
    | cons u t =>
      split
      · simp
      · cases t with
        | nil => simp [consHead]
        | cons v t => simp [consHead]
theorem split_head (c : Int) (b : List UInt8) : ∀ a : List UInt8, (∀ y ∈ a, ¬ (y.toNat : Int) = c) → splitL c (a ++ b) = consHead a (splitL c b)
  | [], _ => by rw [List.nil_append, consHead_nil _ (splitL_ne c b)]
  | x :: a, h => by
    rw [List.cons_append, splitL, if_neg (h x List.mem_cons_self), split_head c b a fun y hy => h y (List.mem_cons_of_mem _ hy), consHead_two]; rfl
theorem okC_46 : okC 46 = true := by decide +kernel
theorem dot_ahead (x : List UInt8) : pathB (46 :: x) = false := by
  have e : splitL 47 (46 :: x) = consHead [46] (splitL 47 x) := split_head 47 x [46] (by decide)
  unfold pathB
  rw [e]
  have hn := splitL_ne 47 x
  cases hs : splitL 47 x with
  | nil => exact absurd hs hn
  | cons u t =>
    rw [consHead, List.all_cons]
    have : elemB ([46] ++ u) = false := by
      rw [Bool.eq_false_iff]; intro e
      exact (elem_parts e).2.2.1 (by simp)
    rw [this]; rfl
theorem dot_behind (x : List UInt8) : pathB (x ++ [46]) = false := by
  unfold pathB
  rw [split_app 47 [46] (by decide), List.all_append]
  have : elemB ((splitL 47 x).getLastD [] ++ [46]) = false := by
    rw [Bool.eq_false_iff]; intro e
    exact (elem_parts e).2.2.2 (by simp)
  rw [List.all_cons, this]
  simp
theorem last_at (ls : List (List UInt8)) : ls.getLastD [] = ls.getD (ls.length - 1) [] := by
  rw [List.getLastD_eq_getLast?, List.getLast?_eq_getElem?, List.getD_eq_getElem?_getD]
theorem last_mem {ls : List (List UInt8)} (h : ls ≠ []) : ls.getLastD [] ∈ ls := by
  rw [List.getLastD_eq_getLast?, List.getLast?_eq_some_getLast h]
  exact List.getLast_mem h
theorem drop_last {ls : List (List UInt8)} (f : List UInt8 → Bool) (ha : ls.all f = true) : ls.dropLast.all f = true := by
  rw [List.all_eq_true] at *
  exact fun l hl => ha l (List.dropLast_subset _ hl)
theorem dot_last {x l : List UInt8} (h : pathB x = true) (hl : l = (splitL 47 x).getLastD []) : pathB (x ++ (46 :: l)) = true := by
  have hn := splitL_ne 47 x
  have hel : elemB l = true := by rw [hl]; exact List.all_eq_true.1 h _ (last_mem hn)
  have hno := elem_no47 hel
  unfold pathB
  rw [split_app 47 (46 :: l) (by
    intro y hy
    rcases List.mem_cons.1 hy with rfl | hy
    · decide
    · exact hno y hy), List.all_append, drop_last elemB h, ← hl, List.all_cons]
  have e : elemB (l ++ 46 :: l) = true := by
    have := elem_mid hel (m := [46]) (by simp [okC_46]) hel
    simpa using this
  rw [e]; rfl
theorem dots_head {x l : List UInt8} (h : pathB x = true) (hl : l = (splitL 47 x).getLastD []) : pathB (l ++ [46, 46] ++ x) = true := by
  have hn := splitL_ne 47 x
  have hel : elemB l = true := by rw [hl]; exact List.all_eq_true.1 h _ (last_mem hn)
  have hno := elem_no47 hel
  unfold pathB at h ⊢
  rw [split_head 47 x (l ++ [46, 46]) (by
    intro y hy
    rcases List.mem_append.1 hy with hy | hy
    · exact hno y hy
    · have : y = 46 := by simpa using hy
      subst this; decide)]
  cases hs : splitL 47 x with
  | nil => exact absurd hs hn
  | cons u t =>
    rw [hs, List.all_cons, Bool.and_eq_true] at h
    rw [consHead, List.all_cons, elem_mid hel (m := [46, 46]) (by simp [okC_46]) h.1, h.2]; rfl
theorem dot_a_txt (x : List UInt8) : (⟨#[46]⟩ : ByteArray) ++ mkB x = mkB (46 :: x) := mkB_of' (by simp only [cat_list, mkB_list]; simp)
theorem dot_b_txt (x : List UInt8) : mkB x ++ (⟨#[46]⟩ : ByteArray) = mkB (x ++ [46]) := mkB_of' (by simp only [cat_list, mkB_list])
theorem dot_l_txt (x l : List UInt8) : mkB x ++ (⟨#[46]⟩ : ByteArray) ++ mkB l = mkB (x ++ 46 :: l) := mkB_of' (by simp only [cat_list, mkB_list]; simp)
theorem dots_txt (x l : List UInt8) : mkB l ++ (⟨#[46, 46]⟩ : ByteArray) ++ mkB x = mkB (l ++ [46, 46] ++ x) := mkB_of' (by simp only [cat_list, mkB_list])
theorem Strs.last {w : World} {a : Option Addr} {n c : Nat} {es : List (List UInt8)} {l : List UInt8} (h : Strs w (.slice a n c) es) (hn : es.length = n) (h0 : 0 < n) (hl : l = es.getD (n - 1) []) :
    ∃ b off, a = some ⟨b, off, none⟩ ∧ b < w.heap.size ∧ w.cell? ⟨b, off + (n - 1), none⟩ = some (.string (mkB l)) := by
  subst hn hl
  obtain ⟨a', c', hv, _, _, _, h3⟩ := h.ex
  injection hv with e1 e2 e3
  subst e1 e3
  obtain ⟨b, off, rfl, hlt, hc⟩ := h3 h0
  exact ⟨b, off, rfl, hlt, hc _ (by omega)⟩
theorem Strs.src2 {w : World} {a : Option Addr} {m c : Nat} {zs : List (List UInt8)} (h : Strs w (.slice a m c) zs) :
    (a = none → m = 0 ∧ c = 0) ∧ (∀ ad, a = some ad → ∀ j u, (zs.map strV)[j]? = some u → w.cell? (ad.add j) = some u) := ⟨h.src.2.1, h.src.2.2⟩
/-- What the statements look at of a list of texts. -/
def someL (n : Nat) (zs : List (List UInt8)) : List (List UInt8) := (zs.take n).map fewL
theorem someL_take {n k : Nat} {zs : List (List UInt8)} (hn : k < n) (hk : k < zs.length) : (someL n zs).take (k + 1) = (someL n zs).take k ++ [fewL (zs.getD k [])] := by
  unfold someL
  have hl : k < ((zs.take n).map fewL).length := by rw [List.length_map, List.length_take]; omega
  rw [List.take_succ_eq_append_getElem hl]
  congr 2
  rw [List.getElem_map, List.getElem_take, List.getD_eq_getElem?_getD, List.getElem?_eq_getElem hk]; rfl
theorem someL_len (n : Nat) (zs : List (List UInt8)) : (someL n zs).length = min n zs.length := by unfold someL; rw [List.length_map, List.length_take]
theorem someL_le (n : Nat) (zs : List (List UInt8)) : ∀ l ∈ someL n zs, l.length ≤ 400 := by
  intro l hl
  obtain ⟨q, _, rfl⟩ := List.mem_map.1 hl
  exact fewL_le q
theorem jn_take_succ (x : UInt8) {ls : List (List UInt8)} {k : Nat} {y : List UInt8} (h : ls.take (k + 1) = ls.take k ++ [y]) (hl : k < ls.length) :
    jn x (ls.take (k + 1)) = if k = 0 then y else jn x (ls.take k) ++ x :: y := by
  rw [h]
  split
  · rename_i h0; subst h0; simp [jn]
  · rename_i h0
    exact jn_snoc x _ (by intro e; have := congrArg List.length e; rw [List.length_take, List.length_nil] at this; omega) y
theorem cat_txt (x y : List UInt8) : mkB x ++ mkB y = mkB (x ++ y) := mkB_of' (by simp only [cat_list, mkB_list])
theorem own_last {w : World} {base g cap k n : Nat} {e : TypeId} {acc : List (List UInt8)} {y : List UInt8} (h : w.ownsRow base e 1 (.slice (some ⟨g, 0, none⟩) n cap) n ((acc ++ [y]).map strV)) (hk : acc.length = k) (hn : n = k + 1) :
    w.cell? ⟨g, k, none⟩ = some (.string (mkB y)) := by
  rw [h.cellAt k (by omega), List.map_append, List.getElem?_append_right (by rw [List.length_map]; omega), List.length_map, hk, Nat.sub_self]; rfl
end Go.Proofs.Ytdefphacdcbljaa

namespace Go.Proofs.Ytdefphacdcbljaa
open Go.RowKit
set_option linter.unusedVariables false
set_option maxRecDepth 100000

/-! ### Slices of texts -/
def strC (l : List (List UInt8)) : List Value := l.map strV
theorem strC_len (l : List (List UInt8)) : (strC l).length = l.length * 1 := by simp [strC]
theorem strC_app (l m : List (List UInt8)) : strC (l ++ m) = strC l ++ strC m := by simp [strC]
theorem strC_one (l : List (List UInt8)) : ((strC l).all fun u => u.oneCell') = true := strs_one l
theorem Strs.belowB {w w' : World} {v : Value} {zs : List (List UInt8)} (h : Strs w v zs) (hb : Below w.heap.size w w') : Strs w' v zs := by
  obtain ⟨a, c, hv, h1, h2, hn, h3⟩ := h.ex
  refine ⟨a, c, hv, h1, h2, hn, fun hp => ?_⟩
  obtain ⟨b, off, ha, hlt, hc⟩ := h3 hp
  exact ⟨b, off, ha, Nat.lt_of_lt_of_le hlt hb.size, fun j hj => by rw [hb.cell (by exact hlt)]; exact hc j hj⟩
theorem Strs.nil {w : World} {A : Option Addr} {n c : Nat} {l : List (List UInt8)} (h : Strs w (.slice A n c) l) : A = none → n = 0 ∧ c = 0 := h.src.2.1
theorem Strs.cells {w : World} {A : Option Addr} {n c : Nat} {l : List (List UInt8)} (h : Strs w (.slice A n c) l) : ∀ ad, A = some ad → ∀ j u, (strC l)[j]? = some u → w.cell? (ad.add j) = some u := h.src.2.2
theorem stsO {w : World} {base : Nat} {e : TypeId} {v : Value} {ns : List (List UInt8)} (h : w.ownsRow base e 1 v ns.length (strC ns)) : ∃ a c, v = .slice a ns.length c ∧ Strs w (.slice a ns.length c) ns := by
  have hst := Strs.owned h
  obtain ⟨a, c, rfl, _⟩ := hst.ex
  exact ⟨a, c, rfl, hst⟩
theorem Strs.lenE {w : World} {A : Option Addr} {n c : Nat} {l : List (List UInt8)} (h : Strs w (.slice A n c) l) : l.length = n ∧ n ≤ c ∧ c ≤ maxLen := by
  obtain ⟨_, _, hv, h1, h2, _⟩ := h.ex
  injection hv with e1 e2 e3
  subst e2 e3; exact ⟨rfl, h1, h2⟩
theorem Nds.lenE {w : World} {A : Option Addr} {n c : Nat} {l : List Nd} (h : Nds w (.slice A n c) l) : l.length = n ∧ n ≤ c ∧ c ≤ maxLen := by
  obtain ⟨_, _, hv, h1, h2, _⟩ := h.ex
  injection hv with e1 e2 e3
  subst e2 e3; exact ⟨rfl, h1, h2⟩
theorem flat_take {α : Type} (ls : List (List α)) (k : Nat) (h : k < ls.length) : (ls.take (k + 1)).flatten = (ls.take k).flatten ++ ls.getD k [] := by
  rw [List.take_succ_eq_append_getElem h, List.flatten_append]
  simp [List.getD_eq_getElem?_getD, h]
theorem flat_le {α : Type} (ls : List (List α)) (k : Nat) : (ls.take k).flatten.length ≤ ls.flatten.length := by
  conv => rhs; rw [← List.take_append_drop k ls, List.flatten_append, List.length_append]
  omega

/-! ### Nds -/
/-- A slice of slices, in memory. -/
structure NdsL (w : World) (v : Value) (ls : List (List (Nd))) : Prop where
  ex : ∃ b off c, v = .slice (some ⟨b, off, none⟩) ls.length c ∧ ls.length ≤ c ∧ c ≤ maxLen ∧ ∀ j, j < ls.length → ∃ a n c', w.cell? ⟨b, off + j, none⟩ = some (.slice a n c') ∧ Nds w (.slice a n c') (ls.getD j [])
theorem NdsL.below {w w' : World} {v : Value} {ls : List (List (Nd))} (h : NdsL w v ls) (hb : Below w.heap.size w w') : NdsL w' v ls := by
  obtain ⟨b, off, c, hv, h1, h2, h3⟩ := h.ex
  refine ⟨b, off, c, hv, h1, h2, fun j hj => ?_⟩
  obtain ⟨a, n, c', h4, h5⟩ := h3 j hj
  exact ⟨a, n, c', cell_keep h4 hb, Nds.below h5 hb⟩
theorem nd_back (w : World) (A : Option Addr) (n c i : Nat) (h : i ≤ n) (hc : n ≤ c) : (Instr.sliceAt 27 (.slice A n c) (some (.int .i64 i)) none none).run Try.prog w = .ok (sliced A i n c 2) w := by
  have h1 : (0 : Int) ≤ (i : Int) := by omega
  have h2 : (i : Int) ≤ (n : Int) := by omega
  have h3 : (n : Int) ≤ (c : Int) := by omega
  go_simp
theorem nd_front (w : World) (A : Option Addr) (n c i : Nat) (h : i ≤ c) : (Instr.sliceAt 27 (.slice A n c) none (some (.int .i64 i)) none).run Try.prog w = .ok (sliced A 0 i c 2) w := by
  have h1 : (0 : Int) ≤ (i : Int) := by omega
  have h2 : (i : Int) ≤ (c : Int) := by omega
  go_simp

/-! ### Strs -/
/-- A slice of slices, in memory. -/
structure StrsL (w : World) (v : Value) (ls : List (List (List UInt8))) : Prop where
  ex : ∃ b off c, v = .slice (some ⟨b, off, none⟩) ls.length c ∧ ls.length ≤ c ∧ c ≤ maxLen ∧ ∀ j, j < ls.length → ∃ a n c', w.cell? ⟨b, off + j, none⟩ = some (.slice a n c') ∧ Strs w (.slice a n c') (ls.getD j [])
theorem StrsL.below {w w' : World} {v : Value} {ls : List (List (List UInt8))} (h : StrsL w v ls) (hb : Below w.heap.size w w') : StrsL w' v ls := by
  obtain ⟨b, off, c, hv, h1, h2, h3⟩ := h.ex
  refine ⟨b, off, c, hv, h1, h2, fun j hj => ?_⟩
  obtain ⟨a, n, c', h4, h5⟩ := h3 j hj
  exact ⟨a, n, c', cell_keep h4 hb, Strs.belowB h5 hb⟩
theorem st_back (w : World) (A : Option Addr) (n c i : Nat) (h : i ≤ n) (hc : n ≤ c) : (Instr.sliceAt 70 (.slice A n c) (some (.int .i64 i)) none none).run Try.prog w = .ok (sliced A i n c 1) w := by
  have h1 : (0 : Int) ≤ (i : Int) := by omega
  have h2 : (i : Int) ≤ (n : Int) := by omega
  have h3 : (n : Int) ≤ (c : Int) := by omega
  go_simp
theorem st_front (w : World) (A : Option Addr) (n c i : Nat) (h : i ≤ c) : (Instr.sliceAt 70 (.slice A n c) none (some (.int .i64 i)) none).run Try.prog w = .ok (sliced A 0 i c 1) w := by
  have h1 : (0 : Int) ≤ (i : Int) := by omega
  have h2 : (i : Int) ≤ (c : Int) := by omega
  go_simp

end Go.Proofs.Ytdefphacdcbljaa
