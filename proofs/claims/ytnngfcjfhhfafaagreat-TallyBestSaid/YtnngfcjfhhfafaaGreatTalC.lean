/- THE TEXTS OF PatN StoA RolM TalM TalA TalB TalC: Paths: plain facts of the laws. Lists put together: slices.Grow from nil, slices.Concat, of nodes and of texts; parts of slices. Rows of the call's own, and blocks that a region lays, as facts of its operations. Rows of versions: which may be, their nodes, the rows of nodes, what is put in and taken out: plain facts. Rows of versions in memory: of others, and of the call's own; what operations of a region leave of them. Copies of texts; what operations leave of rows; rows in memory of their own: of the program. The order of two versions; which versions, and which rows, may be: of the program. -/
import Derived.Test.YtnngfcjfhhfafaaGreatPatF
import Derived.Test.YtnngfcjfhhfafaaGreatNodY
import Derived.Test.YtnngfcjfhhfafaaGreatRolB
import Derived.Lib.AppendZeros
import Derived.Test.YtnngfcjfhhfafaaGreatNodM
import Derived.ArgAppend
namespace Go.Proofs.YtnngfcjfhhfafaaGreat
open Go.RowKit
set_option maxRecDepth 100000

theorem elemB_iff2 (l : List UInt8) : elemB l = true ↔ l ≠ [] ∧ (∀ c ∈ l, okC c = true) ∧ l.head? ≠ some 46 ∧ l.getLast? ≠ some 46 := by
  have n46 : (46 : UInt8).toNat = 46 := rfl
  rw [elemB_iff]
  constructor
  · rintro ⟨h0, h⟩
    have hne : l ≠ [] := List.length_pos_iff.1 h0
    refine ⟨hne, fun c hc => elem_oct ((elemB_iff l).2 ⟨h0, h⟩) c hc, ?_, ?_⟩
    · intro e
      refine okAt_nodot (h 0 h0) ⟨?_, .inl rfl⟩
      cases l with
      | nil => cases e
      | cons x t => injection e with e; subst e; rfl
    · intro e
      refine okAt_nodot (h (l.length - 1) (by omega)) ⟨?_, .inr (by omega)⟩
      rw [List.getLast?_eq_getElem?] at e
      rw [List.getD_eq_getElem?_getD, e]; rfl
  · rintro ⟨hne, hok, hh, hl⟩
    have h0 : 0 < l.length := List.length_pos_iff.2 hne
    refine ⟨h0, fun j hj => okAt_yes ?_ ?_⟩
    · rw [List.getD_eq_getElem?_getD, List.getElem?_eq_getElem hj]; exact hok _ (List.getElem_mem hj)
    · rintro ⟨h46, rfl | e⟩
      · apply hh
        cases l with
        | nil => exact absurd rfl hne
        | cons x t =>
          have : x.toNat = 46 := h46
          have : x = 46 := by rw [← UInt8.toNat_inj]; omega
          rw [this]; rfl
      · apply hl
        rw [List.getLast?_eq_getElem?]
        have hj' : j = l.length - 1 := by omega
        subst hj'
        rw [List.getD_eq_getElem?_getD, List.getElem?_eq_getElem hj] at h46
        rw [List.getElem?_eq_getElem hj]
        have : (l[l.length - 1]).toNat = 46 := h46
        congr 1
        rw [← UInt8.toNat_inj]; omega
theorem elem_parts {l : List UInt8} (h : elemB l = true) : l ≠ [] ∧ (∀ c ∈ l, okC c = true) ∧ l.head? ≠ some 46 ∧ l.getLast? ≠ some 46 := (elemB_iff2 l).1 h
theorem elem_mid {a m b : List UInt8} (ha : elemB a = true) (hm : ∀ c ∈ m, okC c = true) (hb : elemB b = true) : elemB (a ++ m ++ b) = true := by
  obtain ⟨a1, a2, a3, _⟩ := elem_parts ha
  obtain ⟨b1, b2, _, b4⟩ := elem_parts hb
  rw [elemB_iff2]
  refine ⟨?_, ?_, ?_, ?_⟩
  · intro e; exact a1 (List.append_eq_nil_iff.1 (List.append_eq_nil_iff.1 e).1).1
  · intro c hc
    rcases List.mem_append.1 hc with hc | hc
    · rcases List.mem_append.1 hc with hc | hc
      · exact a2 c hc
      · exact hm c hc
    · exact b2 c hc
  · cases a with
    | nil => exact absurd rfl a1
    | cons x t => simpa using a3
  · cases b with
    | nil => exact absurd rfl b1
    | cons x t =>
      rw [List.getLast?_append]
      rw [List.getLast?_eq_some_getLast (by simp : x :: t ≠ [])] at b4 ⊢
      simpa using b4

theorem withinB_iff (p q : List UInt8) : withinB p q = true ↔ pathB p = true ∧ pathB q = true ∧ splitL 47 p <+: splitL 47 q := by
  unfold withinB sameB
  simp only [Bool.and_eq_true, decide_eq_true_eq]
  rw [List.prefix_iff_eq_take]
  constructor
  · rintro ⟨⟨⟨h1, h2⟩, _⟩, h4⟩; exact ⟨h1, h2, h4⟩
  · rintro ⟨h1, h2, h4⟩
    refine ⟨⟨⟨h1, h2⟩, ?_⟩, h4⟩
    have := congrArg List.length h4
    rw [List.length_take] at this
    omega
theorem within_trans {x y z : List UInt8} (h : withinB x y = true) (k : withinB y z = true) : withinB x z = true := by
  rw [withinB_iff] at *
  exact ⟨h.1, k.2.1, h.2.2.trans k.2.2⟩
theorem split_inj {x y : List UInt8} (h : splitL 47 x = splitL 47 y) : x = y := by
  rw [← jn_split 47 47 (by decide) x, h, jn_split 47 47 (by decide) y]
theorem within_anti {x y : List UInt8} (h : withinB x y = true) (k : withinB y x = true) : x = y := by
  rw [withinB_iff] at *
  exact split_inj (h.2.2.eq_of_length_le k.2.2.length_le)
theorem within_line {x y z : List UInt8} (h : withinB x z = true) (k : withinB y z = true) : withinB x y = true ∨ withinB y x = true := by
  rw [withinB_iff] at *
  rw [withinB_iff]
  rcases List.prefix_or_prefix_of_prefix h.2.2 k.2.2 with e | e
  · exact .inl ⟨h.1, k.1, e⟩
  · exact .inr ⟨k.1, h.1, e⟩
theorem within_self {x : List UInt8} (h : pathB x = true) : withinB x x = true := (withinB_iff x x).2 ⟨h, h, List.prefix_refl _⟩

theorem split_slash (x y : List UInt8) : splitL 47 (x ++ 47 :: y) = splitL 47 x ++ splitL 47 y := splitL_cat 47 47 (by decide) y x
theorem path_slash (x y : List UInt8) : pathB (x ++ 47 :: y) = (pathB x && pathB y) := by
  unfold pathB; rw [split_slash, List.all_append]
theorem within_slash {x y : List UInt8} (h : pathB x = true) (k : pathB y = true) : withinB x (x ++ 47 :: y) = true := by
  rw [withinB_iff, path_slash, h, k, split_slash]
  exact ⟨rfl, rfl, List.prefix_append _ _⟩
theorem slash_within (x y : List UInt8) : withinB (x ++ 47 :: y) x = false := by
  rw [Bool.eq_false_iff]
  intro h
  rw [withinB_iff, split_slash] at h
  have := h.2.2.length_le
  rw [List.length_append] at this
  have h2 : 0 < (splitL 47 y).length := List.length_pos_iff.2 (splitL_ne 47 y)
  omega
theorem path_elem {y : List UInt8} (h : elemB y = true) : pathB y = true := by
  unfold pathB
  rw [split_whole 47 y (elem_no47 h), List.all_cons, h]; rfl
theorem jn_snoc (x : UInt8) (ls : List (List UInt8)) (hn : ls ≠ []) (y : List UInt8) : jn x (ls ++ [y]) = jn x ls ++ x :: y := by
  cases ls with
  | nil => exact absurd rfl hn
  | cons p ps => simp [jn]
theorem joinP_split {x : List UInt8} (h : pathB x = true) : joinP (splitL 47 x) = (x, 0) := by
  rw [joinP_ok (by rw [okJ_split]; exact h), jn_split 47 47 (by decide)]
theorem joinP_snoc_ok {x y : List UInt8} (h : pathB x = true) (k : elemB y = true) : joinP (splitL 47 x ++ [y]) = (x ++ 47 :: y, 0) := by
  have hk : okJ (splitL 47 x ++ [y]) = true := by
    unfold okJ
    rw [List.all_append]
    have h' : (splitL 47 x).all elemB = true := h
    rw [h', List.all_cons, k]
    simp
  rw [joinP_ok hk, jn_snoc 47 _ (splitL_ne 47 x), jn_split 47 47 (by decide)]
theorem joinP_snoc_no (x : List UInt8) {y : List UInt8} (k : elemB y = false) : joinP (splitL 47 x ++ [y]) = ([], 1) := by
  refine joinP_no ?_
  unfold okJ
  rw [List.all_append, List.all_cons, k]
  simp
theorem slash_txt (x y : List UInt8) : mkB x ++ (⟨#[47]⟩ : ByteArray) ++ mkB y = mkB (x ++ 47 :: y) := mkB_of' (by simp only [cat_list, mkB_list]; simp)

/-- The parts of two texts, one behind the other with nothing between. -/
theorem split_app (c : Int) (b : List UInt8) (hb : ∀ y ∈ b, ¬ (y.toNat : Int) = c) : ∀ a : List UInt8, splitL c (a ++ b) = (splitL c a).dropLast ++ [(splitL c a).getLastD [] ++ b]
  | [] => by rw [List.nil_append, split_whole c b hb]; simp [splitL]
  | x :: a => by
    have ih := split_app c b hb a
    have hn := splitL_ne c a
    rw [List.cons_append, splitL, splitL, ih]
    cases hs : splitL c a with
    | nil => exact absurd hs hn
    | cons u t =>
      split
      · simp
      · cases t with
        | nil => simp [consHead]
        | cons v t => simp [consHead]
theorem split_head (c : Int) (b : List UInt8) : ∀ a : List UInt8, (∀ y ∈ a, ¬ (y.toNat : Int) = c) → splitL c (a ++ b) = consHead a (splitL c b)
  | [], _ => by rw [List.nil_append, consHead_nil _ (splitL_ne c b)]
  | x :: a, h => by
    rw [List.cons_append, splitL, if_neg (h x List.mem_cons_self), split_head c b a fun y hy => h y (List.mem_cons_of_mem _ hy), consHead_two]; rfl
theorem okC_46 : okC 46 = true := by decide +kernel
theorem dot_ahead (x : List UInt8) : pathB (46 :: x) = false := by
  have e : splitL 47 (46 :: x) = consHead [46] (splitL 47 x) := split_head 47 x [46] (by decide)
  unfold pathB
  rw [e]
  have hn := splitL_ne 47 x
  cases hs : splitL 47 x with
  | nil => exact absurd hs hn
  | cons u t =>
    rw [consHead, List.all_cons]
    have : elemB ([46] ++ u) = false := by
      rw [Bool.eq_false_iff]; intro e
      exact (elem_parts e).2.2.1 (by simp)
    rw [this]; rfl
theorem dot_behind (x : List UInt8) : pathB (x ++ [46]) = false := by
  unfold pathB
  rw [split_app 47 [46] (by decide), List.all_append]
  have : elemB ((splitL 47 x).getLastD [] ++ [46]) = false := by
    rw [Bool.eq_false_iff]; intro e
    exact (elem_parts e).2.2.2 (by simp)
  rw [List.all_cons, this]
  simp
theorem last_at (ls : List (List UInt8)) : ls.getLastD [] = ls.getD (ls.length - 1) [] := by
  rw [List.getLastD_eq_getLast?, List.getLast?_eq_getElem?, List.getD_eq_getElem?_getD]
theorem last_mem {ls : List (List UInt8)} (h : ls ≠ []) : ls.getLastD [] ∈ ls := by
  rw [List.getLastD_eq_getLast?, List.getLast?_eq_some_getLast h]
  exact List.getLast_mem h
theorem drop_last {ls : List (List UInt8)} (f : List UInt8 → Bool) (ha : ls.all f = true) : ls.dropLast.all f = true := by
  rw [List.all_eq_true] at *
  exact fun l hl => ha l (List.dropLast_subset _ hl)
theorem dot_last {x l : List UInt8} (h : pathB x = true) (hl : l = (splitL 47 x).getLastD []) : pathB (x ++ (46 :: l)) = true := by
  have hn := splitL_ne 47 x
  have hel : elemB l = true := by rw [hl]; exact List.all_eq_true.1 h _ (last_mem hn)
  have hno := elem_no47 hel
  unfold pathB
  rw [split_app 47 (46 :: l) (by
    intro y hy
    rcases List.mem_cons.1 hy with rfl | hy
    · decide
    · exact hno y hy), List.all_append, drop_last elemB h, ← hl, List.all_cons]
  have e : elemB (l ++ 46 :: l) = true := by
    have := elem_mid hel (m := [46]) (by simp [okC_46]) hel
    simpa using this
  rw [e]; rfl
theorem dots_head {x l : List UInt8} (h : pathB x = true) (hl : l = (splitL 47 x).getLastD []) : pathB (l ++ [46, 46] ++ x) = true := by
  have hn := splitL_ne 47 x
  have hel : elemB l = true := by rw [hl]; exact List.all_eq_true.1 h _ (last_mem hn)
  have hno := elem_no47 hel
  unfold pathB at h ⊢
  rw [split_head 47 x (l ++ [46, 46]) (by
    intro y hy
    rcases List.mem_append.1 hy with hy | hy
    · exact hno y hy
    · have : y = 46 := by simpa using hy
      subst this; decide)]
  cases hs : splitL 47 x with
  | nil => exact absurd hs hn
  | cons u t =>
    rw [hs, List.all_cons, Bool.and_eq_true] at h
    rw [consHead, List.all_cons, elem_mid hel (m := [46, 46]) (by simp [okC_46]) h.1, h.2]; rfl
theorem dot_a_txt (x : List UInt8) : (⟨#[46]⟩ : ByteArray) ++ mkB x = mkB (46 :: x) := mkB_of' (by simp only [cat_list, mkB_list]; simp)
theorem dot_b_txt (x : List UInt8) : mkB x ++ (⟨#[46]⟩ : ByteArray) = mkB (x ++ [46]) := mkB_of' (by simp only [cat_list, mkB_list])
theorem dot_l_txt (x l : List UInt8) : mkB x ++ (⟨#[46]⟩ : ByteArray) ++ mkB l = mkB (x ++ 46 :: l) := mkB_of' (by simp only [cat_list, mkB_list]; simp)
theorem dots_txt (x l : List UInt8) : mkB l ++ (⟨#[46, 46]⟩ : ByteArray) ++ mkB x = mkB (l ++ [46, 46] ++ x) := mkB_of' (by simp only [cat_list, mkB_list])
theorem Strs.last {w : World} {a : Option Addr} {n c : Nat} {es : List (List UInt8)} {l : List UInt8} (h : Strs w (.slice a n c) es) (hn : es.length = n) (h0 : 0 < n) (hl : l = es.getD (n - 1) []) :
    ∃ b off, a = some ⟨b, off, none⟩ ∧ b < w.heap.size ∧ w.cell? ⟨b, off + (n - 1), none⟩ = some (.string (mkB l)) := by
  subst hn hl
  obtain ⟨a', c', hv, _, _, _, h3⟩ := h.ex
  injection hv with e1 e2 e3
  subst e1 e3
  obtain ⟨b, off, rfl, hlt, hc⟩ := h3 h0
  exact ⟨b, off, rfl, hlt, hc _ (by omega)⟩
theorem Strs.src2 {w : World} {a : Option Addr} {m c : Nat} {zs : List (List UInt8)} (h : Strs w (.slice a m c) zs) :
    (a = none → m = 0 ∧ c = 0) ∧ (∀ ad, a = some ad → ∀ j u, (zs.map strV)[j]? = some u → w.cell? (ad.add j) = some u) := ⟨h.src.2.1, h.src.2.2⟩
/-- What the statements look at of a list of texts. -/
def someL (n : Nat) (zs : List (List UInt8)) : List (List UInt8) := (zs.take n).map fewL
theorem someL_take {n k : Nat} {zs : List (List UInt8)} (hn : k < n) (hk : k < zs.length) : (someL n zs).take (k + 1) = (someL n zs).take k ++ [fewL (zs.getD k [])] := by
  unfold someL
  have hl : k < ((zs.take n).map fewL).length := by rw [List.length_map, List.length_take]; omega
  rw [List.take_succ_eq_append_getElem hl]
  congr 2
  rw [List.getElem_map, List.getElem_take, List.getD_eq_getElem?_getD, List.getElem?_eq_getElem hk]; rfl
theorem someL_len (n : Nat) (zs : List (List UInt8)) : (someL n zs).length = min n zs.length := by unfold someL; rw [List.length_map, List.length_take]
theorem someL_le (n : Nat) (zs : List (List UInt8)) : ∀ l ∈ someL n zs, l.length ≤ 400 := by
  intro l hl
  obtain ⟨q, _, rfl⟩ := List.mem_map.1 hl
  exact fewL_le q
theorem jn_take_succ (x : UInt8) {ls : List (List UInt8)} {k : Nat} {y : List UInt8} (h : ls.take (k + 1) = ls.take k ++ [y]) (hl : k < ls.length) :
    jn x (ls.take (k + 1)) = if k = 0 then y else jn x (ls.take k) ++ x :: y := by
  rw [h]
  split
  · rename_i h0; subst h0; simp [jn]
  · rename_i h0
    exact jn_snoc x _ (by intro e; have := congrArg List.length e; rw [List.length_take, List.length_nil] at this; omega) y
theorem cat_txt (x y : List UInt8) : mkB x ++ mkB y = mkB (x ++ y) := mkB_of' (by simp only [cat_list, mkB_list])
theorem own_last {w : World} {base g cap k n : Nat} {e : TypeId} {acc : List (List UInt8)} {y : List UInt8} (h : w.ownsRow base e 1 (.slice (some ⟨g, 0, none⟩) n cap) n ((acc ++ [y]).map strV)) (hk : acc.length = k) (hn : n = k + 1) :
    w.cell? ⟨g, k, none⟩ = some (.string (mkB y)) := by
  rw [h.cellAt k (by omega), List.map_append, List.getElem?_append_right (by rw [List.length_map]; omega), List.length_map, hk, Nat.sub_self]; rfl
end Go.Proofs.YtnngfcjfhhfafaaGreat

namespace Go.Proofs.YtnngfcjfhhfafaaGreat
open Go.RowKit
set_option linter.unusedVariables false
set_option maxRecDepth 100000

/-! ### Slices of texts -/
def strC (l : List (List UInt8)) : List Value := l.map strV
theorem strC_len (l : List (List UInt8)) : (strC l).length = l.length * 1 := by simp [strC]
theorem strC_app (l m : List (List UInt8)) : strC (l ++ m) = strC l ++ strC m := by simp [strC]
theorem strC_one (l : List (List UInt8)) : ((strC l).all fun u => u.oneCell') = true := strs_one l
theorem Strs.belowB {w w' : World} {v : Value} {zs : List (List UInt8)} (h : Strs w v zs) (hb : Below w.heap.size w w') : Strs w' v zs := by
  obtain ⟨a, c, hv, h1, h2, hn, h3⟩ := h.ex
  refine ⟨a, c, hv, h1, h2, hn, fun hp => ?_⟩
  obtain ⟨b, off, ha, hlt, hc⟩ := h3 hp
  exact ⟨b, off, ha, Nat.lt_of_lt_of_le hlt hb.size, fun j hj => by rw [hb.cell (by exact hlt)]; exact hc j hj⟩
theorem Strs.nil {w : World} {A : Option Addr} {n c : Nat} {l : List (List UInt8)} (h : Strs w (.slice A n c) l) : A = none → n = 0 ∧ c = 0 := h.src.2.1
theorem Strs.cells {w : World} {A : Option Addr} {n c : Nat} {l : List (List UInt8)} (h : Strs w (.slice A n c) l) : ∀ ad, A = some ad → ∀ j u, (strC l)[j]? = some u → w.cell? (ad.add j) = some u := h.src.2.2
theorem stsO {w : World} {base : Nat} {e : TypeId} {v : Value} {ns : List (List UInt8)} (h : w.ownsRow base e 1 v ns.length (strC ns)) : ∃ a c, v = .slice a ns.length c ∧ Strs w (.slice a ns.length c) ns := by
  have hst := Strs.owned h
  obtain ⟨a, c, rfl, _⟩ := hst.ex
  exact ⟨a, c, rfl, hst⟩
theorem Strs.lenE {w : World} {A : Option Addr} {n c : Nat} {l : List (List UInt8)} (h : Strs w (.slice A n c) l) : l.length = n ∧ n ≤ c ∧ c ≤ maxLen := by
  obtain ⟨_, _, hv, h1, h2, _⟩ := h.ex
  injection hv with e1 e2 e3
  subst e2 e3; exact ⟨rfl, h1, h2⟩
theorem Nds.lenE {w : World} {A : Option Addr} {n c : Nat} {l : List Nd} (h : Nds w (.slice A n c) l) : l.length = n ∧ n ≤ c ∧ c ≤ maxLen := by
  obtain ⟨_, _, hv, h1, h2, _⟩ := h.ex
  injection hv with e1 e2 e3
  subst e2 e3; exact ⟨rfl, h1, h2⟩
theorem flat_take {α : Type} (ls : List (List α)) (k : Nat) (h : k < ls.length) : (ls.take (k + 1)).flatten = (ls.take k).flatten ++ ls.getD k [] := by
  rw [List.take_succ_eq_append_getElem h, List.flatten_append]
  simp [List.getD_eq_getElem?_getD, h]
theorem flat_le {α : Type} (ls : List (List α)) (k : Nat) : (ls.take k).flatten.length ≤ ls.flatten.length := by
  conv => rhs; rw [← List.take_append_drop k ls, List.flatten_append, List.length_append]
  omega

/-! ### Nds -/
/-- A slice of slices, in memory. -/
structure NdsL (w : World) (v : Value) (ls : List (List (Nd))) : Prop where
  ex : ∃ b off c, v = .slice (some ⟨b, off, none⟩) ls.length c ∧ ls.length ≤ c ∧ c ≤ maxLen ∧ ∀ j, j < ls.length → ∃ a n c', w.cell? ⟨b, off + j, none⟩ = some (.slice a n c') ∧ Nds w (.slice a n c') (ls.getD j [])
theorem NdsL.below {w w' : World} {v : Value} {ls : List (List (Nd))} (h : NdsL w v ls) (hb : Below w.heap.size w w') : NdsL w' v ls := by
  obtain ⟨b, off, c, hv, h1, h2, h3⟩ := h.ex
  refine ⟨b, off, c, hv, h1, h2, fun j hj => ?_⟩
  obtain ⟨a, n, c', h4, h5⟩ := h3 j hj
  exact ⟨a, n, c', cell_keep h4 hb, Nds.below h5 hb⟩
theorem nd_back (w : World) (A : Option Addr) (n c i : Nat) (h : i ≤ n) (hc : n ≤ c) : (Instr.sliceAt 35 (.slice A n c) (some (.int .i64 i)) none none).run Tryz.prog w = .ok (sliced A i n c 2) w := by
  have h1 : (0 : Int) ≤ (i : Int) := by omega
  have h2 : (i : Int) ≤ (n : Int) := by omega
  have h3 : (n : Int) ≤ (c : Int) := by omega
  go_simp
theorem nd_front (w : World) (A : Option Addr) (n c i : Nat) (h : i ≤ c) : (Instr.sliceAt 35 (.slice A n c) none (some (.int .i64 i)) none).run Tryz.prog w = .ok (sliced A 0 i c 2) w := by
  have h1 : (0 : Int) ≤ (i : Int) := by omega
  have h2 : (i : Int) ≤ (c : Int) := by omega
  go_simp

/-! ### Strs -/
/-- A slice of slices, in memory. -/
structure StrsL (w : World) (v : Value) (ls : List (List (List UInt8))) : Prop where
  ex : ∃ b off c, v = .slice (some ⟨b, off, none⟩) ls.length c ∧ ls.length ≤ c ∧ c ≤ maxLen ∧ ∀ j, j < ls.length → ∃ a n c', w.cell? ⟨b, off + j, none⟩ = some (.slice a n c') ∧ Strs w (.slice a n c') (ls.getD j [])
theorem StrsL.below {w w' : World} {v : Value} {ls : List (List (List UInt8))} (h : StrsL w v ls) (hb : Below w.heap.size w w') : StrsL w' v ls := by
  obtain ⟨b, off, c, hv, h1, h2, h3⟩ := h.ex
  refine ⟨b, off, c, hv, h1, h2, fun j hj => ?_⟩
  obtain ⟨a, n, c', h4, h5⟩ := h3 j hj
  exact ⟨a, n, c', cell_keep h4 hb, Strs.belowB h5 hb⟩
theorem st_back (w : World) (A : Option Addr) (n c i : Nat) (h : i ≤ n) (hc : n ≤ c) : (Instr.sliceAt 56 (.slice A n c) (some (.int .i64 i)) none none).run Tryz.prog w = .ok (sliced A i n c 1) w := by
  have h1 : (0 : Int) ≤ (i : Int) := by omega
  have h2 : (i : Int) ≤ (n : Int) := by omega
  have h3 : (n : Int) ≤ (c : Int) := by omega
  go_simp
theorem st_front (w : World) (A : Option Addr) (n c i : Nat) (h : i ≤ c) : (Instr.sliceAt 56 (.slice A n c) none (some (.int .i64 i)) none).run Tryz.prog w = .ok (sliced A 0 i c 1) w := by
  have h1 : (0 : Int) ≤ (i : Int) := by omega
  have h2 : (i : Int) ≤ (c : Int) := by omega
  go_simp

end Go.Proofs.YtnngfcjfhhfafaaGreat

namespace Go.Proofs.YtnngfcjfhhfafaaGreat
open Go.RowKit
set_option linter.unusedVariables false
set_option maxRecDepth 100000

/-- A row of the call's own, among the blocks from N on. -/
def rowG (N : Nat) (e : TypeId) (size n : Nat) (xs : List Value) : World → Value → Option Nat → Prop := fun w v ob => w.ownsRow N e size v n xs ∧ ob = v.ownBlock
theorem row_heap {w w' : World} {base : Nat} {e : TypeId} {size : Nat} {v : Value} {n : Nat} {xs : List Value} (h : w.ownsRow base e size v n xs) (hb : ∀ b, v.ownBlock = some b → w'.heap[b]? = w.heap[b]?) : w'.ownsRow base e size v n xs := by
  obtain ⟨h1, h2⟩ := h
  refine ⟨h1, h2.imp id ?_⟩
  rintro ⟨g, cap, cur, rfl, hg, hh, h3⟩
  exact ⟨g, cap, cur, rfl, hg, (hb g rfl).trans hh, h3⟩
theorem rowG_near {N : Nat} {e : TypeId} {size n : Nat} {xs : List Value} : ∀ (w w' : World) (v : Value) (ob : Option Nat), (∀ b, ob = some b → w'.heap[b]? = w.heap[b]?) → rowG N e size n xs w v ob → rowG N e size n xs w' v ob := by
  rintro w w' v ob hb ⟨h, rfl⟩
  exact ⟨row_heap h hb, rfl⟩
/-- A slice of a whole block of its own. -/
def blkG (t : TypeId) (cs : Array Value) (k : Nat) : World → Value → Option Nat → Prop := fun w u ob => ∃ b, u = .slice (some ⟨b, 0, none⟩) k k ∧ ob = some b ∧ w.heap[b]? = some (.cells cs t (0, 0))
theorem blkG_near {t : TypeId} {cs : Array Value} {k : Nat} : ∀ (w w' : World) (u : Value) (ob : Option Nat), (∀ b, ob = some b → w'.heap[b]? = w.heap[b]?) → blkG t cs k w u ob → blkG t cs k w' u ob := by
  rintro w w' u ob hb ⟨b, rfl, rfl, h⟩
  exact ⟨b, rfl, rfl, (hb b rfl).trans h⟩
/-- A row of the call's own, whatever slot it is told of. -/
def rowX (X : Value) (N : Nat) (e : TypeId) (size n : Nat) (xs : List Value) : World → Value → Option Nat → Prop := fun w _ ob => w.ownsRow N e size X n xs ∧ ob = X.ownBlock
theorem rowX_near {X : Value} {N : Nat} {e : TypeId} {size n : Nat} {xs : List Value} : ∀ (w w' : World) (v : Value) (ob : Option Nat), (∀ b, ob = some b → w'.heap[b]? = w.heap[b]?) → rowX X N e size n xs w v ob → rowX X N e size n xs w' v ob := by
  rintro w w' v ob hb ⟨h, rfl⟩
  exact ⟨row_heap h hb, rfl⟩
/-- Rows of different elements lie in different blocks. -/
theorem own_apart {w : World} {N N' : Nat} {e e' : TypeId} {s s' n n' : Nat} {x y : Value} {xs ys : List Value} (h : w.ownsRow N e s x n xs) (h' : w.ownsRow N' e' s' y n' ys) (hne : e ≠ e') : ∀ b, x.ownBlock = some b → y.ownBlock ≠ some b := by
  intro b hb hb'
  rcases h.2 with ⟨rfl, _⟩ | ⟨g, cap, cur, rfl, _, hg, _⟩
  · cases hb
  · rcases h'.2 with ⟨rfl, _⟩ | ⟨g', cap', cur', rfl, _, hg', _⟩
    · cases hb'
    · have e1 : g = b := Option.some.inj hb
      have e2 : g' = b := Option.some.inj hb'
      subst e1 e2
      rw [hg] at hg'
      injection hg' with hg'
      injection hg' with _ hg'
      exact hne hg'
/-- A row lies not where a box does, of another type. -/
theorem own_nebox {w : World} {N g : Nat} {e t : TypeId} {s n : Nat} {x : Value} {xs : List Value} {cs : Array Value} (h : w.ownsRow N e s x n xs) (hg : w.heap[g]? = some (.cells cs t (0, 0))) (hne : e ≠ t) : x.ownBlock ≠ some g := by
  intro hb
  rcases h.2 with ⟨rfl, _⟩ | ⟨b, cap, cur, rfl, _, hh, _⟩
  · cases hb
  · have e1 : b = g := Option.some.inj hb
    subst e1
    rw [hg] at hh
    injection hh with hh
    injection hh with _ hh
    exact hne hh.symm
theorem idx_nds {w : World} {b off n c k : Nat} (h : k < n) : (Instr.indexAt 35 (.slice (some ⟨b, off, none⟩) n c) (.int .i64 (k : Int))).run Tryz.prog w = .ok (.pointer (some ⟨b, off + k * 2, none⟩)) w := by
  have h1 : (0 : Int) ≤ (k : Int) := by omega
  have h3 : (k : Int) < (n : Int) := by omega
  go_simp
theorem ld_node {w : World} {g i : Nat} {p v : List UInt8} (h : w.cell? ⟨g, i, none⟩ = some (.string (mkB p))) (h' : w.cell? ⟨g, i + 1, none⟩ = some (.string (mkB v))) : Sem.run Tryz.prog (Instr.loadAt 24 (.pointer (some ⟨g, i, none⟩))) w = .ok (.agg #[.string (mkB p), .string (mkB v)]) w := by
  go_simp
section
variable {P : Program} {ops : Array Oper} {a : Act} {w : World} {o : Oper}
theorem ex_back {t : TypeId} {x y : Operand} {vx vy v : Value} (hop : o.op = .slice t x (some y) none none) (hx : a.eval x = vx) (hy : a.eval y = vy) (hr : Sem.run P (Instr.sliceAt t vx (some vy) none none) w = .ok v w) : Sem.run P (execOp a.eval o) w = .ok (.value v) w := by
  simp only [execOp, hop, Option.map, hx, hy]
  simp [hr]
end
end Go.Proofs.YtnngfcjfhhfafaaGreat

namespace Go.Proofs.YtnngfcjfhhfafaaGreat
set_option linter.unusedVariables false
set_option maxRecDepth 100000

abbrev Rw := List UInt8 × List (List UInt8)
abbrev zR : Rw := ([], [])

/-! ### Lists each of which is as it should be, and ahead of the next one -/
section
variable {α : Type}
def chainB (ok : α → Bool) (lt : α → α → Bool) (z : α) (l : List α) (j : Nat) : Bool := ok (l.getD j z) && (decide (j = 0) || lt (l.getD (j - 1) z) (l.getD j z))
def chainA (ok : α → Bool) (lt : α → α → Bool) (z : α) (l : List α) : Bool := (List.range l.length).all (chainB ok lt z l)
theorem chain_yes {ok : α → Bool} {lt : α → α → Bool} {z : α} {l : List α} (h : ∀ j, j < l.length → chainB ok lt z l j = true) : chainA ok lt z l = true := List.all_eq_true.2 fun j hj => h j (List.mem_range.1 hj)
theorem chain_no {ok : α → Bool} {lt : α → α → Bool} {z : α} {l : List α} {j : Nat} (hj : j < l.length) (h : chainB ok lt z l j = false) : chainA ok lt z l = false := by
  cases hc : chainA ok lt z l
  · rfl
  · rw [List.all_eq_true.1 hc j (List.mem_range.2 hj)] at h; cases h
theorem chain_at {ok : α → Bool} {lt : α → α → Bool} {z : α} {l : List α} (h : chainA ok lt z l = true) {j : Nat} (hj : j < l.length) : chainB ok lt z l j = true := List.all_eq_true.1 h j (List.mem_range.2 hj)
theorem gd_at {l : List α} {z : α} {j : Nat} (h : j < l.length) : l.getD j z = l[j] := by
  rw [List.getD_eq_getElem?_getD, List.getElem?_eq_getElem h]; rfl
theorem gd_in {l : List α} {z : α} {j : Nat} (h : j < l.length) : l.getD j z ∈ l := by rw [gd_at h]; exact List.getElem_mem h
theorem pair_of_next {lt : α → α → Bool} (tr : ∀ a b c, lt a b = true → lt b c = true → lt a c = true) : ∀ {l : List α}, (∀ j (hj : j + 1 < l.length), lt (l[j]'(by omega)) l[j + 1] = true) → l.Pairwise fun a b => lt a b = true
  | [], _ => List.Pairwise.nil
  | [x], _ => by simp
  | x :: y :: r, h => by
    have ih : (y :: r).Pairwise fun a b => lt a b = true := pair_of_next tr fun j hj => h (j + 1) (by simpa using hj)
    have h0 : lt x y = true := h 0 (by simp)
    refine List.pairwise_cons.2 ⟨fun z hz => ?_, ih⟩
    rcases List.mem_cons.1 hz with rfl | hz
    · exact h0
    · exact tr _ _ _ h0 ((List.pairwise_cons.1 ih).1 z hz)
theorem chain_iff {ok : α → Bool} {lt : α → α → Bool} {z : α} {l : List α} (tr : ∀ a b c, lt a b = true → lt b c = true → lt a c = true) : chainA ok lt z l = true ↔ (∀ x ∈ l, ok x = true) ∧ l.Pairwise fun a b => lt a b = true := by
  constructor
  · intro h
    refine ⟨fun x hx => ?_, pair_of_next tr fun j hj => ?_⟩
    · obtain ⟨j, hj, rfl⟩ := List.getElem_of_mem hx
      have := chain_at h hj
      unfold chainB at this
      rw [gd_at hj, Bool.and_eq_true] at this
      exact this.1
    · have := chain_at h hj
      unfold chainB at this
      rw [gd_at hj, Nat.add_sub_cancel, gd_at (show j < l.length by omega), Bool.and_eq_true] at this
      simpa using this.2
  · rintro ⟨h, k⟩
    refine chain_yes fun j hj => ?_
    unfold chainB
    rw [h _ (gd_in hj), Bool.true_and]
    by_cases h0 : j = 0
    · simp [h0]
    · rw [decide_eq_false h0, Bool.false_or, gd_at hj, gd_at (show j - 1 < l.length by omega)]
      exact List.pairwise_iff_getElem.1 k (j - 1) j (by omega) hj (by omega)
/-- What comes ahead of a place, and what does not. -/
theorem cut_ahead {l : List α} {z : α} {f : α → Bool} {i : Nat} (hi : i ≤ l.length) (h1 : ∀ t, t < i → f (l.getD t z) = true) (h2 : ∀ t, i ≤ t → t < l.length → f (l.getD t z) = false) : l.filter f = l.take i ∧ (l.filter fun x => !f x) = l.drop i := by
  have m1 : ∀ x ∈ l.take i, f x = true := fun x hx => by
    obtain ⟨t, ht, rfl⟩ := List.getElem_of_mem hx
    have ht2 : t < i := by rw [List.length_take] at ht; omega
    have := h1 t ht2
    rw [gd_at (by omega)] at this
    rw [List.getElem_take]; exact this
  have m2 : ∀ x ∈ l.drop i, f x = false := fun x hx => by
    obtain ⟨t, ht, rfl⟩ := List.getElem_of_mem hx
    rw [List.length_drop] at ht
    have := h2 (i + t) (by omega) (by omega)
    rw [gd_at (by omega)] at this
    rw [List.getElem_drop, this]
  constructor
  · conv => lhs; rw [← List.take_append_drop i l, List.filter_append, List.filter_eq_self.2 m1, List.filter_eq_nil_iff.2 (fun x hx => by rw [m2 x hx]; simp), List.append_nil]
  · have e1 : ((l.take i).filter fun x => !f x) = [] := List.filter_eq_nil_iff.2 (fun x hx => by rw [m1 x hx]; simp)
    have e2 : ((l.drop i).filter fun x => !f x) = l.drop i := List.filter_eq_self.2 (fun x hx => by rw [m2 x hx]; rfl)
    conv => lhs; rw [← List.take_append_drop i l, List.filter_append, e1, e2, List.nil_append]
end

/-! ### Versions of a row -/
def ltV (a b : List UInt8) : Bool := decide (cmpT a b < 0)
theorem ltV_iff {a b : List UInt8} : ltV a b = true ↔ cmpT a b < 0 := by unfold ltV; exact decide_eq_true_iff
theorem ltV_no {a b : List UInt8} : ltV a b = false ↔ 0 ≤ cmpT a b := by unfold ltV; rw [decide_eq_false_iff_not]; omega
theorem ltV_trans (a b c : List UInt8) (h : ltV a b = true) (k : ltV b c = true) : ltV a c = true := by
  rw [ltV_iff] at *
  exact (ord_V.trans _ _ _ (Int.le_of_lt h) (Int.le_of_lt k)).2 (.inl h)
theorem ltV_irrefl (a : List UInt8) : ltV a a = false := by rw [ltV_no, cmpT_self]; exact Int.le_refl 0
theorem ltV_asym {a b : List UInt8} (h : ltV a b = true) : ltV b a = false := by
  rw [ltV_iff] at h; rw [ltV_no, cmpT_swap]; omega
theorem cmpT_eq {a b : List UInt8} (ha : okV a = true) (hb : okV b = true) (h : cmpT a b = 0) : a = b := ver_inj ha hb ((ord_V.zero _ _).1 h)
theorem ltV_tri {a b : List UInt8} (ha : okV a = true) (hb : okV b = true) : ltV a b = true ∨ a = b ∨ ltV b a = true := by
  rcases ord_V.vals (verOf a) (verOf b) with h | h | h
  · exact .inl (ltV_iff.2 (by show cmpT a b < 0; rw [show cmpT a b = -1 from h]; omega))
  · exact .inr (.inl (cmpT_eq ha hb h))
  · exact .inr (.inr (ltV_iff.2 (by rw [cmpT_swap, show cmpT a b = 1 from h]; omega)))
def fitV2 (l : List (List UInt8)) : Bool := chainA okV ltV [] l && decide (0 < l.length)
theorem fitV_iff {l : List (List UInt8)} : fitV2 l = true ↔ (∀ v ∈ l, okV v = true) ∧ (l.Pairwise fun a b => ltV a b = true) ∧ l ≠ [] := by
  unfold fitV2
  rw [Bool.and_eq_true, chain_iff ltV_trans, decide_eq_true_iff, List.length_pos_iff, and_assoc]
theorem pair_nodup {l : List (List UInt8)} (h : l.Pairwise fun a b => ltV a b = true) : l.Nodup := List.Pairwise.imp (fun {a b} k e => by subst e; rw [ltV_irrefl] at k; cases k) h

/-! ### Rows -/
def ltP (a b : Rw) : Bool := decide (Lib.compareBytes a.1 b.1 < 0)
theorem ltP_iff {a b : Rw} : ltP a b = true ↔ Lib.compareBytes a.1 b.1 < 0 := by unfold ltP; exact decide_eq_true_iff
theorem ltP_trans (a b c : Rw) (h : ltP a b = true) (k : ltP b c = true) : ltP a c = true := by
  rw [ltP_iff] at *
  exact (cb_trans _ _ _ (Int.le_of_lt h) (Int.le_of_lt k)).2 (.inl h)
theorem ltP_ne {a b : Rw} (h : ltP a b = true) : a.1 ≠ b.1 := fun e => by rw [ltP_iff, e, cb_self] at h; omega
def okRow (r : Rw) : Bool := pathB r.1 && fitV2 r.2
def okR (l : List Rw) : Bool := chainA okRow ltP zR l
theorem okR_iff {l : List Rw} : okR l = true ↔ (∀ r ∈ l, pathB r.1 = true ∧ fitV2 r.2 = true) ∧ l.Pairwise fun a b => ltP a b = true := by
  unfold okR
  rw [chain_iff ltP_trans]
  unfold okRow
  simp only [Bool.and_eq_true]
theorem okR_nil : okR [] = true := rfl

def rwAll (l : List Rw) : List Nd := l.flatMap fun r => r.2.map fun v => (r.1, v)
theorem rwAll_mem {l : List Rw} {n : Nd} : n ∈ rwAll l ↔ ∃ r ∈ l, r.1 = n.1 ∧ n.2 ∈ r.2 := by
  unfold rwAll
  rw [List.mem_flatMap]
  constructor
  · rintro ⟨r, hr, h⟩
    obtain ⟨v, hv, rfl⟩ := List.mem_map.1 h
    exact ⟨r, hr, rfl, hv⟩
  · rintro ⟨r, hr, h1, h2⟩
    refine ⟨r, hr, List.mem_map.2 ⟨n.2, h2, ?_⟩⟩
    rw [h1]
theorem rwAll_app (l m : List Rw) : rwAll (l ++ m) = rwAll l ++ rwAll m := by unfold rwAll; exact List.flatMap_append
theorem rwAll_cons (r : Rw) (l : List Rw) : rwAll (r :: l) = (r.2.map fun v => (r.1, v)) ++ rwAll l := by unfold rwAll; exact List.flatMap_cons
theorem rwAll_one (r : Rw) : rwAll [r] = r.2.map fun v => (r.1, v) := by rw [rwAll_cons]; simp [rwAll]
theorem all_okN {l : List Rw} (h : okR l = true) : ∀ n ∈ rwAll l, okN n = true := fun n hn => by
  obtain ⟨r, hr, h1, h2⟩ := rwAll_mem.1 hn
  have h3 := (okR_iff.1 h).1 r hr
  exact okN_of (by rw [← h1]; exact h3.1) ((fitV_iff.1 h3.2).1 _ h2)
theorem ltN_path {a b : Nd} (h : Lib.compareBytes a.1 b.1 < 0) : ltN a b = true := by
  rw [ltN_iff]; unfold ordN
  rw [if_neg (fun e => by rw [e, cb_self] at h; omega)]; exact h
theorem ltN_same {a b : Nd} (h : a.1 = b.1) : ltN a b = ltV a.2 b.2 := by
  unfold ltN ltV ordN; rw [if_pos h]
theorem ltN_le {a b : Nd} (h : ltN a b = true) : a.1 = b.1 ∨ Lib.compareBytes a.1 b.1 < 0 := by
  rw [ltN_iff] at h; unfold ordN at h
  by_cases e : a.1 = b.1
  · exact .inl e
  · rw [if_neg e] at h; exact .inr h
theorem all_rises : ∀ {l : List Rw}, okR l = true → Rises (rwAll l)
  | [], _ => by unfold rwAll; exact List.Pairwise.nil
  | r :: l, h => by
    obtain ⟨h1, h2⟩ := okR_iff.1 h
    obtain ⟨h3, h4⟩ := List.pairwise_cons.1 h2
    have ih : Rises (rwAll l) := all_rises (okR_iff.2 ⟨fun x hx => h1 x (List.mem_cons_of_mem _ hx), h4⟩)
    rw [rwAll_cons]
    refine List.pairwise_append.2 ⟨List.pairwise_map.2 ((fitV_iff.1 (h1 r List.mem_cons_self).2).2.1.imp fun {a b} k => by rw [ltN_same (a := (r.1, a)) (b := (r.1, b)) rfl]; exact k), ih, fun a ha b hb => ?_⟩
    obtain ⟨v, hv, rfl⟩ := List.mem_map.1 ha
    obtain ⟨s, hs, e1, e2⟩ := rwAll_mem.1 hb
    have := ltP_iff.1 (h3 s hs)
    rw [e1] at this
    exact ltN_path this
theorem all_check {l : List Rw} (h : okR l = true) : checkN (rwAll l) = true := checkN_of (all_okN h) (all_rises h)

/-- A node behind rows. -/
def pushR (l : List Rw) (n : Nd) : List Rw :=
  match l.getLast? with
  | some r => if r.1 = n.1 then l.dropLast ++ [(r.1, r.2 ++ [n.2])] else l ++ [(n.1, [n.2])]
  | none => [(n.1, [n.2])]
def rwOf (s : List Nd) : List Rw := s.foldl pushR []
theorem push_nil (n : Nd) : pushR [] n = [(n.1, [n.2])] := rfl
theorem push_same (l : List Rw) (p : List UInt8) (vs : List (List UInt8)) (v : List UInt8) : pushR (l ++ [(p, vs)]) (p, v) = l ++ [(p, vs ++ [v])] := by
  unfold pushR
  rw [List.getLast?_concat]
  simp
theorem push_new (l : List Rw) (r : Rw) (n : Nd) (h : r.1 ≠ n.1) : pushR (l ++ [r]) n = l ++ [r] ++ [(n.1, [n.2])] := by
  unfold pushR
  rw [List.getLast?_concat]
  simp only
  rw [if_neg h]
theorem snoc_cases {α : Type} (l : List α) : l = [] ∨ ∃ k x, l = k ++ [x] := by
  rcases List.eq_nil_or_concat l with h | ⟨k, x, h⟩
  · exact .inl h
  · exact .inr ⟨k, x, by rw [h, List.concat_eq_append]⟩
theorem rwOf_snoc (s : List Nd) (n : Nd) : rwOf (s ++ [n]) = pushR (rwOf s) n := by unfold rwOf; rw [List.foldl_append]; rfl
theorem push_ahead {l : List Rw} {n : Nd} (h : ∀ r ∈ l, r.1 ≠ n.1) : pushR l n = l ++ [(n.1, [n.2])] := by
  rcases snoc_cases l with rfl | ⟨k, r, rfl⟩
  · rfl
  · exact push_new k r n (h r (by simp))
theorem all_push (l : List Rw) (n : Nd) : rwAll (pushR l n) = rwAll l ++ [n] := by
  rcases snoc_cases l with rfl | ⟨k, ⟨p, vs⟩, rfl⟩
  · rw [push_nil, rwAll_one]; rfl
  · by_cases h : p = n.1
    · subst h
      rw [push_same k n.1 vs n.2, rwAll_app, rwAll_app, rwAll_one, rwAll_one, List.map_append]
      simp
    · rw [push_new k (p, vs) n h, rwAll_app, rwAll_one]; rfl
theorem all_fold : ∀ (s : List Nd) (l : List Rw), rwAll (s.foldl pushR l) = rwAll l ++ s
  | [], l => by simp
  | n :: s, l => by rw [List.foldl_cons, all_fold s, all_push]; simp
theorem all_of (s : List Nd) : rwAll (rwOf s) = s := by unfold rwOf; rw [all_fold]; rfl
theorem push_ok {l : List Rw} {n : Nd} (h : okR l = true) (hn : okN n = true) (hl : ∀ x ∈ rwAll l, ltN x n = true) : okR (pushR l n) = true := by
  obtain ⟨hp, hv⟩ := okN_parts hn
  have one : fitV2 [n.2] = true := fitV_iff.2 ⟨fun v hv' => by rw [List.mem_singleton.1 hv']; exact hv, by simp, by simp⟩
  obtain ⟨h1, h2⟩ := okR_iff.1 h
  rcases snoc_cases l with rfl | ⟨k, ⟨p, vs⟩, rfl⟩
  · rw [push_nil]
    exact okR_iff.2 ⟨fun r hr => by rw [List.mem_singleton.1 hr]; exact ⟨hp, one⟩, by simp⟩
  · have hlast := h1 (p, vs) (by simp)
    obtain ⟨f1, f2, f3⟩ := fitV_iff.1 hlast.2
    obtain ⟨q1, -, q3⟩ := List.pairwise_append.1 h2
    by_cases e : p = n.1
    · subst e
      rw [push_same]
      refine okR_iff.2 ⟨fun r hr => ?_, ?_⟩
      · rcases List.mem_append.1 hr with hr | hr
        · exact h1 r (List.mem_append_left _ hr)
        · rw [List.mem_singleton.1 hr]
          refine ⟨hp, fitV_iff.2 ⟨fun v hv' => ?_, ?_, by simp⟩⟩
          · rcases List.mem_append.1 hv' with hv' | hv'
            · exact f1 v hv'
            · rw [List.mem_singleton.1 hv']; exact hv
          · refine List.pairwise_append.2 ⟨f2, by simp, fun a ha b hb => ?_⟩
            rw [List.mem_singleton.1 hb]
            have := hl (n.1, a) (rwAll_mem.2 ⟨(n.1, vs), by simp, rfl, ha⟩)
            rwa [ltN_same (a := (n.1, a)) (b := n) rfl] at this
      · refine List.pairwise_append.2 ⟨q1, by simp, fun a ha b hb => ?_⟩
        rw [List.mem_singleton.1 hb]
        have := ltP_iff.1 (q3 a ha (n.1, vs) (by simp))
        exact ltP_iff.2 this
    · rw [push_new k (p, vs) n e]
      have hpn : Lib.compareBytes p n.1 < 0 := by
        obtain ⟨v, hv'⟩ := List.exists_mem_of_ne_nil _ f3
        have := hl (p, v) (rwAll_mem.2 ⟨(p, vs), by simp, rfl, hv'⟩)
        rcases ltN_le this with k | k
        · exact absurd k e
        · exact k
      refine okR_iff.2 ⟨fun r hr => ?_, List.pairwise_append.2 ⟨h2, by simp, fun a ha b hb => ?_⟩⟩
      · rcases List.mem_append.1 hr with hr | hr
        · exact h1 r hr
        · rw [List.mem_singleton.1 hr]; exact ⟨hp, one⟩
      · rw [List.mem_singleton.1 hb, ltP_iff]
        show Lib.compareBytes a.1 n.1 < 0
        rcases List.mem_append.1 ha with ha | ha
        · have := ltP_iff.1 (q3 a ha (p, vs) (by simp))
          exact (cb_trans _ _ _ (Int.le_of_lt this) (Int.le_of_lt hpn)).2 (.inl this)
        · rw [List.mem_singleton.1 ha]; exact hpn
theorem fold_ok : ∀ (s : List Nd) (l : List Rw), okR l = true → checkN (rwAll l ++ s) = true → okR (s.foldl pushR l) = true
  | [], l, h, _ => h
  | n :: s, l, h, hc => by
    obtain ⟨c1, c2⟩ := checkN_iff.1 hc
    rw [List.foldl_cons]
    refine fold_ok s _ (push_ok h (c1 n (by simp)) fun x hx => (List.pairwise_append.1 c2).2.2 x hx n (by simp)) ?_
    rw [all_push, List.append_assoc]; exact hc
theorem of_ok {s : List Nd} (h : checkN s = true) : okR (rwOf s) = true := fold_ok s [] okR_nil (by simpa [rwAll] using h)
theorem fold_row (p : List UInt8) : ∀ (vs us : List (List UInt8)) (k : List Rw), (vs.map fun v => (p, v)).foldl pushR (k ++ [(p, us)]) = k ++ [(p, us ++ vs)]
  | [], us, k => by simp
  | v :: vs, us, k => by
    rw [List.map_cons, List.foldl_cons, push_same, fold_row p vs (us ++ [v]) k]; simp
theorem fold_all : ∀ (l k : List Rw), okR (k ++ l) = true → (rwAll l).foldl pushR k = k ++ l
  | [], k, _ => by simp [rwAll]
  | (p, vs) :: l, k, h => by
    obtain ⟨h1, h2⟩ := okR_iff.1 h
    rw [rwAll_cons, List.foldl_append]
    have hne := (fitV_iff.1 (h1 (p, vs) (by simp)).2).2.2
    cases vs with
    | nil => exact absurd rfl hne
    | cons v vs =>
      have ha : ∀ r ∈ k, r.1 ≠ p := fun r hr => ltP_ne ((List.pairwise_append.1 h2).2.2 r hr (p, v :: vs) (by simp))
      simp only
      rw [List.map_cons, List.foldl_cons, push_ahead (n := (p, v)) ha, fold_row, List.singleton_append, fold_all l _ (by simpa using h)]
      simp
theorem of_all {l : List Rw} (h : okR l = true) : rwOf (rwAll l) = l := by
  have := fold_all l [] (by simpa using h)
  simpa [rwOf] using this
theorem rows_eq {a b : List Rw} (ha : okR a = true) (hb : okR b = true) (h : ∀ n, n ∈ rwAll a ↔ n ∈ rwAll b) : a = b := by
  rw [← of_all ha, ← of_all hb, rises_eq (all_rises ha) (all_rises hb) h]
theorem rows_is {a : List Rw} {s : List Nd} (ha : okR a = true) (hs : checkN s = true) (h : ∀ n, n ∈ rwAll a ↔ n ∈ s) : a = rwOf s := rows_eq ha (of_ok hs) fun n => by rw [all_of]; exact h n
theorem may_is (l : List Rw) : (checkN (rwAll l) && decide (l = rwOf (rwAll l))) = okR l := by
  rw [Bool.eq_iff_iff, Bool.and_eq_true, decide_eq_true_iff]
  constructor
  · rintro ⟨h1, h2⟩
    rw [h2]; exact of_ok h1
  · intro h
    exact ⟨all_check h, (of_all h).symm⟩

/-! ### A path's versions; versions in the stead of others -/
def rwVer (l : List Rw) (p : List UInt8) : List (List UInt8) := ((rwAll l).filter fun n => decide (n.1 = p)).map (·.2)
theorem ver_mem {l : List Rw} {p v : List UInt8} : v ∈ rwVer l p ↔ (p, v) ∈ rwAll l := by
  unfold rwVer
  rw [List.mem_map]
  constructor
  · rintro ⟨⟨q, u⟩, h, rfl⟩
    obtain ⟨h1, h2⟩ := List.mem_filter.1 h
    have : q = p := by simpa using h2
    rw [← this]; exact h1
  · intro h
    exact ⟨(p, v), List.mem_filter.2 ⟨h, by simp⟩, rfl⟩
theorem ver_pair {l : List Rw} (h : okR l = true) (p : List UInt8) : (rwVer l p).Pairwise fun a b => ltV a b = true := by
  unfold rwVer
  refine List.pairwise_map.2 (List.Pairwise.imp_of_mem (fun {a b} ha hb k => ?_) ((all_rises h).filter _))
  have e1 : a.1 = p := by simpa using (List.mem_filter.1 ha).2
  have e2 : b.1 = p := by simpa using (List.mem_filter.1 hb).2
  rwa [ltN_same (e1.trans e2.symm)] at k
theorem ver_ok {l : List Rw} (h : okR l = true) (p : List UInt8) : ∀ v ∈ rwVer l p, okV v = true := fun v hv => (okN_parts (all_okN h _ (ver_mem.1 hv))).2
theorem ver_fit {l : List Rw} (h : okR l = true) (p : List UInt8) : rwVer l p = [] ∨ fitV2 (rwVer l p) = true := by
  by_cases e : rwVer l p = []
  · exact .inl e
  · exact .inr (fitV_iff.2 ⟨ver_ok h p, ver_pair h p, e⟩)
theorem flt_none {l : List Rw} {p : List UInt8} (h : ∀ r ∈ l, r.1 ≠ p) : ((rwAll l).filter fun n => decide (n.1 = p)) = [] := by
  rw [List.filter_eq_nil_iff]
  intro n hn
  obtain ⟨r, hr, e, -⟩ := rwAll_mem.1 hn
  have := h r hr
  rw [e] at this
  simp [this]
theorem ver_at {l k : List Rw} {r : Rw} (h : okR (l ++ r :: k) = true) : rwVer (l ++ r :: k) r.1 = r.2 := by
  obtain ⟨-, h2⟩ := okR_iff.1 h
  obtain ⟨-, q2, q3⟩ := List.pairwise_append.1 h2
  have n1 : ∀ x ∈ l, x.1 ≠ r.1 := fun x hx => ltP_ne (q3 x hx r List.mem_cons_self)
  have n2 : ∀ x ∈ k, x.1 ≠ r.1 := fun x hx => (ltP_ne ((List.pairwise_cons.1 q2).1 x hx)).symm
  unfold rwVer
  rw [rwAll_app, rwAll_cons, List.filter_append, List.filter_append, flt_none n1, flt_none n2, List.nil_append, List.append_nil, List.filter_eq_self.2 (fun n hn => by obtain ⟨v, -, rfl⟩ := List.mem_map.1 hn; simp), List.map_map, show ((fun n : Nd => n.2) ∘ fun v => (r.1, v)) = id from rfl, List.map_id]
theorem ver_none {l : List Rw} {p : List UInt8} (h : ∀ r ∈ l, r.1 ≠ p) : rwVer l p = [] := by unfold rwVer; rw [flt_none h]; rfl

def rwWith (l : List Rw) (p : List UInt8) (vs : List (List UInt8)) : List Rw :=
  (l.filter fun r => decide (Lib.compareBytes r.1 p < 0)) ++ ((if vs = [] then [] else [(p, vs)]) ++ l.filter fun r => decide (Lib.compareBytes p r.1 < 0))
theorem cb_ne_lt {a b : List UInt8} (h : a ≠ b) : Lib.compareBytes a b < 0 ∨ Lib.compareBytes b a < 0 := by
  rcases cb_vals a b with k | k | k
  · exact .inl (by omega)
  · exact absurd (cb_zero _ _ k) h
  · exact .inr (by rw [cb_swap]; omega)
theorem with_mem {l : List Rw} {p : List UInt8} {vs : List (List UInt8)} (n : Nd) : n ∈ rwAll (rwWith l p vs) ↔ (n.1 = p ∧ n.2 ∈ vs) ∨ (n.1 ≠ p ∧ n ∈ rwAll l) := by
  unfold rwWith
  rw [rwAll_app, rwAll_app, List.mem_append, List.mem_append]
  have mid : n ∈ rwAll (if vs = [] then [] else [(p, vs)]) ↔ n.1 = p ∧ n.2 ∈ vs := by
    by_cases e : vs = []
    · rw [if_pos e, e]; simp [rwAll]
    · rw [if_neg e, rwAll_mem]
      constructor
      · rintro ⟨r, hr, h1, h2⟩
        rw [List.mem_singleton.1 hr] at h1 h2
        exact ⟨h1.symm, h2⟩
      · rintro ⟨h1, h2⟩
        exact ⟨(p, vs), List.mem_singleton.2 rfl, h1.symm, h2⟩
  have fl : ∀ f : Rw → Bool, n ∈ rwAll (l.filter f) → n ∈ rwAll l := fun f h => by
    obtain ⟨r, hr, h1, h2⟩ := rwAll_mem.1 h
    exact rwAll_mem.2 ⟨r, (List.mem_filter.1 hr).1, h1, h2⟩
  rw [mid]
  constructor
  · rintro (h | h | h)
    · refine .inr ⟨fun e => ?_, fl _ h⟩
      obtain ⟨r, hr, h1, -⟩ := rwAll_mem.1 h
      have := (List.mem_filter.1 hr).2
      rw [h1, e, cb_self] at this; simp at this
    · exact .inl h
    · refine .inr ⟨fun e => ?_, fl _ h⟩
      obtain ⟨r, hr, h1, -⟩ := rwAll_mem.1 h
      have := (List.mem_filter.1 hr).2
      rw [h1, e, cb_self] at this; simp at this
  · rintro (h | ⟨h1, h2⟩)
    · exact .inr (.inl h)
    · obtain ⟨r, hr, e1, e2⟩ := rwAll_mem.1 h2
      rcases cb_ne_lt h1 with k | k
      · exact .inl (rwAll_mem.2 ⟨r, List.mem_filter.2 ⟨hr, by rw [e1]; simpa using k⟩, e1, e2⟩)
      · exact .inr (.inr (rwAll_mem.2 ⟨r, List.mem_filter.2 ⟨hr, by rw [e1]; simpa using k⟩, e1, e2⟩))
theorem with_ok {l : List Rw} {p : List UInt8} {vs : List (List UInt8)} (h : okR l = true) (hp : pathB p = true) (hv : vs = [] ∨ fitV2 vs = true) : okR (rwWith l p vs) = true := by
  obtain ⟨h1, h2⟩ := okR_iff.1 h
  unfold rwWith
  refine okR_iff.2 ⟨fun r hr => ?_, ?_⟩
  · rcases List.mem_append.1 hr with hr | hr
    · exact h1 r (List.mem_filter.1 hr).1
    · rcases List.mem_append.1 hr with hr | hr
      · by_cases e : vs = []
        · rw [if_pos e] at hr; cases hr
        · rw [if_neg e] at hr
          rw [List.mem_singleton.1 hr]
          exact ⟨hp, hv.resolve_left e⟩
      · exact h1 r (List.mem_filter.1 hr).1
  · have mid : ∀ a ∈ (if vs = [] then [] else [(p, vs)] : List Rw), a.1 = p := fun a ha => by
      by_cases e : vs = []
      · rw [if_pos e] at ha; cases ha
      · rw [if_neg e] at ha; rw [List.mem_singleton.1 ha]
    refine List.pairwise_append.2 ⟨h2.filter _, List.pairwise_append.2 ⟨by by_cases e : vs = [] <;> simp [e], h2.filter _, fun a ha b hb => ?_⟩, fun a ha b hb => ?_⟩
    · rw [ltP_iff, mid a ha]
      simpa using (List.mem_filter.1 hb).2
    · have ka : Lib.compareBytes a.1 p < 0 := by simpa using (List.mem_filter.1 ha).2
      rcases List.mem_append.1 hb with hb | hb
      · rw [ltP_iff, mid b hb]; exact ka
      · have kb : Lib.compareBytes p b.1 < 0 := by simpa using (List.mem_filter.1 hb).2
        rw [ltP_iff]
        exact (cb_trans _ _ _ (Int.le_of_lt ka) (Int.le_of_lt kb)).2 (.inl ka)

def insV (l : List (List UInt8)) (v : List UInt8) : List (List UInt8) := (l.filter fun x => ltV x v) ++ v :: l.filter fun x => !ltV x v
def delV (l : List (List UInt8)) (v : List UInt8) : List (List UInt8) := (l.filter fun x => ltV x v) ++ (l.filter fun x => !ltV x v).drop 1
theorem ins_mem {l : List (List UInt8)} {v u : List UInt8} : u ∈ insV l v ↔ u ∈ l ∨ u = v := by
  unfold insV
  rw [List.mem_append, List.mem_cons, List.mem_filter, List.mem_filter]
  constructor
  · rintro (⟨h, -⟩ | h | ⟨h, -⟩)
    · exact .inl h
    · exact .inr h
    · exact .inl h
  · rintro (h | h)
    · cases e : ltV u v with
      | true => exact .inl ⟨h, rfl⟩
      | false => exact .inr (.inr ⟨h, rfl⟩)
    · exact .inr (.inl h)
theorem ins_fit {l : List (List UInt8)} {v : List UInt8} (ho : ∀ x ∈ l, okV x = true) (hp : l.Pairwise fun a b => ltV a b = true) (hv : okV v = true) (hn : v ∉ l) : fitV2 (insV l v) = true := by
  refine fitV_iff.2 ⟨fun x hx => ?_, ?_, by unfold insV; simp⟩
  · rcases ins_mem.1 hx with h | rfl
    · exact ho x h
    · exact hv
  · unfold insV
    refine List.pairwise_append.2 ⟨hp.filter _, List.pairwise_cons.2 ⟨fun x hx => ?_, hp.filter _⟩, fun a ha b hb => ?_⟩
    · obtain ⟨h1, h2⟩ := List.mem_filter.1 hx
      have h3 : ltV x v = false := by simpa using h2
      rcases ltV_tri (ho x h1) hv with k | k | k
      · rw [k] at h3; cases h3
      · subst k; exact absurd h1 hn
      · exact k
    · have ka := (List.mem_filter.1 ha).2
      rcases List.mem_cons.1 hb with rfl | hb
      · exact ka
      · obtain ⟨h1, h2⟩ := List.mem_filter.1 hb
        have h3 : ltV b v = false := by simpa using h2
        rcases ltV_tri (ho b h1) hv with k | k | k
        · rw [k] at h3; cases h3
        · subst k; exact ka
        · exact ltV_trans _ _ _ ka k
/-- Behind what comes ahead of a version that is there it stands itself. -/
theorem flt_head {l : List (List UInt8)} {v : List UInt8} (ho : ∀ x ∈ l, okV x = true) (hp : l.Pairwise fun a b => ltV a b = true) (hv : okV v = true) (hm : v ∈ l) : (l.filter fun x => !ltV x v) = v :: l.filter fun x => ltV v x := by
  induction l with
  | nil => cases hm
  | cons x l ih =>
    obtain ⟨h1, h2⟩ := List.pairwise_cons.1 hp
    by_cases e : x = v
    · subst e
      rw [List.filter_cons, ltV_irrefl, List.filter_cons, ltV_irrefl]
      simp only [Bool.not_false, if_true, Bool.false_eq_true, if_false]
      congr 1
      refine List.filter_congr fun y hy => ?_
      rw [h1 y hy, ltV_asym (h1 y hy)]; rfl
    · have hm' : v ∈ l := by
        rcases List.mem_cons.1 hm with k | k
        · exact absurd k.symm e
        · exact k
      have hx := h1 v hm'
      rw [List.filter_cons, hx, List.filter_cons, ltV_asym hx]
      simp only [Bool.not_true, Bool.false_eq_true, if_false]
      exact ih (fun y hy => ho y (List.mem_cons_of_mem _ hy)) h2 hm'
theorem del_eq {l : List (List UInt8)} {v : List UInt8} (ho : ∀ x ∈ l, okV x = true) (hp : l.Pairwise fun a b => ltV a b = true) (hv : okV v = true) (hm : v ∈ l) : delV l v = (l.filter fun x => ltV x v) ++ l.filter fun x => ltV v x := by
  unfold delV; rw [flt_head ho hp hv hm]; rfl
theorem del_mem {l : List (List UInt8)} {v u : List UInt8} (ho : ∀ x ∈ l, okV x = true) (hp : l.Pairwise fun a b => ltV a b = true) (hv : okV v = true) (hm : v ∈ l) : u ∈ delV l v ↔ u ∈ l ∧ u ≠ v := by
  rw [del_eq ho hp hv hm, List.mem_append, List.mem_filter, List.mem_filter]
  constructor
  · rintro (⟨h, k⟩ | ⟨h, k⟩)
    · exact ⟨h, fun e => by rw [e, ltV_irrefl] at k; cases k⟩
    · exact ⟨h, fun e => by rw [e, ltV_irrefl] at k; cases k⟩
  · rintro ⟨h, k⟩
    rcases ltV_tri (ho u h) hv with q | q | q
    · exact .inl ⟨h, q⟩
    · exact absurd q k
    · exact .inr ⟨h, q⟩
theorem del_fit {l : List (List UInt8)} {v : List UInt8} (ho : ∀ x ∈ l, okV x = true) (hp : l.Pairwise fun a b => ltV a b = true) (hv : okV v = true) (hm : v ∈ l) : delV l v = [] ∨ fitV2 (delV l v) = true := by
  by_cases e : delV l v = []
  · exact .inl e
  · refine .inr (fitV_iff.2 ⟨fun x hx => ho x ((del_mem ho hp hv hm).1 hx).1, ?_, e⟩)
    rw [del_eq ho hp hv hm]
    refine List.pairwise_append.2 ⟨hp.filter _, hp.filter _, fun a ha b hb => ltV_trans _ _ _ (List.mem_filter.1 ha).2 (List.mem_filter.1 hb).2⟩

/-! ### What the calls answer -/
def addE (l : List Rw) (n : Nd) : List Rw × Int := if (okR l && okN n) = true then (if hasN (rwAll l) n = true then (l, 3) else (rwOf (withN (rwAll l) n), 0)) else (l, 1)
def dropE (l : List Rw) (n : Nd) : List Rw × Int := if (okR l && okN n) = true then (if hasN (rwAll l) n = true then (rwOf (minusN (rwAll l) [n]), 0) else (l, 2)) else (l, 1)
def rowsE (s : List Nd) : List Rw × Int := if s.all okN = true then (rwOf (setN s), 0) else ([], 1)
def allE (l : List Rw) : List Nd × Int := if okR l = true then (rwAll l, 0) else ([], 1)
def lastV (l : List (List UInt8)) : List UInt8 := l.getD (l.length - 1) []
def bestE (l : List Rw) (p : List UInt8) : List UInt8 × Int := if (okR l && pathB p) = true then (if rwVer l p = [] then ([], 2) else (lastV (rwVer l p), 0)) else ([], 1)
theorem add_is {l : List Rw} {n : Nd} (h : okR l = true) (hn : okN n = true) (hm : hasN (rwAll l) n = false) : rwWith l n.1 (insV (rwVer l n.1) n.2) = rwOf (withN (rwAll l) n) := by
  obtain ⟨hp, hv⟩ := okN_parts hn
  have hm' : n.2 ∉ rwVer l n.1 := fun k => hasN_not.1 hm (ver_mem.1 k)
  refine rows_is (with_ok h hp (.inr (ins_fit (ver_ok h _) (ver_pair h _) hv hm'))) (withN_check (all_check h) hn) fun x => ?_
  rw [with_mem, withN_mem (all_okN h) hn, ins_mem]
  obtain ⟨x1, x2⟩ := x
  obtain ⟨n1, n2⟩ := n
  simp only
  constructor
  · rintro (⟨rfl, h1 | rfl⟩ | ⟨-, h2⟩)
    · exact .inl (ver_mem.1 h1)
    · exact .inr rfl
    · exact .inl h2
  · rintro (h1 | h1)
    · by_cases e : x1 = n1
      · subst e; exact .inl ⟨rfl, .inl (ver_mem.2 h1)⟩
      · exact .inr ⟨e, h1⟩
    · injection h1 with e1 e2
      exact .inl ⟨e1, .inr e2⟩
theorem drop_is {l : List Rw} {n : Nd} (h : okR l = true) (hn : okN n = true) (hm : hasN (rwAll l) n = true) : rwWith l n.1 (delV (rwVer l n.1) n.2) = rwOf (minusN (rwAll l) [n]) := by
  obtain ⟨hp, hv⟩ := okN_parts hn
  have hm' : n.2 ∈ rwVer l n.1 := ver_mem.2 (hasN_iff.1 hm)
  refine rows_is (with_ok h hp (del_fit (ver_ok h _) (ver_pair h _) hv hm')) (minusN_check (all_check h)) fun x => ?_
  rw [with_mem, minusN_mem, del_mem (ver_ok h _) (ver_pair h _) hv hm']
  obtain ⟨x1, x2⟩ := x
  obtain ⟨n1, n2⟩ := n
  simp only [List.mem_singleton, Prod.mk.injEq, ne_eq, not_and]
  constructor
  · rintro (⟨rfl, h1, h2⟩ | ⟨h1, h2⟩)
    · exact ⟨ver_mem.1 h1, fun _ => h2⟩
    · exact ⟨h2, fun e => absurd e h1⟩
  · rintro ⟨h1, h2⟩
    by_cases e : x1 = n1
    · subst e; exact .inl ⟨rfl, ver_mem.2 h1, h2 rfl⟩
    · exact .inr ⟨e, h1⟩

/-! ### Where a path's row is -/
structure FindP (l : List Rw) (p : List UInt8) (lo hi : Nat) : Prop where
  low : ∀ t, t < lo → Lib.compareBytes (l.getD t zR).1 p < 0
  high : ∀ t, hi ≤ t → t < l.length → 0 ≤ Lib.compareBytes (l.getD t zR).1 p
theorem rows_up {l : List Rw} (h : l.Pairwise fun a b => ltP a b = true) {t m : Nat} (htm : t ≤ m) (hm : m < l.length) : Lib.compareBytes (l.getD t zR).1 (l.getD m zR).1 ≤ 0 := by
  rcases Nat.lt_or_ge t m with k | k
  · rw [gd_at hm, gd_at (show t < l.length by omega)]
    exact Int.le_of_lt (ltP_iff.1 (List.pairwise_iff_getElem.1 h t m (by omega) hm k))
  · have : t = m := by omega
    rw [this, cb_self]; exact Int.le_refl 0
theorem FindP.up {l : List Rw} {p : List UInt8} {lo hi m : Nat} (h : FindP l p lo hi) (hr : l.Pairwise fun a b => ltP a b = true) (hm : m < l.length) (hl : 0 < Lib.compareBytes p (l.getD m zR).1) : FindP l p (m + 1) hi :=
  ⟨fun t ht => by
    have h1 := rows_up hr (t := t) (m := m) (by omega) hm
    have h2 : Lib.compareBytes (l.getD m zR).1 p < 0 := by rw [cb_swap]; omega
    exact (cb_trans _ _ _ h1 (Int.le_of_lt h2)).2 (.inr h2), h.high⟩
theorem FindP.down {l : List Rw} {p : List UInt8} {lo hi m : Nat} (h : FindP l p lo hi) (hr : l.Pairwise fun a b => ltP a b = true) (hl : Lib.compareBytes p (l.getD m zR).1 ≤ 0) : FindP l p lo m :=
  ⟨h.low, fun t ht htn => by
    have h1 := rows_up hr (t := m) (m := t) ht htn
    have h2 := (cb_trans _ _ _ hl h1).1
    rw [cb_swap]; omega⟩
def foundP (l : List Rw) (p : List UInt8) (i : Nat) : Bool := decide (i < l.length) && decide (Lib.compareBytes p (l.getD i zR).1 = 0)
theorem found_eq {l : List Rw} {p : List UInt8} {i : Nat} (h : foundP l p i = true) : i < l.length ∧ (l.getD i zR).1 = p := by
  unfold foundP at h
  rw [Bool.and_eq_true, decide_eq_true_iff, decide_eq_true_iff] at h
  exact ⟨h.1, (cb_zero _ _ h.2).symm⟩
theorem found_not {l : List Rw} {p : List UInt8} {i : Nat} (hi : i ≤ l.length) (hr : l.Pairwise fun a b => ltP a b = true) (h : FindP l p i i) (hn : foundP l p i = false) : ∀ r ∈ l, r.1 ≠ p := by
  intro r hr' e
  obtain ⟨j, hj, rfl⟩ := List.getElem_of_mem hr'
  have hji : ¬ j < i := fun k => by have := h.low j k; rw [gd_at hj, e, cb_self] at this; omega
  have hil : i < l.length := by omega
  unfold foundP at hn
  rw [decide_eq_true hil, Bool.true_and, decide_eq_false_iff_not] at hn
  have h1 := h.high i (Nat.le_refl _) hil
  have h2 := rows_up hr (t := i) (m := j) (by omega) hj
  rw [gd_at hj, e] at h2
  have h3 := cb_swap (l.getD i zR).1 p
  omega
theorem split_at {l : List Rw} {i : Nat} (h : i < l.length) : l = l.take i ++ l.getD i zR :: l.drop (i + 1) := by
  rw [gd_at h]
  conv => lhs; rw [← List.take_append_drop i l, List.drop_eq_getElem_cons h]
theorem ver_found {l : List Rw} {p : List UInt8} {i : Nat} (hl : okR l = true) (h : foundP l p i = true) : rwVer l p = (l.getD i zR).2 := by
  obtain ⟨h1, h2⟩ := found_eq h
  have e := split_at h1
  have key : ∀ (a b : List Rw) (r : Rw), l = a ++ r :: b → rwVer l r.1 = r.2 := fun a b r q => by subst q; exact ver_at hl
  rw [← h2]
  exact key _ _ _ e
theorem ver_not {l : List Rw} {p : List UInt8} {i : Nat} (hi : i ≤ l.length) (hl : okR l = true) (hf : FindP l p i i) (h : foundP l p i = false) : rwVer l p = [] := ver_none (found_not hi (okR_iff.1 hl).2 hf h)
/-- What stands ahead of a path's place, and behind it. -/
theorem with_cut {l : List Rw} {p : List UInt8} {i : Nat} (vs : List (List UInt8)) (hi : i ≤ l.length) (hl : okR l = true) (hf : FindP l p i i) : rwWith l p vs = l.take i ++ ((if vs = [] then [] else [(p, vs)]) ++ l.drop (if foundP l p i = true then i + 1 else i)) := by
  obtain ⟨-, h2⟩ := okR_iff.1 hl
  have c1 := (cut_ahead (f := fun r : Rw => decide (Lib.compareBytes r.1 p < 0)) hi (fun t ht => decide_eq_true (hf.low t ht)) (fun t h1 h3 => decide_eq_false (by have := hf.high t h1 h3; omega))).1
  unfold rwWith
  rw [c1]
  congr 2
  cases hq : foundP l p i with
  | false =>
    rw [if_neg (by simp)]
    rw [← (cut_ahead (f := fun r : Rw => decide (Lib.compareBytes r.1 p < 0)) hi (fun t ht => decide_eq_true (hf.low t ht)) (fun t h1 h3 => decide_eq_false (by have := hf.high t h1 h3; omega))).2]
    have hn := found_not hi h2 hf hq
    refine List.filter_congr fun r hr => ?_
    rcases cb_ne_lt (hn r hr) with k | k
    · rw [decide_eq_true k, decide_eq_false (by rw [cb_swap]; omega)]; rfl
    · rw [decide_eq_true k, decide_eq_false (by rw [cb_swap]; omega)]; rfl
  | true =>
    rw [if_pos rfl]
    obtain ⟨hil, he⟩ := found_eq hq
    have q := (cut_ahead (l := l) (z := zR) (i := i + 1) (f := fun r : Rw => !decide (Lib.compareBytes p r.1 < 0)) (by omega) (fun t ht => ?_) (fun t h1 h3 => ?_)).2
    · rw [← q]
      refine List.filter_congr fun r _ => ?_
      rw [Bool.not_not]
    · have := rows_up h2 (t := t) (m := i) (by omega) hil
      rw [he] at this
      rw [decide_eq_false (by rw [cb_swap]; omega)]; rfl
    · have h4 := ltP_iff.1 (List.pairwise_iff_getElem.1 h2 i t hil h3 (by omega))
      rw [gd_at hil] at he
      rw [he] at h4
      rw [gd_at h3, decide_eq_true h4]; rfl
/-- Where a version is, or would go. -/
structure FindV (l : List (List UInt8)) (v : List UInt8) (lo hi : Nat) : Prop where
  low : ∀ t, t < lo → ltV (l.getD t []) v = true
  high : ∀ t, hi ≤ t → t < l.length → ltV (l.getD t []) v = false
theorem vers_up {l : List (List UInt8)} (h : l.Pairwise fun a b => ltV a b = true) {v : List UInt8} {t m : Nat} (htm : t ≤ m) (hm : m < l.length) (hl : ltV (l.getD m []) v = true) : ltV (l.getD t []) v = true := by
  rcases Nat.lt_or_ge t m with k | k
  · rw [gd_at hm] at hl
    rw [gd_at (show t < l.length by omega)]
    exact ltV_trans _ _ _ (List.pairwise_iff_getElem.1 h t m (by omega) hm k) hl
  · have : t = m := by omega
    rw [this]; exact hl
theorem FindV.up {l : List (List UInt8)} {v : List UInt8} {lo hi m : Nat} (h : FindV l v lo hi) (hr : l.Pairwise fun a b => ltV a b = true) (hm : m < l.length) (hl : ltV (l.getD m []) v = true) : FindV l v (m + 1) hi :=
  ⟨fun t ht => vers_up hr (m := m) (by omega) hm hl, h.high⟩
theorem FindV.down {l : List (List UInt8)} {v : List UInt8} {lo hi m : Nat} (h : FindV l v lo hi) (hr : l.Pairwise fun a b => ltV a b = true) (hl : ltV (l.getD m []) v = false) : FindV l v lo m :=
  ⟨h.low, fun t ht htn => by
    cases e : ltV (l.getD t []) v with
    | false => rfl
    | true => rw [vers_up hr ht htn e] at hl; cases hl⟩
def foundV (l : List (List UInt8)) (v : List UInt8) (i : Nat) : Bool := decide (i < l.length) && decide (cmpT (l.getD i []) v = 0)
theorem foundV_is {l : List (List UInt8)} {v : List UInt8} {i : Nat} (ho : ∀ x ∈ l, okV x = true) (hp : l.Pairwise fun a b => ltV a b = true) (hv : okV v = true) (h : FindV l v i i) : foundV l v i = decide (v ∈ l) := by
  unfold foundV
  rw [Bool.eq_iff_iff, Bool.and_eq_true, decide_eq_true_iff, decide_eq_true_iff, decide_eq_true_iff]
  constructor
  · rintro ⟨h1, h2⟩
    rw [← cmpT_eq (ho _ (gd_in h1)) hv h2]; exact gd_in h1
  · intro hm
    obtain ⟨j, hj, rfl⟩ := List.getElem_of_mem hm
    have hji : ¬ j < i := fun k => by have := h.low j k; rw [gd_at hj, ltV_irrefl] at this; cases this
    have hil : i < l.length := by omega
    refine ⟨hil, ?_⟩
    rcases Nat.lt_or_ge i j with k | k
    · have h1 := List.pairwise_iff_getElem.1 hp i j hil hj k
      have h2 := h.high i (Nat.le_refl _) hil
      rw [gd_at hil, h1] at h2; cases h2
    · have : i = j := by omega
      subst this; rw [gd_at hil, cmpT_self]
theorem ins_cut {l : List (List UInt8)} {v : List UInt8} {i : Nat} (hi : i ≤ l.length) (h : FindV l v i i) : insV l v = l.take i ++ v :: l.drop i := by
  have c := cut_ahead (f := fun x => ltV x v) hi h.low h.high
  unfold insV; rw [c.1, c.2]
theorem del_cut {l : List (List UInt8)} {v : List UInt8} {i : Nat} (hi : i ≤ l.length) (h : FindV l v i i) : delV l v = l.take i ++ l.drop (i + 1) := by
  have c := cut_ahead (f := fun x => ltV x v) hi h.low h.high
  unfold delV; rw [c.1, c.2, List.drop_drop]
end Go.Proofs.YtnngfcjfhhfafaaGreat

namespace Go.Proofs.YtnngfcjfhhfafaaGreat
open Go.RowKit
set_option linter.unusedVariables false
set_option maxRecDepth 100000

theorem Tryz.info_row : (Tryz.prog.info? 58).map (fun i => (i.zero, i.size, i.bytes)) = some (some (.agg #[.string ByteArray.empty, .slice none 0 0]), 2, 40) := by kernel_rfl

/-- A slice of rows, in memory: nil, empty, or cells that hold them, two each. -/
structure Rws (w : World) (v : Value) (rs : List Rw) : Prop where
  ex : ∃ a c, v = .slice a rs.length c ∧ rs.length ≤ c ∧ c ≤ maxLen ∧ (a = none → c = 0) ∧ (0 < rs.length → ∃ b off, a = some ⟨b, off, none⟩ ∧ ∀ j, j < rs.length → ∃ a' n' c',
    w.cell? ⟨b, off + j * 2, none⟩ = some (.string (mkB (rs.getD j zR).1)) ∧ w.cell? ⟨b, off + j * 2 + 1, none⟩ = some (.slice a' n' c') ∧ Strs w (.slice a' n' c') (rs.getD j zR).2)
theorem Rws.below {w w' : World} {v : Value} {rs : List Rw} (h : Rws w v rs) (hb : Below w.heap.size w w') : Rws w' v rs := by
  obtain ⟨a, c, hv, h1, h2, hn, h3⟩ := h.ex
  refine ⟨a, c, hv, h1, h2, hn, fun hp => ?_⟩
  obtain ⟨b, off, ha, hc⟩ := h3 hp
  refine ⟨b, off, ha, fun j hj => ?_⟩
  obtain ⟨a', n', c', h4, h5, h6⟩ := hc j hj
  exact ⟨a', n', c', cell_keep h4 hb, cell_keep h5 hb, h6.belowB hb⟩
theorem Rws.at {w : World} {a : Option Addr} {n c : Nat} {rs : List Rw} (h : Rws w (.slice a n c) rs) (j : Nat) (hj : j < rs.length) : ∃ b off a' n' c', a = some ⟨b, off, none⟩ ∧ w.cell? ⟨b, off + j * 2, none⟩ = some (.string (mkB (rs.getD j zR).1)) ∧ w.cell? ⟨b, off + j * 2 + 1, none⟩ = some (.slice a' n' c') ∧ Strs w (.slice a' n' c') (rs.getD j zR).2 := by
  obtain ⟨a0, c0, hv, _, _, _, h3⟩ := h.ex
  injection hv with e1 e2 e3
  subst e1
  obtain ⟨b, off, ha, hc⟩ := h3 (by omega)
  obtain ⟨a', n', c', h4, h5, h6⟩ := hc j hj
  exact ⟨b, off, a', n', c', ha, h4, h5, h6⟩
theorem Rws.lenT {w : World} {a : Option Addr} {n c : Nat} {rs : List Rw} (h : Rws w (.slice a n c) rs) : rs.length = n ∧ n ≤ c ∧ c ≤ maxLen := by
  obtain ⟨_, _, hv, h1, h2, _⟩ := h.ex
  injection hv with e1 e2 e3
  subst e2 e3; exact ⟨rfl, h1, h2⟩
theorem rws_none (w : World) : Rws w (.slice none 0 0) [] := ⟨none, 0, rfl, Nat.le_refl _, by unfold maxLen; omega, fun _ => rfl, fun h => absurd h (by simp)⟩
theorem rw_back (w : World) (A : Option Addr) (n c i : Nat) (h : i ≤ n) (hc : n ≤ c) : (Instr.sliceAt 22 (.slice A n c) (some (.int .i64 i)) none none).run Tryz.prog w = .ok (sliced A i n c 2) w := by
  have h1 : (0 : Int) ≤ (i : Int) := by omega
  have h2 : (i : Int) ≤ (n : Int) := by omega
  have h3 : (n : Int) ≤ (c : Int) := by omega
  go_simp
theorem rw_front (w : World) (A : Option Addr) (n c i : Nat) (h : i ≤ c) : (Instr.sliceAt 22 (.slice A n c) none (some (.int .i64 i)) none).run Tryz.prog w = .ok (sliced A 0 i c 2) w := by
  have h1 : (0 : Int) ≤ (i : Int) := by omega
  have h2 : (i : Int) ≤ (c : Int) := by omega
  go_simp
theorem Rws.front {w : World} {A : Option Addr} {n c : Nat} {l : List Rw} (h : Rws w (.slice A n c) l) {i : Nat} (hi : i ≤ n) : ∃ A', sliced A 0 i c 2 = .slice A' i c ∧ ∀ w', Rws w' (.slice A n c) l → Rws w' (.slice A' i c) (l.take i) := by
  refine ⟨_, rfl, fun w' h' => ?_⟩
  obtain ⟨hl, hnc, -⟩ := h.lenT
  obtain ⟨_, _, hv, h1, h2, h3, h4⟩ := h'.ex
  injection hv with e1 e2 e3
  subst e1 e3
  have hli : (l.take i).length = i := by rw [List.length_take]; omega
  refine ⟨_, c, by rw [hli], by omega, h2, fun e => ?_, fun hp => ?_⟩
  · by_cases hc : c = 0
    · exact hc
    · rw [if_neg hc] at e
      exact h3 (by cases A with | none => rfl | some x => cases e)
  · rw [hli] at hp
    obtain ⟨b, off, rfl, hc⟩ := h4 (by omega)
    refine ⟨b, off, ?_, fun j hj => ?_⟩
    · rw [if_neg (by omega)]; simp [addr_add]
    · rw [hli] at hj
      have hg : (l.take i).getD j zR = l.getD j zR := by simp [List.getD_eq_getElem?_getD, hj]
      rw [hg]; exact hc j (by omega)
theorem Rws.back {w : World} {A : Option Addr} {n c : Nat} {l : List Rw} (h : Rws w (.slice A n c) l) {i : Nat} (hi : i ≤ n) : ∃ A', sliced A i n c 2 = .slice A' (n - i) (c - i) ∧ ∀ w', Rws w' (.slice A n c) l → Rws w' (.slice A' (n - i) (c - i)) (l.drop i) := by
  refine ⟨_, rfl, fun w' h' => ?_⟩
  obtain ⟨hl, hnc, -⟩ := h.lenT
  obtain ⟨_, _, hv, h1, h2, h3, h4⟩ := h'.ex
  injection hv with e1 e2 e3
  subst e1 e3
  have hli : (l.drop i).length = n - i := by rw [List.length_drop, hl]
  refine ⟨_, c - i, by rw [hli], by omega, by omega, fun e => ?_, fun hp => ?_⟩
  · by_cases hc : c = i
    · omega
    · rw [if_neg hc] at e
      have := h3 (by cases A with | none => rfl | some x => cases e)
      omega
  · rw [hli] at hp
    obtain ⟨b, off, rfl, hc⟩ := h4 (by omega)
    refine ⟨b, off + i * 2, ?_, fun j hj => ?_⟩
    · rw [if_neg (by omega)]; simp [addr_add]
    · rw [hli] at hj
      have hg : (l.drop i).getD j zR = l.getD (i + j) zR := by simp [List.getD_eq_getElem?_getD, List.getElem?_drop]
      rw [hg, show off + i * 2 + j * 2 = off + (i + j) * 2 by omega]; exact hc (i + j) (by omega)

/-! ### Rows of the call's own -/
def rwC : List Rw → List Value → List Value
  | r :: rs, y :: ys => .string (mkB r.1) :: y :: rwC rs ys
  | _, _ => []
theorem rwC_len : ∀ {rs : List Rw} {ys : List Value}, ys.length = rs.length → (rwC rs ys).length = rs.length * 2
  | [], [], _ => rfl
  | r :: rs, y :: ys, h => by
    have := rwC_len (rs := rs) (ys := ys) (by simpa using h)
    rw [rwC, List.length_cons, List.length_cons, this, List.length_cons]; omega
theorem rwC_app : ∀ {rs : List Rw} {ys : List Value} (ls : List Rw) (zs : List Value), ys.length = rs.length → rwC (rs ++ ls) (ys ++ zs) = rwC rs ys ++ rwC ls zs
  | [], [], _, _, _ => rfl
  | r :: rs, y :: ys, ls, zs, h => by
    have := rwC_app (rs := rs) (ys := ys) ls zs (by simpa using h)
    rw [List.cons_append, List.cons_append, rwC, this, rwC]; rfl
theorem rwC_at : ∀ {rs : List Rw} {ys : List Value}, ys.length = rs.length → ∀ j, j < rs.length → (rwC rs ys)[j * 2]? = some (.string (mkB (rs.getD j zR).1)) ∧ (rwC rs ys)[j * 2 + 1]? = some (ys.getD j undef)
  | r :: rs, y :: ys, _, 0, _ => ⟨rfl, rfl⟩
  | r :: rs, y :: ys, h, j + 1, hj => by
    have := rwC_at (rs := rs) (ys := ys) (by simpa using h) j (by simpa using hj)
    rw [show (j + 1) * 2 = j * 2 + 2 by omega, rwC]
    exact this
theorem rwC_one : ∀ {rs : List Rw} {ys : List Value}, (ys.all fun u => u.oneCell') = true → ((rwC rs ys).all fun u => u.oneCell') = true
  | [], _, _ => rfl
  | r :: rs, [], _ => rfl
  | r :: rs, y :: ys, h => by
    rw [List.all_cons, Bool.and_eq_true] at h
    rw [rwC, List.all_cons, List.all_cons, h.1, rwC_one h.2]; rfl
/-- The rows' versions: each a row of texts of the call's own. -/
def RwI (w : World) (lo : Nat) (ys : List Value) (rs : List Rw) : Prop := ys.length = rs.length ∧ ∀ j, j < rs.length → w.ownsRow lo 9 1 (ys.getD j undef) (rs.getD j zR).2.length (strC (rs.getD j zR).2)
theorem RwI.nil (w : World) (lo : Nat) : RwI w lo [] [] := ⟨rfl, fun j hj => absurd hj (Nat.not_lt_zero j)⟩
theorem own_block {w : World} {base : Nat} {e : TypeId} {size : Nat} {v : Value} {n : Nat} {xs : List Value} (h : w.ownsRow base e size v n xs) {b : Nat} (hb : v.ownBlock = some b) : ∃ cs, w.heap[b]? = some (.cells cs e (0, 0)) := by
  rcases h.2 with ⟨rfl, _⟩ | ⟨g, cap, cur, rfl, _, hh, _⟩
  · cases hb
  · have e1 : g = b := Option.some.inj hb
    subst e1; exact ⟨cur, hh⟩
theorem RwI.keep {w w' : World} {lo : Nat} {ys : List Value} {rs : List Rw} (h : RwI w lo ys rs) (hk : ∀ (b : Nat) (cs : Array Value), w.heap[b]? = some (.cells cs 9 (0, 0)) → w'.heap[b]? = w.heap[b]?) : RwI w' lo ys rs :=
  ⟨h.1, fun j hj => row_heap (h.2 j hj) fun b hb => by obtain ⟨cs, hc⟩ := own_block (h.2 j hj) hb; exact hk b cs hc⟩
theorem RwI.below {w w' : World} {lo : Nat} {ys : List Value} {rs : List Rw} (h : RwI w lo ys rs) (hb : Below w.heap.size w w') : RwI w' lo ys rs := h.keep fun b cs hc => hb.block b (Array.getElem?_eq_some_iff.1 hc).1
theorem RwI.base {w : World} {lo lo' : Nat} {ys : List Value} {rs : List Rw} (h : RwI w lo ys rs) (hl : lo' ≤ lo) : RwI w lo' ys rs := ⟨h.1, fun j hj => row_base (h.2 j hj) hl⟩
theorem gd_snoc {α : Type} {l : List α} {x z : α} {j n : Nat} (hn : l.length = n) (hj : j < n + 1) : (l ++ [x]).getD j z = if j = n then x else l.getD j z := by
  rw [List.getD_eq_getElem?_getD, List.getElem?_append]
  by_cases h : j < l.length
  · rw [if_pos h, if_neg (by omega), List.getD_eq_getElem?_getD]
  · have e : j = n := by omega
    rw [if_neg h, if_pos e, e, ← hn, Nat.sub_self]; rfl
theorem RwI.snoc {w : World} {lo : Nat} {ys : List Value} {rs : List Rw} (h : RwI w lo ys rs) {y : Value} {r : Rw} (hy : w.ownsRow lo 9 1 y r.2.length (strC r.2)) : RwI w lo (ys ++ [y]) (rs ++ [r]) := by
  refine ⟨by rw [List.length_append, List.length_append, h.1]; rfl, fun j hj => ?_⟩
  rw [List.length_append, List.length_singleton] at hj
  rw [gd_snoc h.1 hj, gd_snoc rfl hj]
  by_cases e : j = rs.length
  · rw [if_pos e, if_pos e]; exact hy
  · rw [if_neg e, if_neg e]; exact h.2 j (by omega)
theorem gd_app {α : Type} {l m : List α} {z : α} {j n : Nat} (hn : l.length = n) : (l ++ m).getD j z = if j < n then l.getD j z else m.getD (j - n) z := by
  rw [List.getD_eq_getElem?_getD, List.getElem?_append, hn]
  by_cases h : j < n
  · rw [if_pos h, if_pos h, List.getD_eq_getElem?_getD]
  · rw [if_neg h, if_neg h, List.getD_eq_getElem?_getD]
theorem RwI.app {w : World} {lo : Nat} {ys zs : List Value} {rs ls : List Rw} (h : RwI w lo ys rs) (k : RwI w lo zs ls) : RwI w lo (ys ++ zs) (rs ++ ls) := by
  refine ⟨by rw [List.length_append, List.length_append, h.1, k.1], fun j hj => ?_⟩
  rw [List.length_append] at hj
  rw [gd_app h.1, gd_app rfl]
  by_cases e : j < rs.length
  · rw [if_pos e, if_pos e]; exact h.2 j e
  · rw [if_neg e, if_neg e]; exact k.2 (j - rs.length) (by omega)
theorem RwI.slices {w : World} {lo : Nat} {ys : List Value} {rs : List Rw} (h : RwI w lo ys rs) : (ys.all fun u => u.oneCell') = true := List.all_eq_true.2 fun u hu => by
  obtain ⟨j, hj, rfl⟩ := List.getElem_of_mem hu
  obtain ⟨a, c, e, -⟩ := stsO (h.2 j (by rw [← h.1]; exact hj))
  rw [gd_at hj] at e
  rw [e]; rfl
/-- Rows of the call's own: the row of rows, and each one's versions. -/
def RwO (w : World) (N : Nat) (v : Value) (rs : List Rw) : Prop := ∃ ys, w.ownsRow N 58 2 v rs.length (rwC rs ys) ∧ RwI w N ys rs
theorem RwO.nil (w : World) (N : Nat) : RwO w N (.slice none 0 0) [] := ⟨[], World.ownsRow_nil _ _ _ _, RwI.nil _ _⟩
theorem RwO.below {w w' : World} {N : Nat} {v : Value} {rs : List Rw} (h : RwO w N v rs) (hb : Below w.heap.size w w') : RwO w' N v rs := by
  obtain ⟨ys, h1, h2⟩ := h
  exact ⟨ys, ownsRow_belowB h1 hb, h2.below hb⟩
theorem RwO.base {w : World} {N N' : Nat} {v : Value} {rs : List Rw} (h : RwO w N v rs) (hn : N' ≤ N) : RwO w N' v rs := by
  obtain ⟨ys, h1, h2⟩ := h
  exact ⟨ys, row_base h1 hn, h2.base hn⟩
theorem rws_of {w : World} {N lo : Nat} {v : Value} {rs : List Rw} {ys : List Value} (h1 : w.ownsRow N 58 2 v rs.length (rwC rs ys)) (h2 : RwI w lo ys rs) : Rws w v rs := by
  obtain ⟨hl, hf⟩ := h1
  rcases hf with ⟨rfl, h0⟩ | ⟨g, cap, cur, rfl, hg, hh, hnc, hcm, hsz, htk⟩
  · have : rs = [] := List.eq_nil_of_length_eq_zero h0
    subst this; exact rws_none w
  · refine ⟨some ⟨g, 0, none⟩, cap, rfl, hnc, hcm, (fun e => by cases e), fun hp => ⟨g, 0, rfl, fun j hj => ?_⟩⟩
    have hrow : w.ownsRow N 58 2 (.slice (some ⟨g, 0, none⟩) rs.length cap) rs.length (rwC rs ys) := ⟨hl, .inr ⟨g, cap, cur, rfl, hg, hh, hnc, hcm, hsz, htk⟩⟩
    obtain ⟨c0, c1⟩ := rwC_at h2.1 j hj
    obtain ⟨a, c, e, hs⟩ := stsO (h2.2 j hj)
    rw [e] at c1
    refine ⟨a, _, c, ?_, ?_, hs⟩
    · rw [Nat.zero_add, hrow.cellAt (j * 2) (by omega), c0]
    · rw [Nat.zero_add, hrow.cellAt (j * 2 + 1) (by omega), c1]
theorem RwO.rws {w : World} {N : Nat} {v : Value} {rs : List Rw} (h : RwO w N v rs) : Rws w v rs := by
  obtain ⟨ys, h1, h2⟩ := h
  exact rws_of h1 h2
theorem RwO.form {w : World} {N : Nat} {v : Value} {rs : List Rw} (h : RwO w N v rs) : ∃ a c, v = .slice a rs.length c ∧ Rws w (.slice a rs.length c) rs := by
  have hr := h.rws
  obtain ⟨a, c, rfl, _⟩ := hr.ex
  exact ⟨a, c, rfl, hr⟩
/-- An append onto rows turns no row of texts. -/
theorem txt_kept {w w' : World} {N n : Nat} {v : Value} {xs : List Value} (hown : w.ownsRow N 58 2 v n xs) (hg : w.grownBy w' v.ownBlock) : ∀ (b : Nat) (cs : Array Value), w.heap[b]? = some (.cells cs 9 (0, 0)) → w'.heap[b]? = w.heap[b]? := fun b cs hc =>
  hg.block b (Array.getElem?_eq_some_iff.1 hc).1 fun e => own_nebox hown hc (by decide) e.symm
theorem run_app_rw {w : World} {base n : Nat} {v : Value} {rs : List Rw} {ys : List Value} (hys : ys.length = rs.length) (hown : w.ownsRow base 58 2 v n (rwC rs ys)) {a0 : Option Addr} {m c : Nat} {ls : List Rw} {zs : List Value} (hm : ls.length = m) (hz : zs.length = ls.length) (hnil : a0 = none → m = 0 ∧ c = 0)
    (hsrc : ∀ ad, a0 = some ad → ∀ j u, (rwC ls zs)[j]? = some u → w.cell? (ad.add j) = some u) (h1 : (zs.all fun u => u.oneCell') = true) (hlen : n + m ≤ 2000000) (hbase : base ≤ w.heap.size) (t : TypeId) :
    ∃ v' w', (Builtin.append_ #[22, 22] t #[v, .slice a0 m c]).run Tryz.prog w = .ok v' w' ∧ w'.ownsRow base 58 2 v' (n + m) (rwC (rs ++ ls) (ys ++ zs)) ∧ w.grownBy w' v.ownBlock ∧ (v'.ownBlock = v.ownBlock ∨ v'.ownBlock = some w.heap.size ∧ w.heap.size < w'.heap.size) := by
  obtain ⟨i, hi, hz', hsize, hby⟩ := info_parts Tryz.info_row
  rw [rwC_app ls zs hys]
  cases a0 with
  | none =>
    obtain ⟨rfl, rfl⟩ := hnil rfl
    have hL : ls = [] := List.eq_nil_of_length_eq_zero hm
    subst hL
    have hr := run_append_owned_none (P := Tryz.prog) (w := w) base 22 t 58 i 2 Tryz.underlying22 hi v n _ hown
    exact ⟨v, w, hr, by simpa [rwC] using hown, ⟨rfl, rfl, rfl, Nat.le_refl _, fun _ _ _ => rfl⟩, .inl rfl⟩
  | some ad =>
    obtain ⟨v', w', hr, h2, h3, _, h5⟩ := run_append_own_at (P := Tryz.prog) w base 22 t 58 i (.agg #[.string ByteArray.empty, .slice none 0 0]) 2 40 Tryz.underlying22 hi hz' hsize hby rfl (by decide) v n _ hown ad m c (rwC ls zs) (by rw [rwC_len hz, hm]) (hsrc ad rfl) (fun u hu => List.all_eq_true.1 (rwC_one h1) u hu) (by unfold maxLen; omega) (by omega) hbase
    refine ⟨v', w', hr, h2, h3, h5.imp id fun e => ⟨e, ?_⟩⟩
    exact (h2.lt _ e).2
/-- Rows of the call's own as what is appended. -/
theorem own_src {w : World} {N n : Nat} {a : Option Addr} {c : Nat} {xs : List Value} {e : TypeId} {size : Nat} (h : w.ownsRow N e size (.slice a n c) n xs) : (a = none → n = 0 ∧ c = 0) ∧ ∀ ad, a = some ad → ∀ j u, xs[j]? = some u → w.cell? (ad.add j) = some u := by
  refine ⟨fun e => ?_, fun ad e j u hj => ?_⟩
  · rcases h.2 with ⟨hv, h0⟩ | ⟨g, cap, cur, hv, _⟩
    · injection hv with _ _ hc; exact ⟨h0, hc⟩
    · injection hv with ha; rw [e] at ha; cases ha
  · rcases h.2 with ⟨hv, h0⟩ | ⟨g, cap, cur, hv, _⟩
    · injection hv with ha; rw [e] at ha; cases ha
    · injection hv with ha hn hc
      rw [e] at ha; cases ha
      exact h.cells (by rw [e]; rfl) j u hj
theorem blk_src {w : World} {b : Nat} {r : Rw} {y : Value} (h : w.heap[b]? = some (.cells #[.string (mkB r.1), y] 58 (0, 0))) : ∀ ad, (some ⟨b, 0, none⟩ : Option Addr) = some ad → ∀ j u, (rwC [r] [y])[j]? = some u → w.cell? (ad.add j) = some u := by
  intro ad e j u hj
  cases e
  obtain ⟨c0, c1, _, _⟩ := row2 h
  rw [addr_add, Nat.zero_add]
  match j, hj with
  | 0, hj => rw [c0]; exact hj
  | 1, hj => rw [c1]; exact hj
  | j + 2, hj => simp [rwC] at hj

/-! ### What operations of a region leave -/
/-- Rows in a slot: their blocks among bs. -/
def rwsG (N : Nat) (rs : List Rw) : World → Value → (Nat → Prop) → Prop := fun w v bs => ∃ ys, w.ownsRow N 58 2 v rs.length (rwC rs ys) ∧ RwI w N ys rs ∧ (∀ b, v.ownBlock = some b → bs b) ∧ ∀ j, j < rs.length → ∀ b, (ys.getD j undef).ownBlock = some b → bs b
def rwsX (X : Value) (N : Nat) (rs : List Rw) : World → Value → (Nat → Prop) → Prop := fun w _ bs => rwsG N rs w X bs
theorem rwsG_near {N : Nat} {rs : List Rw} : ∀ (w w' : World) (v : Value) (bs : Nat → Prop), (∀ b, bs b → w'.heap[b]? = w.heap[b]?) → rwsG N rs w v bs → rwsG N rs w' v bs := by
  rintro w w' v bs hb ⟨ys, h1, h2, h3, h4⟩
  exact ⟨ys, row_heap h1 fun b e => hb b (h3 b e), ⟨h2.1, fun j hj => row_heap (h2.2 j hj) fun b e => hb b (h4 j hj b e)⟩, h3, h4⟩
theorem rwsX_near {X : Value} {N : Nat} {rs : List Rw} : ∀ (w w' : World) (v : Value) (bs : Nat → Prop), (∀ b, bs b → w'.heap[b]? = w.heap[b]?) → rwsX X N rs w v bs → rwsX X N rs w' v bs := fun w w' _ bs hb h => rwsG_near w w' X bs hb h
theorem rwsG.own {N : Nat} {rs : List Rw} {w : World} {v : Value} {bs : Nat → Prop} (h : rwsG N rs w v bs) : RwO w N v rs := by
  obtain ⟨ys, h1, h2, _⟩ := h
  exact ⟨ys, h1, h2⟩
theorem RwO.toG {w : World} {N N' : Nat} {v : Value} {rs : List Rw} (h : RwO w N v rs) (hn : N' ≤ N) : ∃ bs : Nat → Prop, (∀ b, bs b → N ≤ b ∧ b < w.heap.size) ∧ rwsG N' rs w v bs := by
  obtain ⟨ys, h1, h2⟩ := h
  refine ⟨fun b => v.ownBlock = some b ∨ ∃ j, j < rs.length ∧ (ys.getD j undef).ownBlock = some b, fun b e => ?_, ys, row_base h1 hn, h2.base hn, fun b e => .inl e, fun j hj b e => .inr ⟨j, hj, e⟩⟩
  rcases e with e | ⟨j, hj, e⟩
  · exact h1.lt b e
  · exact (h2.2 j hj).lt b e
/-- A row, as a struct, in a slot. -/
def rowA (N : Nat) (p : List UInt8) (vs : List (List UInt8)) : World → Value → Option Nat → Prop := fun w v ob => ∃ y, v = .agg #[.string (mkB p), y] ∧ w.ownsRow N 9 1 y vs.length (strC vs) ∧ ob = y.ownBlock
theorem rowA_near {N : Nat} {p : List UInt8} {vs : List (List UInt8)} : ∀ (w w' : World) (v : Value) (ob : Option Nat), (∀ b, ob = some b → w'.heap[b]? = w.heap[b]?) → rowA N p vs w v ob → rowA N p vs w' v ob := by
  rintro w w' v ob hb ⟨y, rfl, h, rfl⟩
  exact ⟨y, rfl, row_heap h hb, rfl⟩
/-- A slice of one row, in a block of its own. -/
def oneR (N : Nat) (p : List UInt8) (vs : List (List UInt8)) : World → Value → (Nat → Prop) → Prop := fun w v bs => ∃ b y, v = .slice (some ⟨b, 0, none⟩) 1 1 ∧ w.heap[b]? = some (.cells #[.string (mkB p), y] 58 (0, 0)) ∧ w.ownsRow N 9 1 y vs.length (strC vs) ∧ bs b ∧ ∀ k, y.ownBlock = some k → bs k
theorem oneR_near {N : Nat} {p : List UInt8} {vs : List (List UInt8)} : ∀ (w w' : World) (v : Value) (bs : Nat → Prop), (∀ b, bs b → w'.heap[b]? = w.heap[b]?) → oneR N p vs w v bs → oneR N p vs w' v bs := by
  rintro w w' v bs hb ⟨b, y, rfl, h1, h2, h3, h4⟩
  exact ⟨b, y, rfl, (hb b h3).trans h1, row_heap h2 fun k e => hb k (h4 k e), h3, h4⟩
theorem build_row {w : World} {x : ByteArray} {a : Option Addr} {n c : Nat} : Sem.run Tryz.prog (Instr.build 58 #[(0, .string x), (1, .slice a n c)]) w = .ok (.agg #[.string x, .slice a n c]) w := by go_simp
end Go.Proofs.YtnngfcjfhhfafaaGreat

namespace Go.Proofs.YtnngfcjfhhfafaaGreat
open Go.RowKit
set_option linter.unusedVariables false
set_option maxRecDepth 100000

theorem ld_strT {w : World} {g i : Nat} {l : List UInt8} (h : w.cell? ⟨g, i, none⟩ = some (.string (mkB l))) : Sem.run Tryz.prog (Instr.loadAt 9 (.pointer (some ⟨g, i, none⟩))) w = .ok (.string (mkB l)) w := by
  go_simp
theorem ld_stsT {w : World} {g i n c : Nat} {a : Option Addr} (h : w.cell? ⟨g, i, none⟩ = some (.slice a n c)) : Sem.run Tryz.prog (Instr.loadAt 56 (.pointer (some ⟨g, i, none⟩))) w = .ok (.slice a n c) w := by
  go_simp
theorem ld_row {w : World} {g i n c : Nat} {a : Option Addr} {p : List UInt8} (h : w.cell? ⟨g, i, none⟩ = some (.string (mkB p))) (h' : w.cell? ⟨g, i + 1, none⟩ = some (.slice a n c)) : Sem.run Tryz.prog (Instr.loadAt 58 (.pointer (some ⟨g, i, none⟩))) w = .ok (.agg #[.string (mkB p), .slice a n c]) w := by
  go_simp
theorem idx_rws {w : World} {b off n c k : Nat} (h : k < n) : (Instr.indexAt 22 (.slice (some ⟨b, off, none⟩) n c) (.int .i64 (k : Int))).run Tryz.prog w = .ok (.pointer (some ⟨b, off + k * 2, none⟩)) w := by
  have h1 : (0 : Int) ≤ (k : Int) := by omega
  have h3 : (k : Int) < (n : Int) := by omega
  go_simp
theorem idx_stsT {w : World} {b off n c k : Nat} (h : k < n) : (Instr.indexAt 56 (.slice (some ⟨b, off, none⟩) n c) (.int .i64 (k : Int))).run Tryz.prog w = .ok (.pointer (some ⟨b, off + k, none⟩)) w := by
  have h1 : (0 : Int) ≤ (k : Int) := by omega
  have h3 : (k : Int) < (n : Int) := by omega
  go_simp
theorem boxT (w : World) (x y : Value) (t : TypeId) : ∃ W g, w.alloc (.cells #[x, y] t) = W ∧ w.heap.size = g ∧ W.heap[g]? = some (.cells #[x, y] t (0, 0)) ∧ Below w.heap.size w W :=
  ⟨_, _, rfl, rfl, heap_alloc_new _ _, (Below.refl _ _).alloc (Nat.le_refl _) _⟩
/-- Rows of before, behind a box that was made. -/
theorem RwO.start {w W : World} {N : Nat} {v : Value} {rs : List Rw} (h : RwO w N v rs) (hb : Below w.heap.size w W) : ∃ bs : Nat → Prop, (∀ b, bs b → b < w.heap.size) ∧ rwsG N rs W v bs := by
  obtain ⟨bs, h1, h2⟩ := h.toG (Nat.le_refl _)
  exact ⟨bs, fun b e => (h1 b e).2, rwsG_near w W v bs (fun b e => hb.block b (h1 b e).2) h2⟩

set_option maxHeartbeats 800000 in
theorem sclone_any (a : Option Addr) (n c : Nat) (l : List (List UInt8)) (w : World) (hU : Strs w (.slice a n c) l) (hl : n ≤ 1000000) :
    Calls Tryz.prog 59 #[.slice a n c] w fun e w' => ∃ v, e = .returned v ∧ w'.ownsRow w.heap.size 9 1 v l.length (strC l) ∧ Below w.heap.size w w' := by
  have q : ∀ (w : World) (a : Option Addr) (n c n' c' : Nat), (binOp .eql 56 (.slice a n c) (.slice none n' c')).run Tryz.prog w = .ok (.bool a.isNone) w := fun w a n c n' c' => Lib.run_eql_slice_nil w _ _ a n c n' c' Tryz.underlying56
  cases a with
  | none =>
    obtain ⟨rfl, rfl⟩ := hU.nil rfl
    have : l = [] := List.eq_nil_of_length_eq_zero hU.lenE.1
    subst this
    go_enter Tryz.func59, Tryz.ntmps59
    go_wp2
    go_ret
    exact ⟨_, rfl, World.ownsRow_nil _ _ _ _, Below.refl _ _⟩
  | some ad =>
    have hn := hU.lenE.1
    have hcl := strC_len l
    rw [hn] at hcl ⊢
    have SU := Lib.hid hU; have HN := Lib.hid hn
    clear hU hn
    go_enter Tryz.func59, Tryz.ntmps59
    go_wp2_with (at_builtin; refine wpList_append_src rfl _ _ 56 rfl w.heap.size 9 (.string ByteArray.empty) 1 16 Tryz.underlying56 Tryz.info_str rfl (by decide) _ 0 [] rfl (World.ownsRow_made w #[] 0 (Nat.le_refl _) (by unfold maxLen; omega) rfl) (some ad) n c (strC l) rfl hcl (fun h => by cases h) (fun ad' e => by cases e; exact (SU.out.belowB ((Below.refl _ _).alloc (Nat.le_refl _) _)).cells _ rfl) (strC_one l) (by omega) (by unfold maxLen; omega) (by simp) ?_)
    intro v' w' hown hb
    try rw [Nat.zero_add] at hown
    try rw [List.nil_append] at hown
    have HO := Lib.hid hown; have HB := Lib.hid (((Below.refl w.heap.size w).alloc (Nat.le_refl _) _).trans hb.toBelow)
    clear hown hb hcl
    go_wp2
    go_ret
    exact ⟨v', rfl, HO.out, HB.out⟩

section
variable {P : Program} {ops : Array Oper} {Q : Exit → Act → World → Prop} {a : Act} {w w0 : World} {who : Nat → Nat} {i B r ro : Nat} {o : Oper}
/-- It reckons a value whose block is one of a role. -/
theorem rol_memv (ho : ops[i]? = some o) (hw : Region.wanted o (yielded ops a.tmps) = true) {s : Nat} (hd : o.dst = some s) (hs : s < a.tmps.size) {v : Value} (hr : Sem.run P (execOp a.eval o) w = .ok (.value v) w) {p : World → Value → Option Nat → Prop} {ob : Option Nat}
    (hob : ∀ b, ob = some b → b < w.heap.size ∧ who b = r) (hp : p w v ob) (hb : Below B w0 w) : wpOp P ops Q i (RPost ops i r ro (.mem s p) B w0 a w who) a w := by
  refine rol_wp ho hw ?_
  unfold Oper.wp
  rw [hr, Oper.upon_value, hd]
  exact ⟨⟨v, by rw [dst_of ho, hd]⟩, hb, who, RKeep.same _ _ _, v, ob, put_self _ hs, hob, hp⟩
theorem rol_moves (ho : ops[i]? = some o) (hw : Region.wanted o (yielded ops a.tmps) = true) {s t : Nat} (hd : o.dst = some s) (hs : s < a.tmps.size) (hop : o.op = .move (.tmp t) ∨ o.op = .assign (.tmp t)) {p : World → Value → (Nat → Prop) → Prop}
    (h : (RLeaf.mems t p).holds r a w who) (hb : Below B w0 w) : wpOp P ops Q i (RPost ops i r ro (.mems s p) B w0 a w who) a w := by
  obtain ⟨v, bs, hv, hbs, hp⟩ := h
  exact rol_vals ho hw hd hs (ex_move (x := .tmp t) hop (eval_slot hv)) hbs hp hb
/-- It makes one block, beside others of its role that it keeps. -/
theorem rol_news (ho : ops[i]? = some o) (hw : Region.wanted o (yielded ops a.tmps) = true) {s : Nat} (hd : o.dst = some s) (hs : s < a.tmps.size) {v : Value} {x : Obj} (hr : Sem.run P (execOp a.eval o) w = .ok (.value v) (w.alloc x)) {p : World → Value → (Nat → Prop) → Prop} {bs : Nat → Prop}
    (hbs : ∀ b, bs b → b = w.heap.size ∨ b < w.heap.size ∧ who b = r) (hp : p (w.alloc x) v bs) (hb : Below B w0 w) (hB : B ≤ w.heap.size) : wpOp P ops Q i (RPost ops i r ro (.mems s p) B w0 a w who) a w := by
  refine rol_wp ho hw ?_
  unfold Oper.wp
  rw [hr, Oper.upon_value, hd]
  refine ⟨⟨v, by rw [dst_of ho, hd]⟩, hb.alloc hB _, rtag w who r, RKeep.belowO ((Below.refl _ _).alloc (Nat.le_refl _) _) r ro who, v, bs, put_self _ hs, fun b e => ?_, hp⟩
  rcases hbs b e with rfl | ⟨h1, h2⟩
  · exact ⟨by simp, rtag_new (Nat.le_refl _)⟩
  · exact ⟨by simp; omega, (rtag_old h1).trans h2⟩
/-- An append onto a row of the region's own, whose elements have memory. -/
theorem rol_grows (ho : ops[i]? = some o) (hw : Region.wanted o (yielded ops a.tmps) = true) {s : Nat} (hd : o.dst = some s) (hs : s < a.tmps.size) {v' : Value} {w' : World} (hr : Sem.run P (execOp a.eval o) w = .ok (.value v') w') {ob : Option Nat} (hg : w.grownBy w' ob) (hob : ∀ b, ob = some b → b < w.heap.size ∧ who b = r)
    {p : World → Value → (Nat → Prop) → Prop} {bs : Nat → Prop} (hbs : ∀ b, bs b → b < w'.heap.size ∧ (w.heap.size ≤ b ∨ b < w.heap.size ∧ who b = r)) (hp : p w' v' bs) (hb : Below B w0 w) (hB : B ≤ w.heap.size) (hrow : ∀ b, ob = some b → B ≤ b) : wpOp P ops Q i (RPost ops i r r (.mems s p) B w0 a w who) a w := by
  refine rol_wp ho hw ?_
  unfold Oper.wp
  rw [hr, Oper.upon_value, hd]
  refine ⟨⟨v', by rw [dst_of ho, hd]⟩, hb.grown hg hB hrow, rtag w who r, RKeep.grown hg (fun b e => (hob b e).2), v', bs, put_self _ hs, fun b e => ?_, hp⟩
  obtain ⟨h1, h2 | ⟨h2, h3⟩⟩ := hbs b e
  · exact ⟨h1, rtag_new h2⟩
  · exact ⟨h1, (rtag_old h2).trans h3⟩
end
section
variable {ops : Array Oper} {Q : Exit → Act → World → Prop} {a : Act} {w w0 : World} {who : Nat → Nat} {i B r ro : Nat} {o : Oper}
/-- 'Row{p, vs}'. -/
theorem rol_rowA (ho : ops[i]? = some o) (hw : Region.wanted o (yielded ops a.tmps) = true) {s : Nat} (hd : o.dst = some s) (hs : s < a.tmps.size) {x : Operand} {q : Nat} (hop : o.op = .build 58 #[(0, x), (1, .tmp q)]) {N n : Nat} {p : List UInt8} {vs : List (List UInt8)} (hx : a.eval x = .string (mkB p)) (hn : n = vs.length)
    (h : (RLeaf.mem q (rowG N 9 1 n (strC vs))).holds r a w who) (hb : Below B w0 w) : wpOp Tryz.prog ops Q i (RPost ops i r ro (.mem s (rowA N p vs)) B w0 a w who) a w := by
  subst hn
  obtain ⟨y, ob, hy, hob, hrow, rfl⟩ := h
  obtain ⟨a', c, rfl, -⟩ := stsO hrow
  exact rol_memv ho hw hd hs (ex_build hop (vs := #[(0, .string (mkB p)), (1, .slice a' vs.length c)]) (by simp only [List.map_toArray, List.map_cons, List.map_nil, hx, eval_slot hy]) build_row) hob ⟨_, rfl, hrow, rfl⟩ hb
/-- '[]Row{r}'. -/
theorem rol_oneR (ho : ops[i]? = some o) (hw : Region.wanted o (yielded ops a.tmps) = true) {s q : Nat} (hd : o.dst = some s) (hs : s < a.tmps.size) (hop : o.op = .buildSlice 22 1 #[(0, .tmp q)]) {N : Nat} {p : List UInt8} {vs : List (List UInt8)}
    (h : (RLeaf.mem q (rowA N p vs)).holds r a w who) (hb : Below B w0 w) (hB : B ≤ w.heap.size) : wpOp Tryz.prog ops Q i (RPost ops i r ro (.mems s (oneR N p vs)) B w0 a w who) a w := by
  obtain ⟨v, ob, hv, hob, y, rfl, hrow, rfl⟩ := h
  obtain ⟨a', c, rfl, -⟩ := stsO hrow
  refine rol_news ho hw hd hs (x := .cells #[.string (mkB p), .slice a' vs.length c] 58) (v := .slice (some ⟨w.heap.size, 0, none⟩) 1 1) (ex_slice hop (vs := #[(0, .agg #[.string (mkB p), .slice a' vs.length c])]) (by simp only [List.map_toArray, List.map_cons, List.map_nil, eval_slot hv]) (by go_simp)) (bs := fun b => b = w.heap.size ∨ Value.ownBlock (.slice a' vs.length c) = some b) ?_ ⟨_, _, rfl, heap_alloc_new _ _, ownsRow_belowB hrow ((Below.refl _ _).alloc (Nat.le_refl _) _), .inl rfl, fun k e => .inr e⟩ hb hB
  rintro b (e | e)
  · exact .inl e
  · exact .inr (hob b e)
/-- 'append(rows, r)'. -/
theorem rol_pushR (ho : ops[i]? = some o) (hw : Region.wanted o (yielded ops a.tmps) = true) {s : Nat} (hd : o.dst = some s) (hs : s < a.tmps.size) {y : Operand} {q : Nat} (hop : o.op = .call { callee := .builtin .append, args := #[y, .tmp q], argTypes := #[22, 22] })
    {N t n : Nat} {rs : List Rw} {X : Value} (hn : rs.length = n) (h : (RLeaf.mems t (rwsX X N rs)).holds r a w who) (hy : a.eval y = X) {p : List UInt8} {vs : List (List UInt8)} (hq : (RLeaf.mems q (oneR N p vs)).holds r a w who) (hlen : n ≤ 1000000) (hb : Below B w0 w) (hB : B ≤ N) (hNw : N ≤ w.heap.size) {rs' : List Rw} (hrs : rs' = rs ++ [(p, vs)]) :
    wpOp Tryz.prog ops Q i (RPost ops i r r (.mems s (rwsG N rs')) B w0 a w who) a w := by
  subst hn hrs
  obtain ⟨v, bs, hv, hbs, ys, h1, h2, h3, h4⟩ := h
  obtain ⟨u, cs, hu, hcs, b, z, rfl, g1, g2, g3, g4⟩ := hq
  obtain ⟨az, cz, rfl, -⟩ := stsO g2
  obtain ⟨v', w', hr, k1, k2, k3⟩ := run_app_rw (ls := [(p, vs)]) (zs := [.slice az vs.length cz]) h2.1 h1 rfl rfl (a0 := some ⟨b, 0, none⟩) (m := 1) (c := 1) (fun e => by cases e) (blk_src g1) rfl (by omega) hNw o.type
  have hkt := txt_kept h1 k2
  have hI := (h2.keep hkt).snoc (r := (p, vs)) (y := .slice az vs.length cz) (row_heap g2 fun b' hb' => by obtain ⟨cs', hc'⟩ := own_block g2 hb'; exact hkt b' cs' hc')
  refine rol_grows ho hw hd hs (ex_append hop hy (eval_slot hu) hr) k2 (fun b' e => hbs b' (h3 b' e)) (bs := fun b' => v'.ownBlock = some b' ∨ ∃ j, j < (rs ++ [(p, vs)]).length ∧ ((ys ++ [Value.slice az vs.length cz]).getD j undef).ownBlock = some b') ?_ ⟨_, by rw [List.length_append]; exact k1, hI, fun b' e => .inl e, fun j hj b' e => .inr ⟨j, hj, e⟩⟩ hb (Nat.le_trans hB hNw) (fun b' e => Nat.le_trans hB (h1.lt b' e).1)
  rintro b' (e | ⟨j, hj, e⟩)
  · rcases k3 with k | ⟨k, k'⟩
    · rw [k] at e
      exact ⟨Nat.lt_of_lt_of_le (hbs b' (h3 b' e)).1 k2.size, .inr (hbs b' (h3 b' e))⟩
    · rw [k] at e; cases e; exact ⟨k', .inl (Nat.le_refl _)⟩
  · have hin : b' < w.heap.size ∧ who b' = r := by
      rw [List.length_append, List.length_singleton] at hj
      rw [gd_snoc h2.1 hj] at e
      by_cases ej : j = rs.length
      · rw [if_pos ej] at e; exact hcs b' (g4 b' e)
      · rw [if_neg ej] at e; exact hbs b' (h4 j (by omega) b' e)
    exact ⟨Nat.lt_of_lt_of_le hin.1 k2.size, .inr hin⟩
end

set_option maxHeartbeats 3200000 in
theorem town_any (V : Value) (rs : List Rw) (w : World) (hV : Rws w V rs) (hl : rs.length ≤ 100000) (hv : ∀ r ∈ rs, r.2.length ≤ 100000) :
    Calls Tryz.prog 35 #[V] w fun e w' => ∃ v, e = .returned v ∧ RwO w' w.heap.size v rs ∧ Below w.heap.size w w' := by
  obtain ⟨Al, cl, rfl, hl1, hl2, -, -⟩ := hV.ex
  unfold maxLen at hl2
  obtain ⟨m, hm⟩ : ∃ n, rs.length = n := ⟨_, rfl⟩
  rw [hm] at hl hl1 hV ⊢
  obtain ⟨N0, hN0⟩ : ∃ N, w.heap.size = N := ⟨_, rfl⟩
  have e1 : ∀ args w, (callFunc 59 args).run Tryz.prog w = .ok (.enter 59 args) w := enters_of Tryz.func59 (by kernel_rfl) rfl
  have SV := Lib.hid hV; have HM := Lib.hid hm; have HN0 := Lib.hid hN0; have HV := Lib.hid hv
  rw [hN0]
  clear hV hm hN0 hv
  go_enter Tryz.func35, Tryz.ntmps35
  go_wp2
  go_loopw [3, 8] (fun v3 i wr => ∃ (k : Nat) (X : Value), k ≤ m ∧ i = .int .i64 k ∧ X = v3 ∧ Hid (RwO wr N0 X (rs.take k)) ∧ Hid (Below N0 w wr)) (fun _ i _ => m - (intOf i).toNat)
  case atStart => exact ⟨0, _, Nat.zero_le _, rfl, rfl, Lib.hid (RwO.nil _ _), Lib.hid (Below.refl _ _)⟩
  case round =>
    obtain ⟨k, X, hk, rfl, rfl, HO, HB⟩ := hrel
    by_cases hlt : k < m
    · have hkl : k < rs.length := by rw [HM.out]; exact hlt
      have hBW : Below w.heap.size w wr := by rw [HN0.out]; exact HB.out
      obtain ⟨bl, ol, ay, ny, cy, rfl, c0, c1, hsy⟩ := SV.out.at k hkl
      have hc0 := cell_keep c0 hBW
      have hc1 := cell_keep c1 hBW
      have htk : rs.take (k + 1) = rs.take k ++ [rs.getD k zR] := by rw [List.take_succ_eq_append_getElem hkl, gd_at hkl]
      have hvy := HV.out _ (gd_in (z := zR) hkl)
      have hpl : (rs.take k).length = k := by rw [List.length_take, HM.out]; omega
      obtain ⟨y, hy⟩ : ∃ y, y = rs.getD k zR := ⟨_, rfl⟩
      rw [← hy] at hc0 hsy htk hvy
      obtain ⟨p, vs⟩ := y
      simp only at hc0 hc1 hsy hvy
      have hny := hsy.lenE
      obtain ⟨P2, hP2⟩ : ∃ P2, P2 = rs.take k ++ [(p, vs)] := ⟨_, rfl⟩
      rw [← hP2] at htk
      have hNs : N0 ≤ wr.heap.size := by rw [← HN0.out]; exact hBW.size
      have HTK := Lib.hid htk; have HP2 := Lib.hid hP2; have HPL := Lib.hid hpl; have HKM := Lib.hid (show k ≤ 1000000 by omega); have HNY := Lib.hid (show ny ≤ 1000000 by omega); have SY := Lib.hid hsy; have HNS := Lib.hid hNs
      clear hy htk hvy hpl hsy hny hP2 hBW hNs c0 c1
      have hkb : (k : Int) < (m : Int) := by omega
      go_upto_region 5 with fail
      obtain ⟨W5, gk, hW5, hgk, r5, hb5⟩ := boxT wr (.string (mkB p)) (.slice ay ny cy) 58
      rw [hW5, hgk]
      obtain ⟨bs, hbs, hst⟩ := HO.out.start hb5
      have RK := Lib.hid r5
      have HBS := Lib.hid hbs; have HST := Lib.hid hst; have HSZ := Lib.hid hb5.size
      have HGN := Lib.hid (show ∀ b, bs b → ¬ b = gk from fun b e q => by have := hbs b e; omega)
      have HB5 := Lib.hid (show Below N0 w W5 from HB.out.trans (hb5.mono HNS.out))
      have HNS5 := Lib.hid (show N0 ≤ W5.heap.size from Nat.le_trans HNS.out hb5.size)
      clear hW5 hgk r5 hb5 hc0 hc1 hbs hst
      refine rol_run (by kernel_rfl) [[], [], [1], [], [3], [3, 4], [1, 2, 3, 4, 5], [1, 2, 3, 4, 5, 6], [0, 1, 2, 3, 4, 5, 6, 7], [0, 1, 2, 3, 4, 5, 6, 7, 8]] (by kernel_rfl) [12, 13, 14, 15, 16, 17, 18, 19, 20, 3] [[12], [], [1, 10], [], [3, 10], [4], [2, 5], [6], [0, 7, 11], [8]] [0, 0, 0, 0, 0, 1, 1, 1, 1, 1, 3, 1, 0] [0, 0, 0, 0, 0, 0, 0, 0, 1, 0] [1000, 1000, 1000, 1000, 1000, 6, 7, 8, 1000, 1000, 1000, 8, 9] [.val 12 (X), .val 13 (.pointer (some ⟨gk, 0, none⟩)), .val 14 (.string (mkB p)), .val 15 (.pointer (some ⟨gk, 1, none⟩)), .val 16 (.slice ay ny cy), .mem 17 (rowG N0 9 1 vs.length (strC vs)), .mem 18 (rowA N0 p vs), .mems 19 (oneR N0 p vs), .mems 20 (rwsG N0 P2), .mems 3 (rwsG N0 P2), .box (gk) (.cells #[.string (mkB p), .slice ay ny cy] 58), .mems 3 (rwsX X N0 (rs.take k)), .val 3 X] (by kernel_rfl) ?_ (N0) (W5.heap.size) rfl HB5.out rfl (fun k => if k = gk then 3 else 1) ?_ ?_ ?_
      · intro j hj
        have hj3 : j < 13 := hj
        have hj2 : j = 0 ∨ j = 1 ∨ j = 2 ∨ j = 3 ∨ j = 4 ∨ j = 5 ∨ j = 6 ∨ j = 7 ∨ j = 8 ∨ j = 9 ∨ j = 10 ∨ j = 11 ∨ j = 12 := by omega
        clear hj hj3
        rcases hj2 with rfl | rfl | rfl | rfl | rfl | rfl | rfl | rfl | rfl | rfl | rfl | rfl | rfl
        · exact trivial
        · exact trivial
        · exact trivial
        · exact trivial
        · exact trivial
        · exact rowG_near
        · exact rowA_near
        · exact oneR_near
        · exact rwsG_near
        · exact rwsG_near
        · exact trivial
        · exact rwsX_near
        · exact trivial
      · intro j hj0 hj
        have hj1 : 10 ≤ j := hj0
        have hj3 : j < 13 := hj
        have hj2 : j = 10 ∨ j = 11 ∨ j = 12 := by omega
        clear hj0 hj hj1 hj3
        rcases hj2 with rfl | rfl | rfl
        · exact ⟨RK.out, if_pos rfl⟩
        · exact ⟨_, bs, rfl, fun b e => ⟨Nat.lt_of_lt_of_le (HBS.out b e) HSZ.out, if_neg (HGN.out b e)⟩, HST.out⟩
        · exact rfl
      · intro i hi a wx who hG hF
        have hz : a.tmps.size = 23 := hG.size
        have hi3 : i < 10 := hi
        have hi2 : i = 0 ∨ i = 1 ∨ i = 2 ∨ i = 3 ∨ i = 4 ∨ i = 5 ∨ i = 6 ∨ i = 7 ∨ i = 8 ∨ i = 9 := by omega
        clear hi hi3
        rcases hi2 with rfl | rfl | rfl | rfl | rfl | rfl | rfl | rfl | rfl | rfl
        · exact rol_val rfl rfl rfl (by rw [hz]; decide) (ex_move (Or.inl rfl) (eval_slot (hF 12 (by decide)))) hG.below
        · exact rol_val rfl rfl rfl (by rw [hz]; decide) (ex_field rfl (eval_slot ((hG.slots 5 (by decide)).trans rfl)) (by go_simp)) hG.below
        · exact rol_val rfl rfl rfl (by rw [hz]; decide) (ex_load rfl (eval_slot (hF 1 (by decide))) (ld_strT (row2 (hF 10 (by decide)).1).1)) hG.below
        · exact rol_val rfl rfl rfl (by rw [hz]; decide) (ex_field rfl (eval_slot ((hG.slots 5 (by decide)).trans rfl)) (by go_simp)) hG.below
        · exact rol_val rfl rfl rfl (by rw [hz]; decide) (ex_load rfl (eval_slot (hF 3 (by decide))) (ld_stsT (row2 (hF 10 (by decide)).1).2.1)) hG.below
        · refine rol_calls rfl rfl rfl (by rw [hz]; decide) (ex_call rfl (by simp [eval_slot (hF 4 (by decide))]) e1) (sclone_any ay ny cy vs wx (SY.out.belowB (by rw [HN0.out]; exact hG.below)) HNY.out) ?_ hG.below (Nat.le_trans HNS5.out hG.new)
          rintro e w1 ⟨u, rfl, hown, hb1⟩
          exact ⟨u, rfl, hb1, .inr (.inl ⟨_, u.ownBlock, rfl, fun b e => hown.lt b e, row_base hown (Nat.le_trans HNS5.out hG.new), rfl⟩)⟩
        · exact rol_rowA rfl rfl rfl (by rw [hz]; decide) rfl (eval_slot (hF 2 (by decide))) rfl (hF 5 (by decide)) hG.below
        · exact rol_oneR rfl rfl rfl (by rw [hz]; decide) rfl (hF 6 (by decide)) hG.below (Nat.le_trans HNS5.out hG.new)
        · exact rol_pushR rfl rfl rfl (by rw [hz]; decide) rfl HPL.out (hF 11 (by decide)) (eval_slot (hF 0 (by decide))) (hF 7 (by decide)) HKM.out hG.below (Nat.le_refl _) (Nat.le_trans HNS5.out hG.new) HP2.out
        · exact rol_moves rfl rfl rfl (by rw [hz]; decide) (Or.inr rfl) (hF 8 (by decide)) hG.below
      · intro a wx who hG hF
        obtain ⟨v3, bs3, fv3, fo3, fp3⟩ := hF 9 (of_decide_eq_true (by kernel_rfl)) (of_decide_eq_true (by kernel_rfl))
        replace fv3 : a.tmps.getD 3 undef = v3 := eval_slot (s := 3) fv3
        have hbx := hG.below
        have hnx := hG.new
        rw [hG.frame]
        simp only [List.foldl_cons, List.foldl_nil, List.setIfInBounds_toArray, List.set_cons_zero, List.set_cons_succ]
        generalize a.tmps.getD 12 undef = u12
        generalize a.tmps.getD 13 undef = u13
        generalize a.tmps.getD 14 undef = u14
        generalize a.tmps.getD 15 undef = u15
        generalize a.tmps.getD 16 undef = u16
        generalize a.tmps.getD 17 undef = u17
        generalize a.tmps.getD 18 undef = u18
        generalize a.tmps.getD 19 undef = u19
        generalize a.tmps.getD 20 undef = u20
        rw [fv3]
        clear hF hG fv3
        have HRW := Lib.hid (show RwO wx N0 v3 P2 from fp3.own); have HBN := Lib.hid hbx
        clear fo3 fp3 hbx hnx
        go_wp2
        go_roundw
        case rel => exact ⟨k + 1, _, by omega, by go_num, rfl, Lib.hid (by rw [HTK.out]; exact HRW.out), HBN⟩
        case measure => simp [intOf]; omega
    · have e : k = m := by omega
      subst e
      go_wp2
      go_ret
      have h := HO.out
      rw [List.take_of_length_le (by rw [HM.out]; exact Nat.le_refl _)] at h
      exact ⟨_, rfl, h, HB.out⟩
end Go.Proofs.YtnngfcjfhhfafaaGreat

namespace Go.Proofs.YtnngfcjfhhfafaaGreat
open Go.RowKit
set_option linter.unusedVariables false
set_option maxRecDepth 100000

set_option maxHeartbeats 400000 in
theorem torder_any (p q : List UInt8) (w : World) (hp : p.length ≤ 1000000000) (hq : q.length ≤ 1000000000) (op : okV p = true) (oq : okV q = true) :
    Calls Tryz.prog 38 #[.string (mkB p), .string (mkB q)] w fun e w' => e = .returned (.int .i64 (cmpT p q)) ∧ Below w.heap.size w w' := by
  have kc := fun w => vcmp_l p q w hp hq op oq
  obtain ⟨C, hC⟩ : ∃ C, cmpT p q = C := ⟨_, rfl⟩
  rw [hC] at kc ⊢
  clear hC
  go_enter Tryz.func38, Tryz.ntmps38
  go_wp2_with (go_at_call 60; refine (kc _).mono ?_; rintro e w1 ⟨rfl, hb1⟩; have B := Lib.hid hb1.toBelow; clear hb1 kc)
  go_ret
  exact ⟨rfl, B.out⟩
theorem vmay_b (p : List UInt8) (w : World) (h : p.length ≤ 1000000000) :
    Calls Tryz.prog 58 #[.string (mkB p)] w fun e w' => e = .returned (.bool (okV p)) ∧ Below w.heap.size w w' := (vmay_l p w h).mono fun _ _ ⟨a, b⟩ => ⟨a, b.toBelow⟩
theorem pmay_b (p : List UInt8) (w : World) (h : p.length ≤ 1000000000) :
    Calls Tryz.prog 42 #[.string (mkB p)] w fun e w' => e = .returned (.bool (pathB p)) ∧ Below w.heap.size w w' := (pmay_l p w h).mono fun _ _ ⟨a, b⟩ => ⟨a, b.toBelow⟩
theorem Strs.atT {w : World} {a : Option Addr} {n c : Nat} {l : List (List UInt8)} (h : Strs w (.slice a n c) l) (j : Nat) (hj : j < l.length) : ∃ b off, a = some ⟨b, off, none⟩ ∧ w.cell? ⟨b, off + j, none⟩ = some (.string (mkB (l.getD j []))) := by
  obtain ⟨a0, c0, hv, _, _, _, h3⟩ := h.ex
  injection hv with e1 e2 e3
  subst e1
  obtain ⟨b, off, ha, _, hc⟩ := h3 (by omega)
  exact ⟨b, off, ha, hc j hj⟩
theorem ltV_ge {a b : List UInt8} {C : Int} (h : cmpT a b = C) : decide (0 ≤ C) = !ltV a b := by
  unfold ltV; rw [h]; by_cases k : 0 ≤ C
  · rw [decide_eq_true k, decide_eq_false (by omega)]; rfl
  · rw [decide_eq_false k, decide_eq_true (by omega)]; rfl

set_option maxHeartbeats 3200000 in
theorem tfit_any (a : Option Addr) (n c : Nat) (l : List (List UInt8)) (w : World) (hU : Strs w (.slice a n c) l) (hs : ∀ x ∈ l, x.length ≤ 1000000000) :
    Calls Tryz.prog 43 #[.slice a n c] w fun e w' => e = .returned (.bool (fitV2 l)) ∧ Below w.heap.size w w' := by
  obtain ⟨hn, h1, h2⟩ := hU.lenE
  unfold maxLen at h2
  obtain ⟨R, hR⟩ : ∃ R, fitV2 l = R := ⟨_, rfl⟩
  rw [hR]
  have hr2 : R = (chainA okV ltV [] l && decide (0 < n)) := by rw [← hR, ← hn]; rfl
  have SU := Lib.hid hU; have HN := Lib.hid hn; have HS := Lib.hid hs; have HR := Lib.hid hr2
  clear hU hn hs hR hr2
  go_enter Tryz.func43, Tryz.ntmps43
  go_wp2
  go_loopw [7] (fun i wr => ∃ k : Nat, k ≤ n ∧ i = .int .i64 k ∧ Hid (∀ j, j < k → chainB okV ltV [] l j = true) ∧ Hid (Below w.heap.size w wr)) (fun i _ => n - (intOf i).toNat)
  case atStart => exact ⟨0, Nat.zero_le _, rfl, Lib.hid fun j hj => absurd hj (Nat.not_lt_zero j), Lib.hid (Below.refl _ _)⟩
  case round =>
    obtain ⟨k, hk, rfl, HM, HB⟩ := hrel
    by_cases hlt : k < n
    · have hkl : k < l.length := by rw [HN.out]; exact hlt
      have hkb : (k : Int) < (n : Int) := by omega
      obtain ⟨b, off, rfl, hc⟩ := (SU.out.belowB HB.out).atT k hkl
      have hp : wr.cell? ⟨b, off + (k - 1), none⟩ = some (.string (mkB (l.getD (k - 1) []))) := by
        obtain ⟨b', off', e, q⟩ := (SU.out.belowB HB.out).atT (k - 1) (by omega)
        cases e; exact q
      obtain ⟨y, hy⟩ : ∃ y, y = l.getD k [] := ⟨_, rfl⟩
      obtain ⟨x, hx⟩ : ∃ x, x = l.getD (k - 1) [] := ⟨_, rfl⟩
      have hys : y.length ≤ 1000000000 := by rw [hy]; exact HS.out _ (gd_in hkl)
      have hxs : x.length ≤ 1000000000 := by rw [hx]; exact HS.out _ (gd_in (by omega))
      have hst : chainB okV ltV [] l k = (okV y && (decide (k = 0) || ltV x y)) := by unfold chainB; rw [← hy, ← hx]
      rw [← hy] at hc
      rw [← hx] at hp
      have hox : 0 < k → okV x = true := fun h0 => by
        have := HM.out (k - 1) (by omega)
        unfold chainB at this
        rw [← hx, Bool.and_eq_true] at this
        exact this.1
      have km := fun w => vmay_b y w hys
      obtain ⟨o, ho⟩ : ∃ o, okV y = o := ⟨_, rfl⟩
      rw [ho] at km hst
      have HST := Lib.hid hst; have HKL := Lib.hid hkl; have HKM := Lib.hid km; have HO := Lib.hid ho; have HOX := Lib.hid hox; have HYS := Lib.hid hys; have HXS := Lib.hid hxs
      clear hy hx hys hxs hst hkl km ho hox
      cases o with
      | false =>
        have hno : R = false := by rw [HR.out, chain_no HKL.out (by rw [HST.out]; rfl)]; rfl
        have HNO := Lib.hid hno; clear hno
        go_wp2_with (go_at_call 58; refine (HKM.out _).mono ?_; rintro e w1 ⟨rfl, hb1⟩; have HB1 := Lib.hid (below_step HB.out hb1); clear hb1)
        go_ret
        exact ⟨by rw [HNO.out]; rfl, HB1.out⟩
      | true =>
        by_cases h0 : k = 0
        · have hz : decide (0 < k) = false := by simp [h0]
          have HM2 : Hid (∀ j, j < k + 1 → chainB okV ltV [] l j = true) := Lib.hid fun j hj => by
            have : j = k := by omega
            rw [this, HST.out, decide_eq_true h0]; rfl
          clear h0
          go_wp2_with (go_at_call 58; refine (HKM.out _).mono ?_; rintro e w1 ⟨rfl, hb1⟩; have HB1 := Lib.hid (below_step HB.out hb1); clear hb1)
          go_roundw
          case rel => exact ⟨k + 1, by omega, by go_num, HM2, HB1⟩
          case measure => simp [intOf]; omega
        · have hk0 : (0 : Int) < (k : Int) := by omega
          obtain ⟨m, hm⟩ : ∃ m, k - 1 = m := ⟨_, rfl⟩
          rw [hm] at hp
          have hkm : (k : Int) - 1 = (m : Int) := by omega
          have hmn : (m : Int) < (n : Int) := by omega
          have kc := fun w => torder_any x y w HXS.out HYS.out (HOX.out (by omega)) HO.out
          obtain ⟨C, hC⟩ : ∃ C, cmpT x y = C := ⟨_, rfl⟩
          have hge := ltV_ge hC
          rw [hC] at kc
          have HKC := Lib.hid kc; have HSTK := Lib.hid (show chainB okV ltV [] l k = ltV x y by rw [HST.out, decide_eq_false h0]; simp)
          clear kc hC hm
          cases hlx : ltV x y with
          | false =>
            rw [hlx, Bool.not_false] at hge
            have hno : R = false := by rw [HR.out, chain_no HKL.out (by rw [HSTK.out, hlx])]; rfl
            have HNO := Lib.hid hno; clear hno hlx
            go_wp2_with (first
              | (go_at_call 58; refine (HKM.out _).mono ?_; rintro e w1 ⟨rfl, hb1⟩; have HB1 := Lib.hid (below_step HB.out hb1); replace hp := cell_keep hp hb1; clear hb1)
              | (go_at_call 38; refine (HKC.out _).mono ?_; rintro e w2 ⟨rfl, hb2⟩; have HB2 := Lib.hid (below_step HB1.out hb2); clear hb2))
            go_ret
            exact ⟨by rw [HNO.out]; rfl, HB2.out⟩
          | true =>
            rw [hlx, Bool.not_true] at hge
            have HM2 : Hid (∀ j, j < k + 1 → chainB okV ltV [] l j = true) := Lib.hid fun j hj => by
              rcases Nat.lt_succ_iff_lt_or_eq.1 hj with q | rfl
              · exact HM.out j q
              · rw [HSTK.out, hlx]
            clear hlx
            go_wp2_with (first
              | (go_at_call 58; refine (HKM.out _).mono ?_; rintro e w1 ⟨rfl, hb1⟩; have HB1 := Lib.hid (below_step HB.out hb1); replace hp := cell_keep hp hb1; clear hb1)
              | (go_at_call 38; refine (HKC.out _).mono ?_; rintro e w2 ⟨rfl, hb2⟩; have HB2 := Lib.hid (below_step HB1.out hb2); clear hb2))
            go_roundw
            case rel => exact ⟨k + 1, by omega, by go_num, HM2, HB2⟩
            case measure => simp [intOf]; omega
    · have e : k = n := by omega
      subst e
      have hyes : chainA okV ltV [] l = true := chain_yes fun j hj => HM.out j (by rw [← HN.out]; exact hj)
      have hr3 : R = decide (0 < k) := by rw [HR.out, hyes, Bool.true_and]
      have HR3 := Lib.hid hr3
      clear hyes hr3
      go_wp2
      go_ret
      exact ⟨by rw [HR3.out]; rfl, HB.out⟩
end Go.Proofs.YtnngfcjfhhfafaaGreat
