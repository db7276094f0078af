/- THE TEXTS OF DifA DifB DifE DifF DifG DifH DifI DifJ DifK RolM DifS DifO: Edits in memory: slices of them, rows of the call's own, what comes in; two edits' sameness. Maps from nodes to numbers: how often each is there. The keys of a map from nodes to numbers, one by one, whatever their order, and what collects them. Two nodes' order, of nodes that may be: and no draw is taken back. The library's sort at nodes, and what it leaves: a list's nodes in order; the keys of a map of counts, sorted. The edits of a map of counts. Two lists of nodes held against one another. May edits be: of the program. Edits put together: slices.Grow from nil, slices.Concat; is any beyond; parts of slices. Rows of the call's own, and blocks that a region lays, as facts of its operations. Edits: what operations on them, and on rows of them, come to. Is any edit beyond; edits turned about: of the program. -/
import Derived.Test.YtglhjdbnpdoinaaGreatDifM
import Derived.Test.YtglhjdbnpdoinaaGreatRolB
import Derived.Test.YtglhjdbnpdoinaaGreatNodY
import Derived.Test.YtglhjdbnpdoinaaGreatNodR
import Derived.Laws.StructEq
import Derived.Deep.SlicePairs
import Derived.Deep.QuietTactic
import Derived.BigQuiet
import Derived.Maps.OwnOps
import Derived.Maps.OwnSet
import Derived.Maps.RangeWalk
import Derived.WideKeyEntry
import Derived.RangeFuncNested
import Derived.RangeFuncBox
import Derived.RangeFuncBound
import Derived.RangeFuncCalls
import Derived.Sort.MapsRangeIn
import Derived.Shelf.Abstract
import Derived.Shelf.AbstractIn
import Derived.WalkKit
import Derived.OwnWalkIn
import Derived.TacticsInMore
import Derived.RegionIn
import Derived.LoopNIn
import Derived.LoopIn
import Derived.Maps.AppendAt
import Derived.Test.YtglhjdbnpdoinaaGreatOctT
import Derived.Shelf.SlSortCmp.NoneTotal
import Derived.Test.YtglhjdbnpdoinaaGreatNodF
import Derived.Lib.AppendZeros
import Derived.Deep.RegionLaw
import Derived.Laws.MakeOwn
import Derived.Laws.CopyRow
import Derived.Laws.CopyOwn
namespace Go.Proofs.YtglhjdbnpdoinaaGreat
open Go.RowKit Go.ChangeShapes Go.WideShapes
set_option linter.unusedVariables false
set_option maxRecDepth 100000

/-- A slice of edits, in memory: nil, empty, or cells that hold them, three each. -/
structure Dfs (w : World) (v : Value) (es : List De) : Prop where
  ex : ∃ a c, v = .slice a es.length c ∧ es.length ≤ c ∧ c ≤ maxLen ∧ (a = none → c = 0) ∧ (0 < es.length → ∃ b off, a = some ⟨b, off, none⟩ ∧ b < w.heap.size ∧ ∀ j, j < es.length →
    w.cell? ⟨b, off + j * 3, none⟩ = some (.string (mkB (es.getD j zD).1.1)) ∧ w.cell? ⟨b, off + j * 3 + 1, none⟩ = some (.string (mkB (es.getD j zD).1.2)) ∧ w.cell? ⟨b, off + j * 3 + 2, none⟩ = some (.int .i64 (es.getD j zD).2))
theorem Dfs.below {w w' : World} {v : Value} {zs : List De} (h : Dfs w v zs) (hb : Below w.heap.size w w') : Dfs w' v zs := by
  obtain ⟨a, c, hv, h1, h2, hn, h3⟩ := h.ex
  refine ⟨a, c, hv, h1, h2, hn, fun hp => ?_⟩
  obtain ⟨b, off, ha, hlt, hc⟩ := h3 hp
  exact ⟨b, off, ha, Nat.lt_of_lt_of_le hlt hb.size, fun j hj => by rw [hb.cell (by exact hlt), hb.cell (by exact hlt), hb.cell (by exact hlt)]; exact hc j hj⟩
theorem Dfs.at {w : World} {a : Option Addr} {n c : Nat} {es : List De} (h : Dfs w (.slice a n c) es) (k : Nat) (hk : k < es.length) :
    ∃ b off, a = some ⟨b, off, none⟩ ∧ b < w.heap.size ∧ w.cell? ⟨b, off + k * 3, none⟩ = some (.string (mkB (es.getD k zD).1.1)) ∧ w.cell? ⟨b, off + k * 3 + 1, none⟩ = some (.string (mkB (es.getD k zD).1.2)) ∧ w.cell? ⟨b, off + k * 3 + 2, none⟩ = some (.int .i64 (es.getD k zD).2) := by
  obtain ⟨a', c', hv, _, _, _, h3⟩ := h.ex
  injection hv with e1 e2 e3
  subst e1
  obtain ⟨b, off, ha, hlt, hc⟩ := h3 (by omega)
  exact ⟨b, off, ha, hlt, hc k hk⟩
theorem dfs_none (w : World) : Dfs w (.slice none 0 0) [] := ⟨none, 0, rfl, Nat.le_refl _, by unfold maxLen; omega, fun _ => rfl, fun h => absurd h (by simp)⟩
theorem Dfs.nil {w : World} {n c : Nat} {l : List De} {a : Option Addr} (h : Dfs w (.slice a n c) l) (ha : a = none) : n = 0 ∧ c = 0 := by
  obtain ⟨a', c', hv, h1, h2, h3, -⟩ := h.ex
  injection hv with e1 e2 e3
  subst e1 e2 e3
  have := h3 ha
  omega
theorem Dfs.lenE {w : World} {A : Option Addr} {n c : Nat} {l : List De} (h : Dfs w (.slice A n c) l) : l.length = n ∧ n ≤ c ∧ c ≤ maxLen := by
  obtain ⟨_, _, hv, h1, h2, _⟩ := h.ex
  injection hv with e1 e2 e3
  subst e2 e3; exact ⟨rfl, h1, h2⟩
/-- The ones from the i-th on. -/
theorem Dfs.cut {w : World} {a : Option Addr} {n c : Nat} {l : List De} (h : Dfs w (.slice a n c) l) {i : Nat} (hi : i ≤ l.length) : Dfs w (sliced a i n c 3) (l.drop i) := by
  obtain ⟨a', c', hv, h1, h2, h3, h4⟩ := h.ex
  injection hv with e1 e2 e3
  subst e1 e2 e3
  unfold sliced
  refine ⟨_, _, by rw [List.length_drop], by rw [List.length_drop]; omega, by omega, fun hn => ?_, fun hp => ?_⟩
  · by_cases hc : c = i
    · omega
    · rw [if_neg hc] at hn
      have : a = none := by cases a <;> simp_all
      have := h3 this; omega
  · rw [List.length_drop] at hp
    obtain ⟨b, off, rfl, hb, hc⟩ := h4 (by omega)
    refine ⟨b, off + i * 3, ?_, hb, fun j hj => ?_⟩
    · rw [if_neg (by omega)]; simp [addr_add]
    · rw [List.length_drop] at hj
      have := hc (i + j) (by omega)
      have hg : (l.drop i).getD j zD = l.getD (i + j) zD := by simp [List.getD_eq_getElem?_getD, List.getElem?_drop]
      rw [hg, show off + i * 3 + j * 3 = off + (i + j) * 3 by omega]
      exact this
theorem df_getD {l : List De} {j : Nat} (h : j < l.length) : l.getD j zD = l[j] := by
  rw [List.getD_eq_getElem?_getD, List.getElem?_eq_getElem h]; rfl
theorem df_mem {l : List De} {j : Nat} (h : j < l.length) : l.getD j zD ∈ l := by rw [df_getD h]; exact List.getElem_mem h

/-! ### Edits as cells -/
abbrev dfV (e : De) : Value := .agg #[.string (mkB e.1.1), .string (mkB e.1.2), .int .i64 e.2]
abbrev dfC1 (e : De) : List Value := [.string (mkB e.1.1), .string (mkB e.1.2), .int .i64 e.2]
def dfC (es : List De) : List Value := es.flatMap dfC1
theorem dfC_len (es : List De) : (dfC es).length = es.length * 3 := by
  induction es with
  | nil => rfl
  | cons x l ih => simp only [dfC, List.flatMap_cons, List.length_append, List.length_cons, List.length_nil] at ih ⊢; omega
theorem dfC_snoc (es : List De) (x : De) : dfC (es ++ [x]) = dfC es ++ dfC1 x := by simp [dfC]
theorem dfC_app (l m : List De) : dfC (l ++ m) = dfC l ++ dfC m := by simp [dfC]
theorem dfC_one (l : List De) : ((dfC l).all fun u => u.oneCell') = true := by
  induction l with
  | nil => rfl
  | cons x l ih =>
    have e : dfC (x :: l) = .string (mkB x.1.1) :: .string (mkB x.1.2) :: .int .i64 x.2 :: dfC l := rfl
    rw [e, List.all_cons, List.all_cons, List.all_cons, ih]; rfl
theorem dfC_at (es : List De) : ∀ j, j < es.length → (dfC es)[j * 3]? = some (.string (mkB (es.getD j zD).1.1)) ∧ (dfC es)[j * 3 + 1]? = some (.string (mkB (es.getD j zD).1.2)) ∧ (dfC es)[j * 3 + 2]? = some (.int .i64 (es.getD j zD).2) := by
  induction es with
  | nil => intro j hj; exact absurd hj (Nat.not_lt_zero j)
  | cons x l ih =>
    intro j hj
    have e : dfC (x :: l) = .string (mkB x.1.1) :: .string (mkB x.1.2) :: .int .i64 x.2 :: dfC l := rfl
    rw [e]
    cases j with
    | zero => exact ⟨rfl, rfl, rfl⟩
    | succ j =>
      have := ih j (by simpa using hj)
      rw [show (j + 1) * 3 = j * 3 + 1 + 1 + 1 by omega, show j * 3 + 1 + 1 + 1 + 1 = (j * 3 + 1) + 1 + 1 + 1 by omega, show j * 3 + 1 + 1 + 1 + 2 = (j * 3 + 2) + 1 + 1 + 1 by omega]
      simpa using this
abbrev zDV : Value := .agg #[.string ByteArray.empty, .string ByteArray.empty, .int .i64 0]
theorem Tryz.info_df : (Tryz.prog.info? 56).map (fun i => (i.zero, i.size, i.bytes)) = some (some zDV, 3, 40) := by kernel_rfl
theorem Dfs.owned {w : World} {base : Nat} {e : TypeId} {v : Value} {es : List De} (h : w.ownsRow base e 3 v es.length (dfC es)) : Dfs w v es := by
  rcases Joins.ownsRow_forms h with ⟨rfl, h0⟩ | ⟨g, cap, rfl⟩
  · have : es = [] := List.eq_nil_of_length_eq_zero h0
    subst this
    exact dfs_none w
  · have hlt := h.lt g rfl
    have hcap : es.length ≤ cap ∧ cap ≤ maxLen := by
      obtain ⟨_, h | ⟨g', cap', cur, hv, _, _, h1, h2, _⟩⟩ := h
      · cases h.1
      · injection hv with _ _ hc; subst hc; exact ⟨h1, h2⟩
    refine ⟨some ⟨g, 0, none⟩, cap, rfl, hcap.1, hcap.2, (fun h => by cases h), fun _ => ⟨g, 0, rfl, hlt.2, fun j hj => ?_⟩⟩
    have := dfC_at es j hj
    rw [Nat.zero_add, h.cellAt (j * 3) (by omega), h.cellAt (j * 3 + 1) (by omega), h.cellAt (j * 3 + 2) (by omega)]
    exact this
theorem dfsO {w : World} {base : Nat} {e : TypeId} {v : Value} {es : List De} (h : w.ownsRow base e 3 v es.length (dfC es)) : ∃ a c, v = .slice a es.length c ∧ Dfs w (.slice a es.length c) es := by
  have hst := Dfs.owned h
  obtain ⟨a, c, rfl, _⟩ := hst.ex
  exact ⟨a, c, rfl, hst⟩
theorem Dfs.cells {w : World} {ad : Addr} {n c : Nat} {l : List De} (h : Dfs w (.slice (some ad) n c) l) : ∀ j u, (dfC l)[j]? = some u → w.cell? (ad.add j) = some u := by
  intro j u hj
  have hlt : j < (dfC l).length := (List.getElem?_eq_some_iff.1 hj).1
  rw [dfC_len] at hlt
  obtain ⟨k, hk⟩ : ∃ k, j = k * 3 ∨ j = k * 3 + 1 ∨ j = k * 3 + 2 := ⟨j / 3, by omega⟩
  have hkl : k < l.length := by omega
  obtain ⟨b, off, ha, -, c0, c1, c2⟩ := h.at k hkl
  obtain ⟨d0, d1, d2⟩ := dfC_at l k hkl
  cases ha
  rw [addr_add]
  rcases hk with rfl | rfl | rfl
  · rw [d0] at hj; cases hj; exact c0
  · rw [d1] at hj; cases hj; exact c1
  · rw [d2] at hj; cases hj; exact c2
theorem Dfs.src {w : World} {A : Option Addr} {n c : Nat} {l : List De} (h : Dfs w (.slice A n c) l) : ∀ ad, A = some ad → ∀ j u, (dfC l)[j]? = some u → w.cell? (ad.add j) = some u := fun _ e => by subst e; exact h.cells
theorem row3 {w : World} {g : Nat} {x0 x1 x2 : Value} {t : TypeId} (h : w.heap[g]? = some (.cells #[x0, x1, x2] t (0, 0))) :
    w.cell? ⟨g, 0, none⟩ = some x0 ∧ w.cell? ⟨g, 1, none⟩ = some x1 ∧ w.cell? ⟨g, 2, none⟩ = some x2 ∧ w.frozen? ⟨g, 0, none⟩ = false ∧ w.frozen? ⟨g, 1, none⟩ = false ∧ w.frozen? ⟨g, 2, none⟩ = false := by
  simp [World.cell?, World.frozen?, h]
/-- A parameter's own cells, just laid; the world named. -/
theorem boxD1 (w : World) (x y z : Value) (t : TypeId) : ∃ W p, w.alloc (.cells #[x, y, z] t) = W ∧ w.heap.size = p ∧ W.cell? ⟨p, 0, none⟩ = some x ∧ W.cell? ⟨p, 1, none⟩ = some y ∧ W.cell? ⟨p, 2, none⟩ = some z ∧ Below w.heap.size w W :=
  ⟨_, _, rfl, rfl, cell_new rfl rfl, cell_new rfl rfl, cell_new rfl rfl, (Below.refl _ _).alloc (Nat.le_refl _) _⟩

/-! ### Two edits' sameness -/
theorem df_fields : Tryz.prog.underlying 56 = some (.struct (Tryz.prog.fieldsOf 56)) := by kernel_rfl
theorem df_held : Tryz.prog.stoodInHeld 56 = false := by kernel_rfl
theorem int_eq (d : Nat) (a b : Int) (w : World) : Sem.run Tryz.prog (Op.equalIn (d + 1) 3 (.int .i64 a) (.int .i64 b)) w = .ok (a == b) w := by
  unfold Op.equalIn
  simp
theorem eqin_nd2 (d : Nat) (p v p' v' : List UInt8) (w : World) : Sem.run Tryz.prog (Op.equalIn (d + 1 + 1) 26 (.agg #[.string (mkB p), .string (mkB v)]) (.agg #[.string (mkB p'), .string (mkB v')])) w = .ok (decide ((p, v) = (p', v'))) w := by
  have hs := fun a b w => str_eq d a b w
  have ha : ∀ w, Sem.run Tryz.prog (isAgg 9) w = .ok false w := by intro w; kernel_rfl
  have hz : ∀ w, Sem.run Tryz.prog (sizeOf 9) w = .ok 1 w := by intro w; kernel_rfl
  rw [run_equalIn_agg w (d + 1) 26 _ _ nd_fields nd_held]
  simp only [Program.fieldsOf, Tryz.underlying26]
  go_simp
  simp only [mkB_beq]
  by_cases h1 : p = p' <;> by_cases h2 : v = v' <;> simp [h1, h2]
theorem eqin_df (p v p' v' : List UInt8) (z z' : Int) (w : World) : Sem.run Tryz.prog (Op.equalIn 10000 56 (dfV ((p, v), z)) (dfV ((p', v'), z'))) w = .ok (decide (((p, v), z) = ((p', v'), z'))) w := by
  have hs := fun p v p' v' w => eqin_nd2 9997 p v p' v' w
  have hi := fun a b w => int_eq 9998 a b w
  have ha : ∀ w, Sem.run Tryz.prog (isAgg 3) w = .ok false w := by intro w; kernel_rfl
  have hz : ∀ w, Sem.run Tryz.prog (sizeOf 3) w = .ok 1 w := by intro w; kernel_rfl
  have hb : ∀ w, Sem.run Tryz.prog (isAgg 26) w = .ok true w := by intro w; kernel_rfl
  have hy : ∀ w, Sem.run Tryz.prog (sizeOf 26) w = .ok 2 w := by intro w; kernel_rfl
  rw [show (10000 : Nat) = 9999 + 1 from rfl, run_equalIn_agg w 9999 56 _ _ df_fields df_held]
  simp only [Program.fieldsOf, Tryz.underlying56]
  go_simp
  by_cases h1 : p = p' <;> by_cases h2 : v = v' <;> by_cases h3 : z = z' <;> simp [h1, h2, h3]
theorem eq_df (p v p' v' : List UInt8) (z z' : Int) (w : World) : Sem.run Tryz.prog (binOp .eql 56 (dfV ((p, v), z)) (dfV ((p', v'), z'))) w = .ok (.bool (decide (((p, v), z) = ((p', v'), z')))) w := by
  rw [run_eql_struct, eqin_df]; rfl
theorem neq_df (p v p' v' : List UInt8) (z z' : Int) (w : World) : Sem.run Tryz.prog (binOp .neq 56 (dfV ((p, v), z)) (dfV ((p', v'), z'))) w = .ok (.bool (!decide (((p, v), z) = ((p', v'), z')))) w := by
  rw [run_neq_struct, eqin_df]; rfl
theorem guard_df (op : BinOp) (a b : Operand) (xs ys : Array Value) (w : World) : Sem.run Tryz.prog (eqGuard op 56 a b (.agg xs) (.agg ys)) w = .ok () w := run_eqGuard_agg w op _ a b xs ys (by kernel_rfl)

/-! ### What comes in -/
def fitI (z : Int) : Prop := -9223372036854775808 ≤ z ∧ z ≤ 9223372036854775807
def fitD (e : De) : Prop := fitsN e.1 ∧ fitI e.2
section
variable {H : Type} {enc : TypeId × Value → H} {w : World} {base : Nat} {spare : Nat → Bool} {held : Bool}
theorem dfs_of {a : Addr} {len cap m : Nat} {E : Nat → De} (hl : len ≤ cap) (hm : cap ≤ maxLen) (hlm : len ≤ m) (hx : ∀ i, i < m → w.cell? (a.add (i * 3)) = some (.string (mkB (E i).1.1)) ∧ w.cell? (a.add (i * 3 + 1)) = some (.string (mkB (E i).1.2)) ∧ w.cell? (a.add (i * 3 + 2)) = some (.int .i64 (E i).2) ∧ fitD (E i)) :
    ∃ l, Dfs w (.slice (some a) len cap) l ∧ ∀ e ∈ l, fitD e := by
  refine ⟨(List.range len).map E, ?_, fun e he => ?_⟩
  · have e : ((List.range len).map E).length = len := by simp
    refine ⟨some a, cap, by rw [e], by rw [e]; exact hl, hm, (fun h => by cases h), fun hp => ?_⟩
    rw [e] at hp ⊢
    obtain ⟨b, off, spot⟩ := a
    have h0 := (hx 0 (by omega)).1
    have hspot : spot = none := by simpa [Addr.add] using World.cell?_spot h0
    subst hspot
    refine ⟨b, off, rfl, ?_, fun j hj => ?_⟩
    · have := World.block_lt_of_cell? w _ h0
      simpa [Addr.add] using this
    · obtain ⟨h1, h2, h3, _⟩ := hx j (by omega)
      have hd : ((List.range len).map E).getD j zD = E j := by simp [List.getD_eq_getElem?_getD, hj]
      rw [addr_add] at h1 h2 h3
      rw [← Nat.add_assoc] at h2 h3
      rw [hd, h1, h2, h3]
      exact ⟨rfl, rfl, rfl⟩
  · obtain ⟨i, hi, rfl⟩ := List.mem_map.1 he
    exact (hx i (by have := List.mem_range.1 hi; omega)).2.2.2
theorem fit_wf {z : Int} (h : (Lit.int .i64 z).wf = true) : fitI z := by
  have h1 : (decide (IntKind.i64.min ≤ z) && decide (z ≤ IntKind.i64.max)) = true := h
  rw [Bool.and_eq_true, decide_eq_true_eq, decide_eq_true_eq] at h1
  exact h1
theorem dfs_open {fuel : Nat} {a : Option Addr} {len cap : Nat} {x : DataW H × List MemPlace} (h : DataW.trod enc Tryz.prog w base spare held fuel 22 [.slice a len cap] = some x) :
    ∃ l, Dfs w (.slice a len cap) l ∧ ∀ e ∈ l, fitD e := by
  rcases Go.Deep.open_slice Tryz.underlying22 h with ⟨hcs, _⟩ | ⟨ad, l, c, m, n, D, Pl, hcs, hb, hl, hm, hmm, -, hx⟩
  · simp only [List.cons.injEq, Value.slice.injEq, and_true] at hcs
    obtain ⟨rfl, rfl, rfl⟩ := hcs
    exact ⟨[], dfs_none w, fun l hl => by cases hl⟩
  · simp only [List.cons.injEq, Value.slice.injEq, and_true] at hcs
    obtain ⟨rfl, rfl, rfl⟩ := hcs
    have ce : Tryz.prog.cellsOf 56 = 3 := by kernel_rfl
    have cn : Tryz.prog.cellsOf 26 = 2 := by kernel_rfl
    have ci : Tryz.prog.cellsOf 3 = 1 := by kernel_rfl
    have cs : Tryz.prog.cellsOf 9 = 1 := by kernel_rfl
    have each : ∀ i, i < m → ∃ e : De, w.cell? (ad.add (i * 3)) = some (.string (mkB e.1.1)) ∧ w.cell? (ad.add (i * 3 + 1)) = some (.string (mkB e.1.2)) ∧ w.cell? (ad.add (i * 3 + 2)) = some (.int .i64 e.2) ∧ fitD e := by
      intro i hi
      obtain ⟨cs', h1, h2⟩ := hx i hi
      rw [ce] at h1
      obtain ⟨_, hlen, hcell⟩ := World.cells?_some h1
      obtain ⟨xs, k, hk, hxy, _, hxl, hf⟩ := DataW.trod_struct Tryz.underlying56 h2
      match xs, hxl, cs', hlen with
      | [y0, y1], _, [v0, v1, v2], _ =>
        have g0 := hf 0 _ rfl
        have g1 := hf 1 _ rfl
        simp [ci, cn] at g0 g1
        obtain ⟨xs2, k2, hk2, hxy2, _, hxl2, hf2⟩ := DataW.trod_struct Tryz.underlying26 g0
        match xs2, hxl2 with
        | [z0, z1], _ =>
          have f0 := hf2 0 _ rfl
          have f1 := hf2 1 _ rfl
          simp [cs] at f0 f1
          obtain ⟨s0, q0, _, e0⟩ := DataW.trod_string Tryz.underlying9 f0
          obtain ⟨s1, q1, _, e1⟩ := DataW.trod_string Tryz.underlying9 f1
          obtain ⟨z2, q2, -, e2⟩ := DataW.trod_int Tryz.underlying3 g1
          simp only [List.cons.injEq, and_true] at q0 q1 q2
          subst q0 q1 q2
          rw [Lib.size_eq] at e0 e1
          have c0 := hcell 0 (by omega)
          have c1 := hcell 1 (by omega)
          have c2 := hcell 2 (by omega)
          rw [Go.Deep.add_add] at c0 c1 c2
          exact ⟨((s0.data.toList, s1.data.toList), z2), by simpa [mkB, Lib.mk_data] using c0, by simpa [mkB, Lib.mk_data] using c1, by simpa using c2, ⟨e0, e1⟩, fit_wf e2⟩
    obtain ⟨E, hE⟩ := Go.Deep.choose_lt each
    exact dfs_of (m := m) (E := E) hl hm (by rw [hmm]; split <;> omega) hE
end
end Go.Proofs.YtglhjdbnpdoinaaGreat

namespace Go.Proofs.YtglhjdbnpdoinaaGreat
open Go.RowKit Go.Maps
open Go.ChangeMaps (setBlock heap_setBlock_same heap_setBlock_other)
open Go.WideMaps (KeyLaw)
set_option linter.unusedVariables false
set_option maxRecDepth 100000

theorem node_law : KeyLaw Tryz.prog 26 := ⟨fun h => by obtain ⟨n, _, rfl, _⟩ := key_inv h; exact ⟨_, rfl⟩, node_keyed.inj, node_keyed.check, node_keyed.find, node_keyed.stays⟩
/-- Block b is a map of at most nn entries: its keys are the nodes of K, and f tells the number of each (of all others it is 0). -/
structure CMap (w : World) (b nn : Nat) (K : List Nd) (f : Nd → Int) : Prop where
  fits : ∀ n ∈ K, fitsN n
  zero : ∀ n, n ∉ K → f n = 0
  ex : ∃ D : DataW Unit, w.ownsMap Tryz.prog 26 (plainElem Tryz.prog 3) b nn D ∧ ∀ n, fitsN n → has D (litN n) = hasN K n ∧ (hasN K n = true → D.atKey (litN n) (.lit (.int .i64 0)) = .lit (.int .i64 (f n)))
theorem CMap.made (w : World) : CMap (w.alloc (.map #[] 0)) w.heap.size 0 [] fun _ => 0 :=
  ⟨(fun n hn => by cases hn), (fun _ _ => rfl), _, World.ownsMap_made w _ _ _, fun n _ => ⟨by simp [has, hasN], fun h => by simp [hasN] at h⟩⟩
theorem CMap.kept {w w' : World} {b nn : Nat} {K : List Nd} {f : Nd → Int} {row : Option Nat} (h : CMap w b nn K f) (hg : w.grownBy w' row) (hne : some b ≠ row) : CMap w' b nn K f := by
  obtain ⟨hf, hz, D, ho, hD⟩ := h
  exact ⟨hf, hz, D, ho.kept hg hne, hD⟩
theorem CMap.alloc {w : World} {b nn : Nat} {K : List Nd} {f : Nd → Int} (h : CMap w b nn K f) (o : Obj) : CMap (w.alloc o) b nn K f := h.kept (World.grownBy_alloc w o none) (by simp)
theorem CMap.lt {w : World} {b nn : Nat} {K : List Nd} {f : Nd → Int} (h : CMap w b nn K f) : b < w.heap.size := by obtain ⟨_, _, D, ho, _⟩ := h; exact ho.lt
theorem CMap.near {w w' : World} {b nn : Nat} {K : List Nd} {f : Nd → Int} (h : CMap w b nn K f) (hb : w'.heap[b]? = w.heap[b]?) : CMap w' b nn K f := by
  obtain ⟨hf, hz, D, ⟨es, clock, he, rest⟩, hD⟩ := h
  exact ⟨hf, hz, D, ⟨es, clock, hb.trans he, rest⟩, hD⟩
theorem CMap.below {w w' : World} {b nn : Nat} {K : List Nd} {f : Nd → Int} (h : CMap w b nn K f) (hb : Below w.heap.size w w') : CMap w' b nn K f := h.near (hb.block b h.lt)
theorem CMap.congr {w : World} {b nn : Nat} {K : List Nd} {f g : Nd → Int} (h : CMap w b nn K f) (e : ∀ n, f n = g n) : CMap w b nn K g := by
  have : f = g := funext e
  rw [← this]; exact h
theorem CMap.mono {w : World} {b nn m : Nat} {K : List Nd} {f : Nd → Int} (h : CMap w b nn K f) (e : nn ≤ m) : CMap w b m K f := by
  obtain ⟨hf, hz, D, ho, hD⟩ := h
  exact ⟨hf, hz, D, ho.mono e, hD⟩
/-- A map from nodes to numbers, made. -/
theorem make_cmap (w : World) : (Instr.makeMap 84 none).run Tryz.prog w = .ok (.map (some w.heap.size)) (w.alloc (.map #[] 0)) := by
  simp [Instr.makeMap, Result.andThen]
theorem look_cmap {w : World} {b nn : Nat} {K : List Nd} {f : Nd → Int} {p v : List UInt8} (h : CMap w b nn K f) (hf : fitsN (p, v)) :
    Sem.run Tryz.prog (Instr.lookup 84 (.map (some b)) (.agg #[.string (mkB p), .string (mkB v)]) false) w = .ok (.int .i64 (f (p, v))) w := by
  obtain ⟨_, hz, D, hown, hD⟩ := h
  obtain ⟨h1, h2⟩ := hD _ hf
  obtain ⟨c, hr, hat, _⟩ := hown.lookup_int node_keyed Tryz.underlying84 Tryz.underlying3 (Tryz.zeroValue3 w) (key_n (p, v) hf.1 hf.2)
  have he : c = f (p, v) := by
    cases O : hasN K (p, v)
    · rw [O] at h1
      rw [atKey_of_not_has h1] at hat
      have : (0 : Int) = c := by simpa using hat
      rw [← this, hz _ (hasN_not.1 O)]
    · rw [h2 O] at hat
      have : f (p, v) = c := by simpa using hat
      exact this.symm
  subst he
  exact hr
/-- A store, as the map reads then. -/
theorem cmap_put {D : DataW Unit} {K : List Nd} {f : Nd → Int} {n : Nd} {z : Int} (hi : IsMap D) (hn : fitsN n)
    (hD : ∀ n, fitsN n → has D (litN n) = hasN K n ∧ (hasN K n = true → D.atKey (litN n) (.lit (.int .i64 0)) = .lit (.int .i64 (f n)))) :
    ∀ m, fitsN m → has (D.put (litN n) (.lit (.int .i64 z))) (litN m) = hasN (K ++ [n]) m ∧
      (hasN (K ++ [n]) m = true → (D.put (litN n) (.lit (.int .i64 z))).atKey (litN m) (.lit (.int .i64 0)) = .lit (.int .i64 (if m = n then z else f m))) := by
  have hk : WideAt.IsKeyLit (litN n) := node_keyed.key (key_n n hn.1 hn.2)
  intro m hm
  by_cases e : m = n
  · subst e
    have h1 : hasN (K ++ [m]) m = true := hasN_iff.2 (by simp)
    rw [has_put_same hi hk, h1, atKey_put_same hi hk, if_pos rfl]
    exact ⟨rfl, fun _ => rfl⟩
  · have hne : litN m ≠ litN n := fun h => e (litN_inj hm hn h)
    have h1 : hasN (K ++ [n]) m = hasN K m := by
      rw [Bool.eq_iff_iff, hasN_iff, hasN_iff]; simp [e]
    rw [has_put_other hne, h1, atKey_put_other hne, if_neg e]
    exact hD m hm
theorem CMap.stored {w w' : World} {b nn : Nat} {K : List Nd} {f : Nd → Int} {n : Nd} {z : Int} (h : CMap w b nn K f) (hn : fitsN n) (hz : fitI z) (hnn : nn < maxLen)
    (hr : (Instr.mapUpdate 84 (.map (some b)) (ndV n) (.int .i64 z)).run Tryz.prog w = .ok () w') : CMap w' b (nn + 1) (K ++ [n]) (fun m => if m = n then z else f m) ∧ w.grownBy w' (some b) := by
  obtain ⟨hf, h0, D, hown, hD⟩ := h
  have hwf : (Lit.int .i64 z).wf = true := by
    show (decide (IntKind.i64.min ≤ z) && decide (z ≤ IntKind.i64.max)) = true
    rw [Bool.and_eq_true, decide_eq_true_eq, decide_eq_true_eq]
    exact hz
  obtain ⟨w2, hrun, hown2, hturn⟩ := hown.store node_keyed Tryz.underlying84 hnn (key_n n hn.1 hn.2) (plainElem_int Tryz.underlying3 hwf)
  rw [hr] at hrun
  have e : w' = w2 := by injection hrun
  subst e
  refine ⟨⟨fits_step hf hn, fun m hm => ?_, _, hown2, cmap_put hown.isMap hn hD⟩, hturn.grown⟩
  have h1 : m ∉ K ∧ m ≠ n := by
    rw [List.mem_append, not_or] at hm
    exact ⟨hm.1, fun e => hm.2 (by rw [e]; simp)⟩
  rw [if_neg h1.2, h0 m h1.1]
theorem block_self {w : World} {b : Nat} {o : Obj} (h : w.heap[b]? = some o) : setBlock w b o = w := by
  have e : w.heap.setIfInBounds b o = w.heap := by
    apply Array.ext_getElem?
    intro i
    by_cases hi : i = b
    · subst hi
      rw [Array.getElem?_setIfInBounds_self_of_lt (Array.getElem?_eq_some_iff.1 h).1, h]
    · rw [Array.getElem?_setIfInBounds_ne (Ne.symm hi)]
  unfold setBlock
  rw [e]
theorem hasN_app_self (K : List Nd) {n : Nd} (h : n ∈ K) (m : Nd) : hasN (K ++ [n]) m = hasN K m := by
  rw [Bool.eq_iff_iff, hasN_iff, hasN_iff, List.mem_append]
  exact ⟨fun k => k.elim id fun k => by rw [List.mem_singleton.1 k]; exact h, .inl⟩
/-- 'm[n] op= x': the entry first (n has one from then on), then what is stored. -/
theorem entry_cmap {w : World} {b nn : Nat} {K : List Nd} {f : Nd → Int} {p v : List UInt8} (h : CMap w b nn K f) (hf : fitsN (p, v)) (hnn : nn < maxLen) :
    ∃ (st : Nat) (w1 : World), (Instr.mapEntry 84 (.map (some b)) (.agg #[.string (mkB p), .string (mkB v)])).run Tryz.prog w = .ok (.tuple #[.int .i64 (f (p, v)), .int .i64 (st : Int)]) w1 ∧
      CMap w1 b (nn + 1) (K ++ [(p, v)]) f ∧ w.grownBy w1 (some b) ∧
      ∀ z, fitI z → ∃ w2, (Instr.entryStore 84 (.map (some b)) (.int .i64 (st : Int)) (.int .i64 z)).run Tryz.prog w1 = .ok () w2 ∧ CMap w2 b (nn + 1) (K ++ [(p, v)]) (fun m => if m = (p, v) then z else f m) ∧ w.grownBy w2 (some b) := by
  have hz0 : ∀ u : World, (zeroValue 3).run Tryz.prog u = .ok (.int .i64 0) u := Tryz.zeroValue3
  have hlook := look_cmap h hf
  have hkey : keyOf Tryz.prog 26 (.agg #[.string (mkB p), .string (mkB v)]) = some (litN (p, v)) := key_n (p, v) hf.1 hf.2
  have ht := Tryz.underlying84
  have hC := h
  obtain ⟨_, h0, D, hown, hD⟩ := h
  obtain ⟨es, clock, hb, F, hs, rfl⟩ := hown
  obtain ⟨v0, st, es1, clock1, hE, -, hS⟩ := WideElems.entry_then_store node_law ht hz0 hb F hkey
  have hb1 : (setBlock w b (.map es1 clock1)).heap[b]? = some (.map es1 clock1) := heap_setBlock_same hb _
  have hfst : ∀ z, fitI z → ∃ w2, (Instr.entryStore 84 (.map (some b)) (.int .i64 (st : Int)) (.int .i64 z)).run Tryz.prog (setBlock w b (.map es1 clock1)) = .ok () w2 ∧ CMap w2 b (nn + 1) (K ++ [(p, v)]) (fun m => if m = (p, v) then z else f m) ∧ w.grownBy w2 (some b) := by
    intro z hz
    obtain ⟨es', clock', hr1, hr2⟩ := hS _ (.int .i64 z) hb1
    have e : setBlock (setBlock w b (.map es1 clock1)) b (.map es' clock') = setBlock w b (.map es' clock') := by simp [setBlock]
    rw [e] at hr1
    obtain ⟨k1, k2⟩ := hC.stored (n := (p, v)) hf hz hnn hr2
    exact ⟨_, hr1, k1, k2⟩
  have hgr : w.grownBy (setBlock w b (.map es1 clock1)) (some b) := ⟨rfl, rfl, rfl, by simp [setBlock], fun i _ hi => heap_setBlock_other hb _ (fun e => hi (by rw [e]))⟩
  rcases node_keyed.find w hkey es.toList F.keys with ⟨f1, f2⟩ | ⟨j, e0, f1, f2, f3⟩
  · have hrun : (Instr.mapEntry 84 (.map (some b)) (.agg #[.string (mkB p), .string (mkB v)])).run Tryz.prog w = .ok (.tuple #[.int .i64 0, .int .i64 (clock : Int)]) (setBlock w b (.map (es.push ⟨.agg #[.string (mkB p), .string (mkB v)], .int .i64 0, clock⟩) (clock + 1))) := by
      simp [Instr.mapEntry, run_underlying ht, MapKept.run_getObj_map hb, node_keyed.check w false hkey, f1, hz0, MapKept.run_setObj_map _ hb, Result.andThen, setBlock, goInt]
    have hup : (Instr.mapUpdate 84 (.map (some b)) (ndV (p, v)) (.int .i64 0)).run Tryz.prog w = .ok () (setBlock w b (.map (es.push ⟨.agg #[.string (mkB p), .string (mkB v)], .int .i64 0, clock⟩) (clock + 1))) := by
      have : ndV (p, v) = .agg #[.string (mkB p), .string (mkB v)] := rfl
      rw [this]
      simp [Instr.mapUpdate, run_underlying ht, MapKept.run_getObj_map hb, node_keyed.check w false hkey, f1, MapKept.run_setObj_map _ hb, Result.andThen, setBlock]
    have hl2 : (Instr.lookup 84 (.map (some b)) (.agg #[.string (mkB p), .string (mkB v)]) false).run Tryz.prog w = .ok (.int .i64 0) w := by
      simp [Instr.lookup, run_underlying ht, MapKept.run_getObj_map hb, node_keyed.check w _ hkey, f1, hz0, Result.andThen]
    have ef : f (p, v) = 0 := by
      have h2 := hlook.symm.trans hl2
      injection h2 with h3
      injection h3
    obtain ⟨k1, _⟩ := hC.stored (n := (p, v)) hf (show fitI 0 by unfold fitI; omega) hnn hup
    rw [hrun] at hE
    injection hE with e1 e2
    injection e1 with e1
    have e3 : ((clock : Nat) : Int) = (st : Int) := by
      have h4 : #[Value.int .i64 0, Value.int .i64 (clock : Int)] = #[v0, goInt st] := e1
      have h5 := congrArg (fun x : Array Value => x[1]?) h4
      simpa [goInt] using h5
    rw [e2] at hrun k1
    refine ⟨st, _, by rw [ef, ← e3]; exact hrun, k1.congr fun m => ?_, hgr, hfst⟩
    by_cases hm : m = (p, v)
    · rw [if_pos hm, hm, ef]
    · rw [if_neg hm]
  · have hj : es[j]? = some e0 := by simpa using f2
    have hsame : es.modify j (fun e => { e with key := (.agg #[.string (mkB p), .string (mkB v)]) }) = es := by
      apply Array.ext'
      rw [Array.toList_modify, ChangeMaps.modify_eq_set _ _ _ _ f2]
      have : ({ e0 with key := (.agg #[.string (mkB p), .string (mkB v)]) } : MapEntry) = e0 := by rw [← f3]
      rw [this]
      exact WideElems.set_self _ _ _ f2
    have hrun : (Instr.mapEntry 84 (.map (some b)) (.agg #[.string (mkB p), .string (mkB v)])).run Tryz.prog w = .ok (.tuple #[e0.val, .int .i64 (e0.born : Int)]) (setBlock w b (.map es clock)) := by
      simp [Instr.mapEntry, run_underlying ht, MapKept.run_getObj_map hb, node_keyed.check w false hkey, f1, hj, f3, node_keyed.stays w hkey, hsame, MapKept.run_setObj_map _ hb, Result.andThen, setBlock, goInt]
    have hl2 : (Instr.lookup 84 (.map (some b)) (.agg #[.string (mkB p), .string (mkB v)]) false).run Tryz.prog w = .ok e0.val w := by
      simp [Instr.lookup, run_underlying ht, MapKept.run_getObj_map hb, node_keyed.check w _ hkey, f1, Result.andThen]
    have ef : e0.val = .int .i64 (f (p, v)) := by
      have h2 := hl2.symm.trans hlook
      injection h2
    have hin : (p, v) ∈ K := by
      rw [← hasN_iff, ← (hD _ hf).1]
      rcases Maps.fit_look false node_keyed ht (hz0 w) hb F hkey with ⟨_, g2, _⟩ | ⟨e1, y, _, _, _, _, g6, _⟩
      · exact absurd f3 (g2 e0 (List.mem_of_getElem? f2))
      · exact Maps.has_true_of_atKey g6
    rw [hrun] at hE
    injection hE with e1 e2
    injection e1 with e1
    have e3 : ((e0.born : Nat) : Int) = (st : Int) := by
      have h4 : #[e0.val, Value.int .i64 (e0.born : Int)] = #[v0, goInt st] := e1
      have h5 := congrArg (fun x : Array Value => x[1]?) h4
      simpa [goInt] using h5
    have hw : setBlock w b (.map es1 clock1) = w := by rw [← e2]; exact block_self hb
    rw [e2] at hrun
    refine ⟨st, _, by rw [← ef, ← e3]; exact hrun, ?_, hgr, hfst⟩
    rw [hw]
    obtain ⟨c1, c2, D', c3, c4⟩ := hC
    refine ⟨fits_step c1 hf, fun m hm => c2 m fun k => hm (List.mem_append_left _ k), D', c3.mono (Nat.le_succ _), fun m hm => ?_⟩
    rw [hasN_app_self K hin]
    exact c4 m hm
end Go.Proofs.YtglhjdbnpdoinaaGreat

namespace Go.Proofs.YtglhjdbnpdoinaaGreat
open Go.RowKit Go.Maps Go.Sort Go.Shelf
set_option linter.unusedVariables false
set_option maxRecDepth 100000

def mkKey (n : Nd) : Value := .agg #[.string (mkB n.1), .string (mkB n.2)]
def mkInt (c : Int) : Value := .int .i64 c
theorem inv_key (key : Value) (kl : Lit) (h : keyOf Tryz.prog 26 key = some kl) : ∃ x : Nd, key = mkKey x := by
  obtain ⟨n, rfl, _⟩ := key_inv h; exact ⟨n, rfl⟩
theorem inv_int (v : Value) (y : DataW Unit × List MemPlace) (h : plainElem Tryz.prog 3 v = some y) : ∃ c, v = mkInt c := by
  obtain ⟨c, rfl, _⟩ := plainElem_int_inv Tryz.underlying3 h; exact ⟨c, rfl⟩
theorem MetN.all2 {D : DataW Unit} {left : Lit → Bool} {ss K : List Nd} (h : MetN D left ss) (hl : ∀ kl, left kl = false) (hf : ∀ n ∈ K, fitsN n) (hD : ∀ n, fitsN n → has D (litN n) = hasN K n) : ss.Nodup ∧ ∀ n, n ∈ ss ↔ n ∈ K := by
  refine ⟨h.1, fun n => ⟨fun hn => ?_, fun hn => ?_⟩⟩
  · have hfn := h.2.1 n hn
    have := ((h.2.2 n hfn).1 hn).1
    rw [hD n hfn, hasN_iff] at this
    exact this
  · have hfn := hf n hn
    exact (h.2.2 n hfn).2 ⟨by rw [hD n hfn, hasN_iff]; exact hn, hl _⟩

set_option maxHeartbeats 1600000 in
theorem keys1_in (F : Fence) (n : Nat) (h10 : F.fn 85) (hro : F.round = none) (hn : 1 ≤ n) (l Bm b nn : Nat) (D0 : DataW Unit) (J Jx : List Nd → World → Prop)
    (hY : ∀ pre x W, J pre W → pre.length < Maps.size D0 → YieldAt F (n - 1) Tryz.prog l #[mkKey x] W fun e W' =>
      (e = .returned (.bool true) ∧ J (pre ++ [x]) W' ∧ KeepsWalks W W') ∨ (e = .returned (.bool false) ∧ Jx (pre ++ [x]) W'))
    (W : World) (hJ : AbidesFrom W.heap.size J) (hm : W.cell? ⟨Bm, 0, none⟩ = some (.map (some b))) (hown : W.ownsMap Tryz.prog 26 (plainElem Tryz.prog 3) b nn D0) (h0 : J [] W) :
    CallsIn F n Tryz.prog 85 #[.func (.yield l) #[] #[], .pointer (some ⟨Bm, 0, none⟩)] W fun e W' => (∃ v, e = .returned v) ∧
      ((∃ ss : List Nd, (∃ left : Lit → Bool, MetN D0 left ss ∧ ∀ kl, left kl = false) ∧ J ss W') ∨ (∃ pre : List Nd, True ∧ Jx pre W')) := by
  refine callsIn_of_wp Tryz.func85 rfl h10 ?_ hro
  simp only [Tryz.ntmps85, List.size_toArray, List.length_cons, List.length_nil, Nat.reduceAdd, Nat.reduceSub, Array.replicate_succ, Array.replicate_zero, List.push_toArray, List.append_toArray, List.nil_append, List.cons_append]
  gi_wp2_with (first
    | (gi_at_range; refine wpListIn_range_own _ rfl _ 84 rfl 26 3 node_keyed Tryz.underlying84 _ b nn _ rfl hown ?_; intro w0 hrg0 hg0 hs0)
    | gi_in)
  go_frame
  gi_loopw [3] (fun _ wr => ∃ (left : Lit → Bool) (cnt : Nat) (ss : List Nd), wr.ranges Tryz.prog 26 (plainElem Tryz.prog 3) b W.heap.size nn D0 left cnt ∧ ss.length + cnt ≤ Maps.size D0 ∧ MetN D0 left ss ∧ J ss wr)
    (fun _ wr => wr.rangeLeft b W.heap.size)
  case atStart =>
    exact ⟨_, _, [], hrg0, by simp, MetN.start D0, hJ [] W w0 none h0 hg0 (fun r e => by cases e)⟩
  case round =>
    obtain ⟨left, cnt, ss, hrg, hcs, hC, hJs⟩ := hrel
    gi_wp2_with (first
      | (gi_at_next; refine wpListIn_next_ranges _ rfl _ rfl 26 node_keyed (plainElem Tryz.prog 3) mkKey mkInt inv_key inv_int b W.heap.size nn _ _ _ rfl hrg ?_ ?_)
      | gi_in)
    · intro hc0 hl0
      gi_wp2
      go_end0
      exact ⟨⟨_, rfl⟩, .inl ⟨ss, ⟨left, hC, hl0⟩, hJs⟩⟩
    · intro x1 x2 c kl yd yp w2 cnt2 hkey hlk hv hat hrg2 hlt hg2 hs2 hen
      obtain ⟨x', ex, rfl, hf1, hf2⟩ := key_inv hkey
      obtain rfl : (x1, x2) = x' := ndV_inj ex
      have hJ2 : J ss w2 := hJ ss wr w2 (some W.heap.size) hJs hg2 (fun r e => by cases e; exact ⟨Nat.le_refl _, hrg.iter_walk⟩)
      have hJ3 : J ss (w2.alloc (.cells #[.string (mkB x1), .string (mkB x2)] 26)) := hJ ss w2 _ none hJ2 (World.grownBy_alloc w2 _ none) (fun r e => by cases e)
      obtain ⟨fn, tmps, assign, body, hy, hR⟩ := hY ss (x1, x2) _ hJ3 (by omega)
      have hrg3 := hrg2.alloc (.cells #[.string (mkB x1), .string (mkB x2)] 26)
      have hC2 := hC.step (n := (x1, x2)) ⟨hf1, hf2⟩ hlk hat
      simp only [mkKey, mkInt] at hen hy ⊢
      clear hs2 hkey hv
      gi_wp2
      refine hR.mono ?_
      rintro e W3 (⟨rfl, hJ4, hk3⟩ | ⟨rfl, hJx3⟩)
      · gi_wp2
        have hrg4 := hrg3.of_walks hk3
        go_roundw
        case rel => exact ⟨_, cnt2, ss ++ [(x1, x2)], hrg4, by simp; omega, hC2, hJ4⟩
        case measure => rw [hrg4.left_eq, hrg.left_eq]; exact hlt
      · gi_wp2
        refine bodyPost_ret (results_none rfl _ _ _) rfl ?_
        exact ⟨⟨_, rfl⟩, .inr ⟨ss ++ [(x1, x2)], trivial, hJx3⟩⟩

/-- maps.Keys hands back a value that gives all keys, each once. -/
theorem keys_stops (F : Fence) (n : Nat) (h10 : F.fn 85) (hro : F.round = none) (hn : 1 ≤ n) (Bm b nn : Nat) (K : List Nd) (f : Nd → Int) (w : World) (hBm : Bm < w.heap.size)
    (hm : w.cell? ⟨Bm, 0, none⟩ = some (.map (some b))) (hown : CMap w b nn K f) :
    SeqStopsK F n Tryz.prog 85 #[.pointer (some ⟨Bm, 0, none⟩)] (fun x : Nd => #[mkKey x]) KeepsWalks (fun ss => ss.Nodup ∧ ∀ n, n ∈ ss ↔ n ∈ K) (fun _ => True) nn w := fun l J Jx W hW hJ _ hY h0 => by
  obtain ⟨hf, _, D, ho, hD⟩ := hown.below hW
  have hsz := ho.size_le
  refine (keys1_in F n h10 hro hn l Bm b nn D J Jx (fun pre x W1 hj hl => hY pre x W1 hj (by omega)) W hJ ((hW.cell (p := ⟨Bm, 0, none⟩) hBm).trans hm) ho h0).mono ?_
  rintro e W' ⟨hv, (⟨ss, ⟨left, hM, hl⟩, hj⟩ | ⟨pre, _, hj⟩)⟩
  · exact ⟨hv, .inl ⟨ss, hM.all2 hl hf fun n k => (hD n k).1, hj⟩⟩
  · exact ⟨hv, .inr ⟨pre, trivial, hj⟩⟩

set_option maxHeartbeats 400000 in
theorem keys_in (F : Fence) (n : Nat) (h7 : F.fn 73) (hro : F.round = none) (mb : Option Nat) (w : World) :
    CallsIn F n Tryz.prog 73 #[.map mb] w fun e w' => e = .returned (.func (.func 85) #[] #[.pointer (some ⟨w.heap.size, 0, none⟩)]) ∧ w' = w.alloc (.cells #[.map mb] 84) := by
  refine callsIn_of_wp Tryz.func73 rfl h7 ?_ hro
  simp only [Tryz.ntmps73, List.size_toArray, List.length_cons, List.length_nil, Nat.reduceAdd, Nat.reduceSub, Array.replicate_succ, Array.replicate_zero, List.push_toArray, List.append_toArray, List.nil_append, List.cons_append]
  gi_wp2
  go_ret
  exact ⟨rfl, rfl⟩

theorem cells_new_l (W : World) (xs : List Value) (t : TypeId) : ∀ (j : Nat) (u : Value), xs[j]? = some u → (W.alloc (.cells xs.toArray t)).cell? ((⟨W.heap.size, 0, none⟩ : Addr).add j) = some u := by
  intro j u hj
  have hadd : (⟨W.heap.size, 0, none⟩ : Addr).add j = ⟨W.heap.size, j, none⟩ := by unfold Addr.add; split <;> simp_all
  rw [hadd]
  have hh : (W.alloc (.cells xs.toArray t)).heap[W.heap.size]? = some (.cells xs.toArray t) := World.alloc_heap_new _ _
  unfold World.cell?
  rw [hh]
  simpa using hj
/-- The loop variable's own cells. -/
def AxN (w : World) (g : Nat) (lb : Array Value) (x : Nd) (a' : Act) (W : World) : Prop :=
  ∃ Bx, w.heap.size + 1 ≤ Bx ∧ W.heap[Bx]? = some (.cells #[.string (mkB x.1), .string (mkB x.2)] 26 (0, 0)) ∧
    a' = { tmps := #[.slice none 0 0, .func (.func g) #[] lb, .pointer (some ⟨w.heap.size, 0, none⟩), undef, .slice none 0 0, .pointer (some ⟨Bx, 0, none⟩), .func (.func g) #[] lb, .agg #[.string (mkB x.1), .string (mkB x.2)], undef, undef, undef, undef, undef], defers := [] }
theorem axn_own (w : World) (g : Nat) (lb : Array Value) (x : Nd) (a' : Act) (B : Nat) : OwnFrom B (fun (_ : Unit) W => AxN w g lb x a' W) := by
  rintro _ X Y row ⟨Bx, h1, h2, h3⟩ hg hr
  exact ⟨Bx, h1, (grownBy_keeps_cells hg (fun r e => (hr r e).2) h2 rfl).trans h2, h3⟩

attribute [local go_sem] Oper.semAt_some
set_option maxHeartbeats 4000000 in
/-- slices.AppendSeq(nil, seq): what came, in its order, in memory of the call's own. -/
theorem appendSeq_in (F : Fence) (n : Nat) (h11 : F.fn 96) (hro : F.round = none) (hn : 2 ≤ n) (g : Nat) (lb : Array Value) (hFg : F.fn g) (eg : ∀ args w, (callFunc g args).run Tryz.prog w = .ok (.enter g args) w)
    (S : List Nd → Prop) (N : Nat) (hN : N ≤ maxLen) (hNb : N * 32 ≤ 140737488355328) (w : World) (hseq : SeqStopsK F (n - 1) Tryz.prog g lb (fun x : Nd => #[mkKey x]) KeepsWalks S (fun _ => True) N w) :
    CallsIn F n Tryz.prog 96 #[.slice none 0 0, .func (.func g) #[] lb] w fun e w' => ∃ (v : Value) (ss : List Nd), e = .returned v ∧ S ss ∧ w'.ownsRow w.heap.size 26 2 v ss.length (ndsC ss) ∧ (v = .slice none 0 0 ↔ ss = []) ∧ Below w.heap.size w w' := by
  have h1 : 1 ≤ n := by omega
  obtain ⟨i0, hi, hz0, hz1, hz2⟩ := info_parts Tryz.info_node
  refine callsIn_of_wp_marks Tryz.func96 rfl h11 ?_ hro
  simp only [Tryz.ntmps96, List.size_toArray, List.length_cons, List.length_nil, Nat.reduceAdd, Nat.reduceSub, Array.replicate_succ, Array.replicate_zero, List.push_toArray, List.append_toArray, List.nil_append, List.cons_append]
  gi_wp2
  have bO := Boxed.new w 27 (.slice none 0 0)
  have hB0 : Below w.heap.size w (w.alloc (.cells #[.slice none 0 0] 27)) := (Below.refl _ w).alloc (Nat.le_refl _) _
  have hs0 : (w.alloc (.cells #[.slice none 0 0] 27)).heap.size = w.heap.size + 1 := by simp
  obtain ⟨W0, hW0⟩ : ∃ W0, w.alloc (.cells #[.slice none 0 0] 27) = W0 := ⟨_, rfl⟩
  rw [hW0] at bO hB0 hs0 ⊢
  clear hW0
  refine wpIn_rangeFunc_ownH hro h1 (gf := g) (lb := lb) rfl hFg eg hseq walksK_t walksK_b hB0 (fun _ => rfl)
    (fun pre W => (∃ v, Boxed W w.heap.size 27 v ∧ W.ownsRow w.heap.size 26 2 v pre.length (ndsC pre) ∧ (v = .slice none 0 0 ↔ pre = [])) ∧ Below w.heap.size w W)
    (fun _ _ _ => False)
    (OwnFrom.and (Own.from (holdsRow_own w.heap.size w.heap.size 27 26 2 (fun pre => pre.length) (fun pre => ndsC pre) (fun pre v => v = .slice none 0 0 ↔ pre = [])) _) (ownFrom_below (Nat.le_refl _) (by omega)))
    (fun _ _ _ _ _ hs _ _ => hs)
    ⟨⟨_, bO, World.ownsRow_nil _ _ _ _, by simp⟩, hB0⟩
    (AxN w g lb) (fun x a' => axn_own w g lb x a' _) ?assign ?body ?done ?stop
  case assign =>
    rintro l pre x W K ⟨⟨v, hv, hrow, hnil⟩, hB⟩ hK
    simp only [mkKey]
    gi_wp2
    refine hK _ _ ((KeepsOthers.alloc _ _).from _) (KeepsWalks.alloc _ _) ⟨⟨v, hv.alloc _, hrow.alloc _, hnil⟩, hB.alloc hB.size _⟩ ⟨W.heap.size, ?_, World.alloc_heap_new W _, rfl⟩
    have := hv.lt; omega
  case body =>
    rintro l pre x a' W hl ⟨r, hr⟩ ⟨⟨v, hv, hrow, hnil⟩, hB⟩ ⟨Bx, hBx, bX, rfl⟩ hlt
    have hc := hv.cell
    have c0 : W.cell? ⟨Bx, 0, none⟩ = some (.string (mkB x.1)) := by simp [World.cell?, bX]
    have c1 : W.cell? ⟨Bx, 1, none⟩ = some (.string (mkB x.2)) := by simp [World.cell?, bX]
    gi_wp2_with (gi_at_builtin; refine wpListIn_append_own _ rfl _ _ 27 rfl w.heap.size 26 i0 (.agg #[.string ByteArray.empty, .string ByteArray.empty]) 2 32 Tryz.underlying27 hi hz0 hz1 hz2 rfl (by decide) _ _ _ rfl (hrow.alloc _) ⟨W.heap.size, 0, none⟩ 1 1 [.string (mkB x.1), .string (mkB x.2)] rfl rfl (cells_new_l _ _ _) (by simp [Value.oneCell']) (by omega) (by omega) (by have := hB.size; simp; omega) ?_; intro v' w1 hown' hgrow _; obtain ⟨g', cap', rfl⟩ := ownsRow_succ hown'; obtain ⟨hv1, hv2, hr2, hk2, hb2⟩ := hv.appended (by decide) hrow hB.size (Nat.le_refl _) hown' hgrow; have hc1 := hv1.cell; have hf1 := hv1.frozen)
    exact ⟨hk2.from _, hk2.walks, ⟨_, hv2, by rw [ndsC_snoc]; simpa using hr2, by simp⟩, hB.trans hb2⟩
  case done =>
    rintro D ys W hD hS ⟨⟨v, hv, hrow, hnil⟩, hB⟩ hK
    have hc := hv.cell
    gi_wp2
    refine ⟨by simp, .inl ⟨_, _, rfl, run_takeDeferred hK, ?_⟩⟩
    exact ⟨_, results_tmp rfl _ _ _, v, ys, rfl, hS, ownsRow_putObj hrow _ hK rfl, hnil, hB.trans (belowK_b (w := w) (Nat.le_refl _) W D _ _ (by omega) hK rfl rfl)⟩
  case stop =>
    rintro D c pre W _ _ h _
    exact h.elim

set_option maxHeartbeats 1000000 in
theorem collect_in (F : Fence) (n : Nat) (h8 : F.fn 83) (h11 : F.fn 96) (hro : F.round = none) (hn : 3 ≤ n) (g : Nat) (lb : Array Value) (hFg : F.fn g) (eg : ∀ args w, (callFunc g args).run Tryz.prog w = .ok (.enter g args) w)
    (S : List Nd → Prop) (N : Nat) (hN : N ≤ maxLen) (hNb : N * 32 ≤ 140737488355328) (w : World) (hseq : SeqStopsK F (n - 1 - 1) Tryz.prog g lb (fun x : Nd => #[mkKey x]) KeepsWalks S (fun _ => True) N w) :
    CallsIn F n Tryz.prog 83 #[.func (.func g) #[] lb] w fun e w' => ∃ (v : Value) (ss : List Nd), e = .returned v ∧ S ss ∧ w'.ownsRow w.heap.size 26 2 v ss.length (ndsC ss) ∧ (v = .slice none 0 0 ↔ ss = []) ∧ Below w.heap.size w w' := by
  have h1 : 1 ≤ n := by omega
  refine callsIn_of_wp Tryz.func83 rfl h8 ?_ hro
  simp only [Tryz.ntmps83, List.size_toArray, List.length_cons, List.length_nil, Nat.reduceAdd, Nat.reduceSub, Array.replicate_succ, Array.replicate_zero, List.push_toArray, List.append_toArray, List.nil_append, List.cons_append]
  gi_wp2_with (gi_at_call 96; refine (appendSeq_in F (n - 1) h11 hro (by omega) g lb hFg eg S N hN hNb _ hseq).mono ?_; rintro e w' ⟨v, ss, rfl, hS, hrow, hnil, hb⟩)
  go_ret
  exact ⟨v, ss, rfl, hS, hrow, hnil, hb⟩
end Go.Proofs.YtglhjdbnpdoinaaGreat

namespace Go.Proofs.YtglhjdbnpdoinaaGreat
open Go.RowKit
set_option linter.unusedVariables false
set_option maxRecDepth 100000

set_option maxHeartbeats 800000 in
theorem ncmp_bel (p v p' v' : List UInt8) (w : World) (hp : p.length ≤ 1000000000) (hv : v.length ≤ 1000000000) (hp' : p'.length ≤ 1000000000) (hv' : v'.length ≤ 1000000000) (o : okN (p, v) = true) (o' : okN (p', v') = true) :
    Calls Tryz.prog 86 #[.agg #[.string (mkB p), .string (mkB v)], .agg #[.string (mkB p'), .string (mkB v')]] w fun e w' => e = .returned (.tuple #[.int .i64 (ordN (p, v) (p', v')), .int .i64 0]) ∧ Bel w.heap.size w w' := by
  obtain ⟨W, g, g', hW, hg, hg', c0, c1, d0, d1, hb⟩ := box2 w (.string (mkB p)) (.string (mkB v)) (.string (mkB p')) (.string (mkB v')) 26
  have B := Lib.hid hb; have HW := Lib.hid hW; have HG := Lib.hid hg; have HG' := Lib.hid hg'; clear hb hW hg hg'
  obtain ⟨T, hT⟩ : ∃ T, ordN (p, v) (p', v') = T := ⟨_, rfl⟩
  rw [hT]
  have HX := Lib.hid o; have HY := Lib.hid o'; have HT := Lib.hid hT; clear o o' hT
  go_enter Tryz.func86, Tryz.ntmps86
  go_upto_region 1 with fail
  rw [HW.out, HG'.out, HG.out]
  go_wp2_with (first
    | (go_at_call 58; refine (nmay_bel _ _ _ (by first | exact hp | exact hp') (by first | exact hv | exact hv')).mono ?_; rintro e w1 ⟨rfl, hb1⟩; (first | rw [HX.out] | rw [HY.out]); replace B := Lib.hid (bel_step B.out hb1); replace d0 := bel_keep d0 hb1; replace d1 := bel_keep d1 hb1; replace c0 := bel_keep c0 hb1; replace c1 := bel_keep c1 hb1; clear hb1)
    | (go_at_call 62; refine (norder_bel _ _ _ _ _ hv hv' HX.out HY.out).mono ?_; rintro e w1 ⟨rfl, hb1⟩; rw [HT.out]; replace B := Lib.hid (bel_step B.out hb1); clear hb1))
  go_ret2
  exact ⟨rfl, B.out⟩
set_option maxHeartbeats 800000 in
theorem dorder_bel (p v p' v' : List UInt8) (w : World) (hp : p.length ≤ 1000000000) (hv : v.length ≤ 1000000000) (hp' : p'.length ≤ 1000000000) (hv' : v'.length ≤ 1000000000) (o : okN (p, v) = true) (o' : okN (p', v') = true) :
    Calls Tryz.prog 74 #[.agg #[.string (mkB p), .string (mkB v)], .agg #[.string (mkB p'), .string (mkB v')]] w fun e w' => e = .returned (.int .i64 (ordN (p, v) (p', v'))) ∧ Bel w.heap.size w w' := by
  obtain ⟨W, g, g', hW, hg, hg', c0, c1, d0, d1, hb⟩ := box2 w (.string (mkB p)) (.string (mkB v)) (.string (mkB p')) (.string (mkB v')) 26
  have B := Lib.hid hb; have HW := Lib.hid hW; have HG := Lib.hid hg; have HG' := Lib.hid hg'; clear hb hW hg hg'
  have K := Lib.hid fun w => ncmp_bel p v p' v' w hp hv hp' hv' o o'
  clear o o'
  obtain ⟨T, hT⟩ : ∃ T, ordN (p, v) (p', v') = T := ⟨_, rfl⟩
  rw [hT] at K ⊢
  clear hT
  go_enter Tryz.func74, Tryz.ntmps74
  go_upto_region 1 with fail
  rw [HW.out, HG'.out, HG.out]
  go_wp2_with (go_at_call 86; refine (K.out _).mono ?_; rintro e w1 ⟨rfl, hb1⟩; replace B := Lib.hid (bel_step B.out hb1); clear hb1)
  go_ret
  exact ⟨rfl, B.out⟩
theorem dorder_any (p v p' v' : List UInt8) (w : World) (hp : p.length ≤ 1000000000) (hv : v.length ≤ 1000000000) (hp' : p'.length ≤ 1000000000) (hv' : v'.length ≤ 1000000000) (o : okN (p, v) = true) (o' : okN (p', v') = true) :
    Calls Tryz.prog 74 #[.agg #[.string (mkB p), .string (mkB v)], .agg #[.string (mkB p'), .string (mkB v')]] w fun e w' => e = .returned (.int .i64 (ordN (p, v) (p', v'))) ∧ Below w.heap.size w w' :=
  (dorder_bel p v p' v' w hp hv hp' hv' o o').mono fun _ _ ⟨h, k⟩ => ⟨h, k.toBelow⟩
end Go.Proofs.YtglhjdbnpdoinaaGreat

namespace Go.Proofs.YtglhjdbnpdoinaaGreat
open Go.RowKit
set_option linter.unusedVariables false
set_option maxRecDepth 100000

abbrev NdS := {n : Nd // okN n = true ∧ smallN n}
def encS (x : NdS) : List Value := [.string (mkB x.1.1), .string (mkB x.1.2)]
def cmpS (x y : NdS) : Int := ordN x.1 y.1
theorem lt_cmpS (x y : NdS) : ltOf cmpS x y = ltN x.1 y.1 := rfl
theorem swo_cmpS : Sort.SWO (ltOf cmpS) where
  irrefl x := ltN_irrefl x.1
  trans x y z h k := ltN_trans h k
  ntrans x y z h k := by
    rw [lt_cmpS, ltN_no] at *
    have e1 := ordN_swap x.1 y.1
    have e2 := ordN_swap y.1 z.1
    have e3 := ordN_swap x.1 z.1
    have := (ordN_trans z.1 y.1 x.1 (by omega) (by omega)).1
    omega
theorem cmplaysS [Inhabited NdS] (blk off size : Nat) (w : World) : CmpLays Tryz.prog 74 #[] encS 2 cmpS blk off size w := fun _ _ _ _ x y =>
  (dorder_bel x.1.1 x.1.2 y.1.1 y.1.2 _ x.2.2.1 x.2.2.2 y.2.2.1 y.2.2.2 x.2.1 y.2.1).mono fun _ _ ⟨he, hb⟩ => ⟨he, hb.grows⟩

/-! ### A row of nodes -/
theorem flat_nds [Inhabited NdS] (d : Array NdS) : (Sort.flatK encS 2 d).toList = ndsC (d.toList.map (·.1)) := by
  apply List.ext_getElem?
  intro t
  by_cases ht : t < d.size * 2
  · obtain ⟨j, hj⟩ : ∃ j, t / 2 = j := ⟨_, rfl⟩
    have hjd : j < d.size := by omega
    have hjl : j < (d.toList.map (·.1)).length := by simpa using hjd
    obtain ⟨h0, h1⟩ := ndsC_at (d.toList.map (·.1)) j hjl
    have hd : (d.toList.map (·.1)).getD j ([], []) = (d[j]!).1 := by rw [nd_getD hjl, getElem!_pos d j hjd]; simp
    rw [hd] at h0 h1
    have e : (Sort.flatK encS 2 d).toList[t]? = some ((encS d[j]!)[t % 2]!) := by simp [Sort.flatK, ht, hj]
    rw [e]
    rcases Nat.mod_two_eq_zero_or_one t with hm | hm
    · have e2 : t = j * 2 := by omega
      rw [hm, e2, h0]; rfl
    · have e2 : t = j * 2 + 1 := by omega
      rw [hm, e2, h1]; rfl
  · rw [List.getElem?_eq_none (by simp; omega), List.getElem?_eq_none (by rw [ndsC_len]; simp; omega)]
theorem holds_row {w : World} {g : Nat} {cur F : Array Value} {e : TypeId} (hb : w.heap[g]? = some (.cells cur e (0, 0))) (ht : cur.toList.take F.size = F.toList) : Sort.Holds id w g 0 F := by
  intro j hj
  refine ⟨?_, by simp [World.frozen?, hb]⟩
  have h1 : (cur.toList.take F.size)[j]? = F.toList[j]? := by rw [ht]
  rw [List.getElem?_take_of_lt hj] at h1
  simp only [World.cell?, hb, Nat.zero_add]
  simp only [Option.isSome_none, Bool.false_eq_true, if_false]
  rw [← Array.getElem?_toList, h1]
  simp [hj]
theorem heap_row {w : World} {g n : Nat} {os : Array Obj} {cur : Array Value} {e : TypeId} {fr : Nat × Nat} (F : Array Value) (hb : w.heap[g]? = some (.cells cur e fr)) :
    (Sort.grow (Sort.putRow id (Sort.ahead w n) g 0 F) os).heap[g]? = some (.cells (Sort.putCells id 0 F cur) e fr) := by
  have hg : g < w.heap.size := (Array.getElem?_eq_some_iff.1 hb).1
  rw [Sort.heap_grow_old _ _ (by simpa using hg)]
  simp [Sort.putRow, Sort.mapBlock, Sort.ahead, Array.getElem?_modify, hb, Sort.onCells]
theorem grownBy_row {w : World} {g n : Nat} {os : Array Obj} (F : Array Value) : w.grownBy (Sort.grow (Sort.putRow id (Sort.ahead w n) g 0 F) os) (some g) := by
  refine ⟨rfl, rfl, rfl, by simp, fun k hk hne => ?_⟩
  rw [Sort.heap_grow_old _ _ (by simpa using hk)]
  have : g ≠ k := fun e => hne (by rw [e])
  simp [Sort.putRow, Sort.mapBlock, Sort.ahead, Array.getElem?_modify, this]
theorem take_row (cur F : Array Value) (h : F.size ≤ cur.size) : (Sort.putCells id 0 F cur).toList.take F.size = F.toList := by
  apply List.ext_getElem?
  intro j
  by_cases hj : j < F.size
  · rw [List.getElem?_take_of_lt hj, Array.getElem?_toList]
    simp [Sort.putCells, hj, show j < cur.size by omega]
  · rw [List.getElem?_take_eq_none (by omega), List.getElem?_eq_none (by simp; omega)]

theorem rises_sorted [Inhabited NdS] {d d' : Array NdS} (hp : Sort.PermIn 0 d.size d d') (hs : Sort.SortedIn (ltOf cmpS) 0 d.size d') (hn : (d.toList.map (·.1)).Nodup) :
    Rises (d'.toList.map (·.1)) ∧ (∀ n, n ∈ d'.toList.map (·.1) ↔ n ∈ d.toList.map (·.1)) ∧ d'.size = d.size := by
  obtain ⟨hsz, _, hperm⟩ := hp
  have e : d.extract 0 d.size = d := by simp
  have e' : d'.extract 0 d.size = d' := by rw [← hsz]; simp
  rw [e, e'] at hperm
  have hpm : (d'.toList.map (·.1)).Perm (d.toList.map (·.1)) := hperm.map _
  have hn' : (d'.toList.map (·.1)).Nodup := hpm.nodup_iff.2 hn
  refine ⟨?_, fun n => hpm.mem_iff, hsz⟩
  show List.Pairwise _ _
  rw [List.pairwise_iff_getElem]
  intro i j hi hj hij
  have h1 : i < d'.size := by simpa using hi
  have h2 : j < d'.size := by simpa using hj
  have h := hs i j (Nat.zero_le _) hij (by omega)
  rw [lt_cmpS, getElem!_pos d' j h2, getElem!_pos d' i h1] at h
  have g1 : (d'.toList.map (·.1))[i] = d'[i].1 := by simp
  have g2 : (d'.toList.map (·.1))[j] = d'[j].1 := by simp
  rw [g1, g2]
  rcases ltN_tri d'[i].2.1 d'[j].2.1 with k | k | k
  · exact k
  · have e : i = j := (List.getElem_inj hn').1 (by rw [g1, g2, k])
    omega
  · rw [k] at h; cases h

/-! ### The sort of a row of the call's own -/
theorem nsort_any (w : World) (base : Nat) (v : Value) (ss : List Nd) (hown : w.ownsRow base 26 2 v ss.length (ndsC ss)) (hok : ∀ n ∈ ss, okN n = true ∧ smallN n) (hn : ss.Nodup) (hlen : ss.length ≤ 1000000) :
    Calls Tryz.prog 84 #[v, .func (.func 74) #[] #[]] w fun e w' => e = .returned (.tuple #[]) ∧ ∃ ts, Rises ts ∧ (∀ n, n ∈ ts ↔ n ∈ ss) ∧ ts.length = ss.length ∧ w'.ownsRow base 26 2 v ts.length (ndsC ts) ∧ w.grownBy w' v.ownBlock := by
  rcases ss with _ | ⟨x, ss'⟩
  · have hnil : ∃ p c, v = .slice p 0 c := by
      rcases hown.2 with ⟨rfl, _⟩ | ⟨g, cap, cur, rfl, _⟩
      · exact ⟨_, _, rfl⟩
      · exact ⟨_, _, rfl⟩
    obtain ⟨p, c, rfl⟩ := hnil
    exact (AnyF.slices_SortFunc_none Tryz.sortN p c (.func (.func 74) #[] #[]) w).mono fun _ w' ⟨he, hw⟩ => by
      subst hw
      exact ⟨he, [], List.Pairwise.nil, fun _ => Iff.rfl, rfl, hown, ⟨rfl, rfl, rfl, Nat.le_refl _, fun _ _ _ => rfl⟩⟩
  · haveI : Inhabited NdS := ⟨⟨x, hok x (by simp)⟩⟩
    obtain ⟨ss, hss⟩ : ∃ ss, x :: ss' = ss := ⟨_, rfl⟩
    have hpos : 0 < ss.length := by rw [← hss]; simp
    rw [hss] at hown hok hn hlen ⊢
    clear hss
    obtain ⟨d, hd⟩ : ∃ d : Array NdS, d.toList.map (·.1) = ss := ⟨(ss.attach.map fun n => ⟨n.1, hok n.1 n.2⟩).toArray, by rw [List.toList_toArray, List.map_map]; exact List.attach_map_subtype_val ss⟩
    have hds : d.size = ss.length := by rw [← hd]; simp
    rcases hown.2 with ⟨rfl, h0⟩ | ⟨g, cap, cur, rfl, hbase, hb, h1, h2, h3, h4⟩
    · omega
    · have hF := flat_nds d
      rw [hd] at hF
      have hFs : (Sort.flatK encS 2 d).size = ss.length * 2 := by rw [Sort.size_flatK, hds]
      have hH : Sort.HoldsK encS 2 w g 0 d := holds_row hb (by rw [hFs, hF]; exact h4)
      have hg : g < w.heap.size := (Array.getElem?_eq_some_iff.1 hb).1
      have eg : ∀ args w, (callFunc 74 args).run Tryz.prog w = .ok (.enter 74 args) w := enters_of Tryz.func74 (by kernel_rfl) rfl
      have hcon := AnyQ.slices_SortFunc Tryz.sortN 2 Tryz.isAgg26 Tryz.sizeOf26 encS (fun _ => rfl) (fun x v hv => by simp [encS] at hv; rcases hv with rfl | rfl <;> rfl) cmpS swo_cmpS 74 #[] g 0 cap d w eg (cmplaysS g 0 d.size w) hH hg (by omega)
      rw [hds] at hcon
      refine hcon.mono ?_
      rintro e w' ⟨rfl, d', n, os, hp, hs, rfl⟩
      rw [← hds] at hp hs
      obtain ⟨hr, hm, hsz⟩ := rises_sorted hp hs (by rw [hd]; exact hn)
      have hF' := flat_nds d'
      have hFs' : (Sort.flatK encS 2 d').size = ss.length * 2 := by rw [Sort.size_flatK, hsz, hds]
      have hl : (d'.toList.map (·.1)).length = ss.length := by simp [hsz, hds]
      have h5 := Nat.mul_le_mul_right 2 h1
      refine ⟨rfl, d'.toList.map (·.1), hr, fun n => by rw [hm, hd], hl, ?_, ?_⟩
      · refine ⟨by rw [ndsC_len], .inr ⟨g, cap, _, by rw [hl], hbase, heap_row _ hb, by omega, h2, by simp [Sort.putCells, h3], ?_⟩⟩
        rw [hl, ← hFs', ← hF']
        exact take_row cur _ (by omega)
      · exact grownBy_row _

theorem nodup_len : ∀ {s K : List Nd}, s.Nodup → (∀ n ∈ s, n ∈ K) → s.length ≤ K.length
  | [], _, _, _ => Nat.zero_le _
  | x :: s, K, hn, h => by
    have hx := h x (by simp)
    have hi := nodup_len (s := s) (K := K.erase x) (List.nodup_cons.1 hn).2 (fun n hm => (List.mem_erase_of_ne (by intro e; subst e; exact (List.nodup_cons.1 hn).1 hm)).2 (h n (by simp [hm])))
    rw [List.length_erase_of_mem hx] at hi
    have hp := List.length_pos_of_mem hx
    simp only [List.length_cons]; omega
set_option maxHeartbeats 800000 in
theorem nsorted_any (Bm b nn : Nat) (K : List Nd) (f : Nd → Int) (w : World) (hBm : Bm < w.heap.size) (hm : w.cell? ⟨Bm, 0, none⟩ = some (.map (some b))) (hown : CMap w b nn K f) (hok : ∀ n ∈ K, okN n = true ∧ smallN n) (hnn : nn ≤ 1000000) (hKl : K.length ≤ 1000000) :
    Calls Tryz.prog 72 #[.func (.func 85) #[] #[.pointer (some ⟨Bm, 0, none⟩)], .func (.func 74) #[] #[]] w fun e w' => ∃ v ss, e = .returned v ∧ Rises ss ∧ (∀ n, n ∈ ss ↔ n ∈ K) ∧ w'.ownsRow w.heap.size 26 2 v ss.length (ndsC ss) ∧ Below w.heap.size w w' := by
  have hco := callsIn_wide.1 (collect_in Fence.wide 5 trivial trivial rfl (by decide) 85 #[.pointer (some ⟨Bm, 0, none⟩)] trivial (enters_of Tryz.func85 (by kernel_rfl) rfl) _ nn (by unfold maxLen; omega) (by omega) w (keys_stops Fence.wide (5 - 1 - 1) trivial rfl (by decide) Bm b nn K f w hBm hm hown))
  have HOK := Lib.hid hok
  clear hBm hm hown hok
  go_enter Tryz.func72, Tryz.ntmps72
  go_wp2_with (first
    | (go_at_call 83; refine hco.mono ?_; rintro e w1 ⟨v, ss, rfl, ⟨hnd, hmem⟩, hrow, -, hb1⟩; have HR := Lib.hid hrow; have B := Lib.hid hb1; clear hrow hb1 hco)
    | (go_at_call 84; refine (nsort_any _ _ _ ss HR.out (fun n hn => HOK.out n ((hmem n).1 hn)) hnd (Nat.le_trans (nodup_len hnd fun n hn => (hmem n).1 hn) hKl)).mono ?_; rintro e w2 ⟨rfl, ts, hrs, hmt, -, hrow2, hg⟩))
  go_ret
  exact ⟨v, ts, rfl, hrs, fun n => (hmt n).trans (hmem n), hrow2, B.out.grown hg B.out.size (fun k hk => (HR.out.lt k hk).1)⟩

end Go.Proofs.YtglhjdbnpdoinaaGreat

namespace Go.Proofs.YtglhjdbnpdoinaaGreat
open Go.RowKit Go.Maps
set_option linter.unusedVariables false
set_option maxRecDepth 100000

theorem fit_small1 {n : Nd} (h : smallN n) : fitsN n := ⟨Nat.le_trans h.1 (by decide), Nat.le_trans h.2 (by decide)⟩
section
variable {wr : World} {ops : Array Oper} {rest : List Oper} {o : Oper} {a : Act} {Q : Exit → Act → World → Prop}
/-- 'm[n]'. -/
theorem wpList_look_cmap (hgd : o.guard = none) (m x : Operand) (ho : o.op = .lookup 84 m x false) {b n : Nat} {K : List Nd} {f : Nd → Int} {p v : List UInt8} (hm : a.eval m = .map (some b)) (h : CMap wr b n K f) (hx : a.eval x = .agg #[.string (mkB p), .string (mkB v)]) (hf : fitsN (p, v))
    {z : Int} (hz : f (p, v) = z) (hK : wpList Tryz.prog ops Q rest (a.put o.dst (.int .i64 z)) wr) : wpList Tryz.prog ops Q (o :: rest) a wr := by
  subst hz
  refine wpList_plain hgd fun K' hK' => ?_
  have hr := look_cmap h hf
  unfold Oper.wp
  simp [execOp, ho, hm, hx, hr, Result.andThen]
  exact hK' _ _ hK
end
set_option maxHeartbeats 1600000 in
theorem edits_any (b nn : Nat) (K : List Nd) (f : Nd → Int) (w : World) (h : CMap w b nn K f) (hok : ∀ n ∈ K, okN n = true ∧ smallN n) (hnn : nn ≤ 1000000) (hK : K.length ≤ 1000000) :
    Calls Tryz.prog 59 #[.map (some b)] w fun e w' => ∃ v, e = .returned v ∧ w'.ownsRow w.heap.size 56 3 v (mkD (setN K) f).length (dfC (mkD (setN K) f)) ∧ Below w.heap.size w w' := by
  have hsl := setN_len K
  have hss : ∀ s, Rises s → (∀ n, n ∈ s ↔ n ∈ K) → s = setN K := fun s h1 h2 => setN_is (fun n hn => (hok n hn).1) h1 h2
  have hso : ∀ n ∈ setN K, smallN n := fun n hn => (hok n ((setN_mem (fun n hn => (hok n hn).1) n).1 hn)).2
  obtain ⟨S, hS⟩ : ∃ S, setN K = S := ⟨_, rfl⟩
  obtain ⟨R, hR⟩ : ∃ R, mkD S f = R := ⟨_, rfl⟩
  rw [hS] at hsl hss hso ⊢
  rw [hR]
  obtain ⟨n, hn⟩ : ∃ n, S.length = n := ⟨_, rfl⟩
  rw [hn] at hsl
  have HM := Lib.hid h; have HOK := Lib.hid hok; have HSS := Lib.hid hss; have HSO := Lib.hid hso; have HR := Lib.hid hR; have HN := Lib.hid hn
  clear h hok hss hso hR hn hS
  go_enter Tryz.func59, Tryz.ntmps59
  go_wp2_with (first
    | (go_at_call 73; refine (callsIn_wide.1 (keys_in Fence.wide 5 trivial rfl (some b) _)).mono ?_; rintro e w2 ⟨rfl, rfl⟩; have MP2 := Lib.hid (HM.out.alloc (.cells #[.map (some b)] 84)); have hck := cell_new (X := w) (cs := #[.map (some b)]) (t := 84) (i := 0) rfl rfl; have B := Lib.hid ((Below.refl w.heap.size w).alloc (Nat.le_refl _) (.cells #[.map (some b)] 84)))
    | (go_at_call 72; refine (nsorted_any _ _ _ K f _ (by simp) hck MP2.out HOK.out hnn hK).mono ?_; rintro e w3 ⟨v, ss, rfl, hrs, hmem, hrow, hb3⟩; obtain rfl := HSS.out ss hrs hmem; obtain ⟨a, c, rfl, hnd⟩ := ndsO hrow; have SN := Lib.hid hnd; have B3 := Lib.hid (below_step B.out hb3); clear hrs hmem hrow hnd hb3))
  rw [HN.out] at SN ⊢
  clear MP2 hck B HSS HOK
  go_loopw [3, 11] (fun v i wr => ∃ (k : Nat) (acc : List De), k ≤ n ∧ i = .int .i64 k ∧ acc.length ≤ k ∧ Hid (acc = mkD (ss.take k) f) ∧ wr.ownsRow w3.heap.size 56 3 v acc.length (dfC acc) ∧ Hid (Below w3.heap.size w3 wr)) (fun _ i _ => n - (intOf i).toNat)
  case atStart => exact ⟨0, [], Nat.zero_le _, rfl, Nat.le_refl _, Lib.hid rfl, World.ownsRow_nil _ _ _ _, Lib.hid (Below.refl _ _)⟩
  case round =>
    obtain ⟨k, acc, hk, rfl, hal, HACC, hown, HB3⟩ := hrel
    have HB := Lib.hid (below_step B3.out HB3.out)
    by_cases hlt : k < n
    · have hkl : k < ss.length := by rw [HN.out]; exact hlt
      obtain ⟨g, off, rfl, -, hc0, hc1⟩ := (SN.out.below HB3.out).at k hkl
      have htk := mkD_take hkl f
      have hsm := HSO.out _ (nd_mem hkl)
      obtain ⟨y, hy⟩ : ∃ y, y = ss.getD k ([], []) := ⟨_, rfl⟩
      rw [← hy] at hc0 hc1 htk hsm
      obtain ⟨y1, y2⟩ := y
      simp only at hc0 hc1
      obtain ⟨z, hz⟩ : ∃ z, f (y1, y2) = z := ⟨_, rfl⟩
      rw [hz] at htk
      have HTK := Lib.hid htk; have HZ := Lib.hid hz; have HF := Lib.hid (fit_small1 hsm); have HOWN := Lib.hid hown; have HMR := Lib.hid (HM.out.below HB.out)
      clear hy htk hz hsm hown
      have hkb : (k : Int) < (n : Int) := by omega
      by_cases h0 : z = 0
      · have hz1 : (z != 0) = false := by simp [h0]
        have HAC : Hid (acc = mkD (ss.take (k + 1)) f) := Lib.hid (by rw [HTK.out, HACC.out, if_pos h0, List.append_nil])
        clear h0
        go_upto_region 5 with fail
        obtain ⟨X, q, hX, hq, d0, d1, hxb⟩ := boxB1 wr (.string (mkB y1)) (.string (mkB y2)) 26
        rw [hX, hq]
        have BX := Lib.hid hxb; have HMX := Lib.hid (HMR.out.below hxb)
        clear hX hq hc0 hc1 hxb
        go_wp2_with (at_lookup; refine wpList_look_cmap rfl _ _ rfl rfl HMX.out rfl HF.out HZ.out ?_)
        go_roundw
        case rel => exact ⟨k + 1, acc, by omega, by go_num, by omega, HAC, ownsRow_belowB HOWN.out BX.out, Lib.hid (below_step HB3.out BX.out)⟩
        case measure => simp [intOf]; omega
      · have hz1 : (z != 0) = true := by simp [h0]
        have HAC : Hid (acc ++ [((y1, y2), z)] = mkD (ss.take (k + 1)) f) := Lib.hid (by rw [HTK.out, HACC.out, if_neg h0])
        clear h0
        go_upto_region 5 with fail
        obtain ⟨X, q, hX, hq, d0, d1, hxb⟩ := boxB1 wr (.string (mkB y1)) (.string (mkB y2)) 26
        rw [hX, hq]
        have BX := Lib.hid hxb; have HMX := Lib.hid (HMR.out.below hxb); have HO1 := Lib.hid (ownsRow_belowB HOWN.out hxb); have HB31 := Lib.hid (below_step HB3.out hxb)
        clear hX hq hc0 hc1 hxb
        go_wp2_with (first
          | (at_lookup; refine wpList_look_cmap rfl _ _ rfl rfl HMX.out rfl HF.out HZ.out ?_)
          | (at_builtin; refine wpList_append_new rfl _ _ 22 rfl w3.heap.size 56 zDV 3 40 Tryz.underlying22 Tryz.info_df rfl (by decide) _ _ _ rfl HO1.out [.string (mkB y1), .string (mkB y2), .int .i64 z] rfl rfl rfl (by omega) (by unfold maxLen; omega) HB31.out.size ?_))
        intro v' w' hown' hb'
        have e2 : dfC acc ++ [.string (mkB y1), .string (mkB y2), .int .i64 z] = dfC (acc ++ [((y1, y2), z)]) := (dfC_snoc acc ((y1, y2), z)).symm
        rw [e2] at hown'
        have ho2 : w'.ownsRow w3.heap.size 56 3 v' (acc ++ [((y1, y2), z)]).length (dfC (acc ++ [((y1, y2), z)])) := by simpa using hown'
        have HO2 := Lib.hid ho2; have HBN := Lib.hid (HB31.out.trans hb'.toBelow)
        clear ho2 hown' hb'
        go_wp2
        go_roundw
        case rel => exact ⟨k + 1, acc ++ [((y1, y2), z)], by omega, by go_num, by simp; omega, HAC, HO2.out, HBN⟩
        case measure => simp [intOf]; omega
    · have e : k = n := by omega
      subst e
      have hac := HACC.out
      rw [List.take_of_length_le (by rw [HN.out]; exact Nat.le_refl _), HR.out] at hac
      subst hac
      go_wp2
      go_ret
      exact ⟨_, rfl, row_base hown B3.out.size, HB.out⟩
end Go.Proofs.YtglhjdbnpdoinaaGreat

namespace Go.Proofs.YtglhjdbnpdoinaaGreat
open Go.RowKit Go.Maps
set_option linter.unusedVariables false
set_option maxRecDepth 100000

theorem grown_of_below {w w' : World} (hb : Below w.heap.size w w') : w.grownBy w' none := ⟨hb.os, hb.tape, hb.output, hb.size, fun k hk _ => hb.block k hk⟩
theorem cmap_neg {w : World} {g k : Nat} {old : List Nd} {y : Nd} {C : Int} (h : CMap w g (k + 1) (old.take k ++ [y]) (fun m => if m = y then C - 1 else -(cntN (old.take k) m : Int))) (htk : old.take (k + 1) = old.take k ++ [y])
    (hC : -(cntN (old.take k) y : Int) = C) (hct : ∀ n, cntN (old.take (k + 1)) n = cntN (old.take k) n + (if y = n then 1 else 0)) : CMap w g (k + 1) (old.take (k + 1)) fun x => -(cntN (old.take (k + 1)) x : Int) := by
  rw [← htk] at h
  refine h.congr fun m => ?_
  rw [hct m]
  by_cases e : m = y
  · rw [if_pos e, if_pos e.symm, ← hC, e]; omega
  · rw [if_neg e, if_neg (Ne.symm e)]; rfl
theorem cmap_pos {w : World} {g k n : Nat} {old now : List Nd} {y : Nd} {C : Int} (h : CMap w g n ((old ++ now.take k) ++ [y]) (fun m => if m = y then C + 1 else (cntN (now.take k) m : Int) - cntN old m)) (htk : now.take (k + 1) = now.take k ++ [y])
    (hC : (cntN (now.take k) y : Int) - cntN old y = C) (hct : ∀ n, cntN (now.take (k + 1)) n = cntN (now.take k) n + (if y = n then 1 else 0)) : CMap w g n (old ++ now.take (k + 1)) fun x => (cntN (now.take (k + 1)) x : Int) - cntN old x := by
  rw [List.append_assoc, ← htk] at h
  refine h.congr fun m => ?_
  rw [hct m]
  by_cases e : m = y
  · rw [if_pos e, if_pos e.symm, ← hC, e]; omega
  · rw [if_neg e, if_neg (Ne.symm e)]; rfl
theorem allN2_no {l m : List Nd} {n : Nd} (h : n ∈ l ++ m) (o : okN n = false) : (allN2 l && allN2 m) = false := by
  rw [← allN2_app]
  cases e : allN2 (l ++ m)
  · rfl
  · rw [allN2_iff.1 e n h] at o; cases o
theorem dfs_row0 (w : World) (base : Nat) : w.ownsRow base 56 3 (.slice none 0 0) ([] : List De).length (dfC []) := World.ownsRow_nil _ _ _ _

set_option maxHeartbeats 3200000 in
theorem diff_any (U V : Value) (old now : List Nd) (w : World) (hU : Nds w U old) (hV : Nds w V now) (so : ∀ n ∈ old, smallN n) (sn : ∀ n ∈ now, smallN n) (lo : old.length ≤ 100000) (ln : now.length ≤ 100000) :
    Calls Tryz.prog 45 #[U, V] w fun e w' => ∃ v, e = .returned (.tuple #[v, .int .i64 (diffE old now).2]) ∧ w'.ownsRow w.heap.size 56 3 v (diffE old now).1.length (dfC (diffE old now).1) ∧ Below w.heap.size w w' := by
  obtain ⟨a, c, rfl, h1, h2, -, -⟩ := hU.ex
  obtain ⟨a', c', rfl, h1', h2', -, -⟩ := hV.ex
  unfold maxLen at h2 h2'
  obtain ⟨n, hn⟩ : ∃ n, old.length = n := ⟨_, rfl⟩
  obtain ⟨m, hm⟩ : ∃ m, now.length = m := ⟨_, rfl⟩
  rw [hn] at h1 hU lo ⊢
  rw [hm] at h1' hV ln ⊢
  obtain ⟨R, hR⟩ : ∃ R, diffE old now = R := ⟨_, rfl⟩
  rw [hR]
  obtain ⟨R1, R2⟩ := R
  simp only
  have SU := Lib.hid hU; have SV := Lib.hid hV; have HN := Lib.hid hn; have HM := Lib.hid hm; have SO := Lib.hid so; have SN := Lib.hid sn; have HR := Lib.hid hR
  clear hU hV hn hm so sn hR
  have hmm := make_cmap
  go_enter Tryz.func45, Tryz.ntmps45
  go_wp2
  obtain ⟨W, hW⟩ : ∃ W, w.alloc (.map #[] 0) = W := ⟨_, rfl⟩
  have M0 := Lib.hid (CMap.made w)
  have B0 := Lib.hid ((Below.refl w.heap.size w).alloc (Nat.le_refl _) (.map #[] 0))
  rw [hW] at M0 B0 ⊢
  obtain ⟨g, hg⟩ : ∃ g, w.heap.size = g := ⟨_, rfl⟩
  have HG := Lib.hid hg
  rw [hg] at M0 B0 ⊢
  clear hW hg
  go_loopw [15] (fun i wr => ∃ k : Nat, k ≤ n ∧ i = .int .i64 k ∧ Hid (CMap wr g k (old.take k) fun x => -(cntN (old.take k) x : Int)) ∧ Hid (Below g w wr)) (fun i _ => n - (intOf i).toNat)
  case atStart => exact ⟨0, Nat.zero_le _, rfl, Lib.hid (by simpa [cntN] using M0.out), B0⟩
  case round =>
    obtain ⟨k, hk, rfl, HK, HB⟩ := hrel
    by_cases hlt : k < n
    · have hkl : k < old.length := by rw [HN.out]; exact hlt
      obtain ⟨b, off, rfl, -, hc0, hc1⟩ := (SU.out.below (by rw [HG.out]; exact HB.out)).at k hkl
      have htk : old.take (k + 1) = old.take k ++ [old.getD k ([], [])] := by rw [List.take_succ_eq_append_getElem hkl, nd_getD hkl]
      have hct := cntN_take hkl
      have hsm := SO.out _ (nd_mem hkl)
      have hbd := fun x => cntN_le (old.take k) x
      obtain ⟨y, hy⟩ : ∃ y, y = old.getD k ([], []) := ⟨_, rfl⟩
      rw [← hy] at hc0 hc1 htk hsm hct
      obtain ⟨y1, y2⟩ := y
      simp only at hc0 hc1
      go_upto_region 5 with fail
      obtain ⟨X, q, hX, hq, d0, d1, hxb⟩ := boxB1 wr (.string (mkB y1)) (.string (mkB y2)) 26
      rw [hX, hq]
      have HF := Lib.hid (fit_small1 hsm)
      have BX := Lib.hid hxb
      have hcm : CMap X.drew g k (old.take k) fun x => -(cntN (old.take k) x : Int) := (HK.out.below hxb).near rfl
      obtain ⟨st, w1, hE, hC1, hg1, hst⟩ := entry_cmap hcm HF.out (by unfold maxLen; omega)
      have hL0 := look_cmap hcm HF.out
      have hL1 := look_cmap hC1 HF.out
      have hbd1 := hbd (y1, y2)
      have hlt2 : (old.take k).length ≤ k := by rw [List.length_take]; omega
      obtain ⟨C, hC⟩ : ∃ C, -(cntN (old.take k) (y1, y2) : Int) = C := ⟨_, rfl⟩
      rw [hC] at hE hL0 hL1
      have hwr : IntKind.i64.wrap (C - 1) = C - 1 := IntWalk.i64_in _ (by omega)
      obtain ⟨w2, hS, hC2, hg2⟩ := hst (C - 1) (by unfold fitI; omega)
      have HC2 := Lib.hid hC2; have HG2 := Lib.hid hg2
      clear hst hC2 hg2 hC1 hg1 hcm hbd hc0 hc1 hbd1
      go_region
      go_wp2
      have hgs : g ≤ wr.heap.size := by rw [← HG.out]; exact HB.out.size
      have hbn : Below g w w2 := (HB.out.trans (BX.out.mono hgs)).drew.grown HG2.out (Nat.le_trans hgs BX.out.size) (fun j e => by cases e; exact Nat.le_refl _)
      have HBN := Lib.hid hbn; have HC3 := Lib.hid (cmap_neg HC2.out htk hC hct)
      clear hbn hgs
      go_roundw
      case rel => exact ⟨k + 1, by omega, by go_num, HC3, HBN⟩
      case measure => simp [intOf]; omega
    · have e : k = n := by omega
      subst e
      have hK := HK.out
      rw [List.take_of_length_le (by rw [HN.out]; exact Nat.le_refl _)] at hK
      have HK1 := Lib.hid hK; clear hK HK
      go_wp2
      go_loopw [28] (fun i wr => ∃ k2 : Nat, k2 ≤ m ∧ i = .int .i64 k2 ∧ Hid (CMap wr g (k + k2) (old ++ now.take k2) fun x => (cntN (now.take k2) x : Int) - cntN old x) ∧ Hid (Below g w wr)) (fun i _ => m - (intOf i).toNat)
      case atStart => exact ⟨0, Nat.zero_le _, rfl, Lib.hid (by rw [List.take_zero, List.append_nil, Nat.add_zero]; exact HK1.out.congr fun x => by have : cntN [] x = 0 := rfl; rw [this]; omega), HB⟩
      case round =>
        obtain ⟨k2, hk2, rfl, HK2, HB2⟩ := hrel
        by_cases hlt : k2 < m
        · have hkl : k2 < now.length := by rw [HM.out]; exact hlt
          obtain ⟨b, off, rfl, -, hc0, hc1⟩ := (SV.out.below (by rw [HG.out]; exact HB2.out)).at k2 hkl
          have htk : now.take (k2 + 1) = now.take k2 ++ [now.getD k2 ([], [])] := by rw [List.take_succ_eq_append_getElem hkl, nd_getD hkl]
          have hct := cntN_take hkl
          have hsm := SN.out _ (nd_mem hkl)
          have hbd := fun x => cntN_le (now.take k2) x
          obtain ⟨y, hy⟩ : ∃ y, y = now.getD k2 ([], []) := ⟨_, rfl⟩
          rw [← hy] at hc0 hc1 htk hsm hct
          obtain ⟨y1, y2⟩ := y
          simp only at hc0 hc1
          go_upto_region 10 with fail
          obtain ⟨X, q, hX, hq, d0, d1, hxb⟩ := boxB1 wr (.string (mkB y1)) (.string (mkB y2)) 26
          rw [hX, hq]
          have HF := Lib.hid (fit_small1 hsm)
          have BX := Lib.hid hxb
          have hcm : CMap X.drew g (k + k2) (old ++ now.take k2) fun x => (cntN (now.take k2) x : Int) - cntN old x := (HK2.out.below hxb).near rfl
          obtain ⟨st, w1, hE, hC1, hg1, hst⟩ := entry_cmap hcm HF.out (by unfold maxLen; omega)
          have hL0 := look_cmap hcm HF.out
          have hL1 := look_cmap hC1 HF.out
          have hbd1 := hbd (y1, y2)
          have hbd2 := cntN_le old (y1, y2)
          rw [HN.out] at hbd2
          have hlt2 : (now.take k2).length ≤ k2 := by rw [List.length_take]; omega
          obtain ⟨C, hC⟩ : ∃ C, (cntN (now.take k2) (y1, y2) : Int) - cntN old (y1, y2) = C := ⟨_, rfl⟩
          rw [hC] at hE hL0 hL1
          have hwr : IntKind.i64.wrap (C + 1) = C + 1 := IntWalk.i64_in _ (by omega)
          obtain ⟨w2, hS, hC2, hg2⟩ := hst (C + 1) (by unfold fitI; omega)
          have HC2 := Lib.hid hC2; have HG2 := Lib.hid hg2
          clear hst hC2 hg2 hC1 hg1 hcm hbd hc0 hc1 hbd1 hbd2
          go_region
          go_wp2
          have hgs : g ≤ wr.heap.size := by rw [← HG.out]; exact HB2.out.size
          have hbn : Below g w w2 := (HB2.out.trans (BX.out.mono hgs)).drew.grown HG2.out (Nat.le_trans hgs BX.out.size) (fun j e => by cases e; exact Nat.le_refl _)
          have HBN := Lib.hid hbn; have HC3 := Lib.hid (cmap_pos HC2.out htk hC hct)
          clear hbn hgs
          go_roundw
          case rel => exact ⟨k2 + 1, by omega, by go_num, HC3, HBN⟩
          case measure => simp [intOf]; omega
        · have e : k2 = m := by omega
          subst e
          have hK2 := HK2.out
          rw [List.take_of_length_le (by rw [HM.out]; exact Nat.le_refl _)] at hK2
          obtain ⟨hfk, h0k, D, hown, hD⟩ := hK2
          have HFK := Lib.hid hfk; have H0K := Lib.hid h0k; have HD := Lib.hid hD
          clear hfk h0k hD HK2
          have hgr : g ≤ wr.heap.size := by rw [← HG.out]; exact HB2.out.size
          obtain ⟨r, hr⟩ : ∃ r, wr.heap.size = r := ⟨_, rfl⟩
          go_wp2_with (first
            | (at_range; refine wpList_range_own _ rfl _ 84 rfl 26 3 node_keyed Tryz.underlying84 _ g _ _ rfl hown ?_; intro w0 hrg0 hg0 hs0)
            | go_in)
          go_frame
          rw [hr] at hrg0 hgr ⊢
          have HB3 := Lib.hid (HB2.out.grown hg0 (by rw [hr]; exact hgr) (fun j e => by cases e))
          have HGR := Lib.hid hgr
          clear hg0 hs0 hown hr hgr
          go_loopw [41] (fun _ wr2 => ∃ (left : Lit → Bool) (cnt : Nat) (ss : List Nd), wr2.ranges Tryz.prog 26 (plainElem Tryz.prog 3) g r (k + k2) D left cnt ∧ MetN D left ss ∧ Hid (∀ x ∈ ss, okN x = true) ∧ Hid (Below g w wr2)) (fun _ wr2 => wr2.rangeLeft g r)
          case atStart => exact ⟨_, _, [], hrg0, MetN.start D, Lib.hid (fun x hx => by cases hx), HB3⟩
          case round =>
            obtain ⟨left, cnt, ss, hrg, hC, HOK, HB4⟩ := hrel
            go_wp2_with (first
              | (at_next; refine wpList_next_ranges _ rfl _ rfl 26 node_keyed (plainElem Tryz.prog 3) mkKey mkInt inv_key inv_int g r (k + k2) _ _ _ rfl hrg ?_ ?_)
              | go_in)
            · intro hc0 hl0
              have hM := hC.all2 hl0 HFK.out (fun x hx => (HD.out x hx).1)
              have hall : ∀ x ∈ old ++ now, okN x = true := fun x hx => HOK.out x ((hM.2 x).2 hx)
              have hyes : (allN2 old && allN2 now) = true := by rw [← allN2_app]; exact allN2_iff.2 hall
              have he := diffE_yes hyes
              rw [HR.out] at he
              obtain ⟨rfl, rfl⟩ := Prod.mk.inj he
              have hsml : ∀ x ∈ old ++ now, okN x = true ∧ smallN x := fun x hx => ⟨hall x hx, by
                rcases List.mem_append.1 hx with q | q
                · exact SO.out x q
                · exact SN.out x q⟩
              have hcm : CMap wr g (k + k2) (old ++ now) (difF old now) := ⟨HFK.out, H0K.out, D, hrg.owns, HD.out⟩
              have hlen : (old ++ now).length ≤ 1000000 := by rw [List.length_append, HN.out, HM.out]; omega
              have HE := Lib.hid (edits_any g (k + k2) (old ++ now) (difF old now) wr hcm hsml (by omega) hlen)
              clear hM hall hyes he hsml hcm hlen
              go_wp2_with (go_at_call 59; refine HE.out.mono ?_; rintro e w4 ⟨v4, rfl, hrow, hb4⟩; have HRW := Lib.hid hrow; have HB5 := Lib.hid hb4; clear hrow hb4)
              go_ret2
              have hsz : w.heap.size ≤ wr.heap.size := HB4.out.size
              exact ⟨v4, rfl, row_base HRW.out hsz, by rw [HG.out]; exact HB4.out.trans (HB5.out.mono (by rw [← HG.out]; exact hsz))⟩
            · intro x1 x2 c0 kl yd yp w2 cnt2 hkey hlk hv hat hrg2 hlt3 hg2 hs2 hen
              obtain ⟨x', ex, rfl, hf1, hf2⟩ := key_inv hkey
              obtain rfl : (x1, x2) = x' := ndV_inj ex
              have hin : (x1, x2) ∈ old ++ now := by
                rw [← hasN_iff, ← (HD.out _ ⟨hf1, hf2⟩).1]; exact Maps.has_true_of_atKey hat
              have hsx : smallN (x1, x2) := by
                rcases List.mem_append.1 hin with q | q
                · exact SO.out _ q
                · exact SN.out _ q
              have hC2 := hC.step (n := (x1, x2)) ⟨hf1, hf2⟩ hlk hat
              have hb2 : Below g w w2 := HB4.out.grown hg2 (Nat.le_trans (by rw [← HG.out]; exact HB4.out.size) (Nat.le_refl _)) (fun j e => by cases e; exact HGR.out)
              have HB5 := Lib.hid hb2; have HIN := Lib.hid hin; have HSX := Lib.hid hsx; have HC2 := Lib.hid hC2; have HRG := Lib.hid hrg2
              obtain ⟨o, ho⟩ : ∃ o, okN (x1, x2) = o := ⟨_, rfl⟩
              have HO := Lib.hid ho
              simp only [mkKey, mkInt] at hen ⊢
              clear hC2 hb2 hin hsx hrg2 hs2 hkey hv hat hlk ex hg2 hf1 hf2 ho
              go_upto_region 15 with fail
              obtain ⟨X, q, hX, hq, d0, d1, hxb⟩ := boxB1 w2 (.string (mkB x1)) (.string (mkB x2)) 26
              have HRX := Lib.hid (HRG.out.alloc (.cells #[.string (mkB x1), .string (mkB x2)] 26))
              rw [hX] at HRX
              rw [hX, hq]
              have hgs : g ≤ w2.heap.size := by rw [← HG.out]; exact HB5.out.size
              have HBX := Lib.hid (HB5.out.trans (hxb.mono hgs))
              clear hX hq hxb hen hgs
              cases o
              · have he := diffE_no (allN2_no HIN.out HO.out)
                rw [HR.out] at he
                obtain ⟨rfl, rfl⟩ := Prod.mk.inj he
                go_wp2_with (go_at_call 58; refine (nmay_any _ _ _ HSX.out.1 HSX.out.2).mono ?_; rintro e w3 ⟨rfl, hb3⟩; rw [HO.out]; have HB3 := Lib.hid hb3; clear hb3)
                go_ret2
                exact ⟨_, rfl, dfs_row0 _ _, by rw [HG.out]; exact HBX.out.trans (HB3.out.mono (by rw [← HG.out]; exact HBX.out.size))⟩
              · go_wp2_with (go_at_call 58; refine (nmay_any _ _ _ HSX.out.1 HSX.out.2).mono ?_; rintro e w3 ⟨rfl, hb3⟩; rw [HO.out]; have HB3 := Lib.hid hb3; clear hb3)
                have hrg3 := HRX.out.kept (grown_of_below HB3.out) (by simp) (by simp)
                have HRG3 := Lib.hid hrg3
                have hms := hrg3.left_eq
                have hms0 := hrg.left_eq
                have HOK2 : Hid (∀ x ∈ ss ++ [(x1, x2)], okN x = true) := Lib.hid fun x hx => by
                  rcases List.mem_append.1 hx with q | q
                  · exact HOK.out x q
                  · rw [List.mem_singleton.1 q]; exact HO.out
                have HBN := Lib.hid (HBX.out.trans (HB3.out.mono (by rw [← HG.out]; exact HBX.out.size)))
                clear hrg3
                go_roundw
                case rel => exact ⟨_, cnt2, ss ++ [(x1, x2)], HRG3.out, HC2.out, HOK2, HBN⟩
                case measure => rw [hms, hms0]; exact hlt3
theorem diffE_nil (now : List Nd) : diffE [] now = if allN2 now = true then (difL [] now, 0) else ([], 1) := rfl
end Go.Proofs.YtglhjdbnpdoinaaGreat

namespace Go.Proofs.YtglhjdbnpdoinaaGreat
open Go.RowKit
set_option linter.unusedVariables false
set_option maxRecDepth 100000

theorem chk_eq (l : List De) : chkD l = if okD l = true then 0 else 1 := rfl
theorem byOk_take {l : List De} {k : Nat} (h : k < l.length) (hb : byOk (l.take k) = true) (h0 : (l.getD k zD).2 ≠ 0) (hi : inD (l.getD k zD).2 = true) : byOk (l.take (k + 1)) = true := by
  rw [byOk_iff] at *
  intro e he
  rw [List.take_succ_eq_append_getElem h, List.mem_append] at he
  rcases he with he | he
  · exact hb e he
  · rw [List.mem_singleton.1 he, ← df_getD h]; exact ⟨h0, hi⟩
theorem okD_far {l : List De} {k : Nat} (h : k < l.length) (hi : inD (l.getD k zD).2 = false) : okD l = false := by
  cases e : okD l
  · rfl
  · have := okD_in e _ (df_mem h)
    rw [hi] at this; cases this
theorem okD_zero {l : List De} {k : Nat} (h : k < l.length) (hi : (l.getD k zD).2 = 0) : okD l = false := by
  cases e : okD l
  · rfl
  · exact absurd hi (okD_nz e _ (df_mem h))
theorem keyD_take {l : List De} {k : Nat} (h : k < l.length) : keyD (l.take (k + 1)) = keyD (l.take k) ++ [(l.getD k zD).1] := by
  rw [List.take_succ_eq_append_getElem h, df_getD h]; unfold keyD; rw [List.map_append]; rfl
/-- Edits whose nodes are not too long to be looked at, in the bounds of a machine's number. -/
def smallD (e : De) : Prop := smallN e.1 ∧ fitI e.2

set_option maxHeartbeats 800000 in
theorem beyond_any (p v : List UInt8) (z : Int) (w : World) :
    Calls Tryz.prog 49 #[.agg #[.string (mkB p), .string (mkB v), .int .i64 z]] w fun e w' => e = .returned (.bool (!inD z)) ∧ Below w.heap.size w w' := by
  obtain ⟨W, g, hW, hg, c0, c1, c2, hb⟩ := boxD1 w (.string (mkB p)) (.string (mkB v)) (.int .i64 z) 56
  have B := Lib.hid hb; have HW := Lib.hid hW; have HG := Lib.hid hg; clear hb hW hg
  by_cases t0 : z < -1099511627776
  · have d0 : decide (z < -1099511627776) = true := by simp [t0]
    have e : inD z = false := by unfold inD; rw [decide_eq_false (by omega)]; rfl
    rw [e]
    clear t0 e
    go_enter Tryz.func49, Tryz.ntmps49
    go_upto_region 1 with fail
    rw [HW.out, HG.out]
    go_wp2
    go_ret
    exact ⟨rfl, B.out⟩
  · have d0 : decide (z < -1099511627776) = false := by simp [t0]
    by_cases t1 : 1099511627776 < z
    · have d1 : decide (1099511627776 < z) = true := by simp [t1]
      have e : inD z = false := by unfold inD; rw [decide_eq_false (show ¬ z ≤ 1099511627776 by omega), Bool.and_false]
      rw [e]
      clear t0 t1 e
      go_enter Tryz.func49, Tryz.ntmps49
      go_upto_region 1 with fail
      rw [HW.out, HG.out]
      go_wp2
      go_ret
      exact ⟨rfl, B.out⟩
    · have d1 : decide (1099511627776 < z) = false := by simp [t1]
      have e : inD z = true := by rw [inD_iff]; omega
      rw [e]
      clear t0 t1 e
      go_enter Tryz.func49, Tryz.ntmps49
      go_upto_region 1 with fail
      rw [HW.out, HG.out]
      go_wp2
      go_ret
      exact ⟨rfl, B.out⟩

set_option maxHeartbeats 1600000 in
theorem dcheck_any (V : Value) (l : List De) (w : World) (h : Dfs w V l) (hs : ∀ e ∈ l, smallD e) (hl : l.length ≤ 1000000) :
    Calls Tryz.prog 36 #[V] w fun e w' => e = .returned (.int .i64 (chkD l)) ∧ Below w.heap.size w w' := by
  obtain ⟨a, c, rfl, h1, h2, -, -⟩ := h.ex
  unfold maxLen at h2
  obtain ⟨n, hn⟩ : ∃ n, l.length = n := ⟨_, rfl⟩
  obtain ⟨R, hR⟩ : ∃ R, chkD l = R := ⟨_, rfl⟩
  rw [hR]
  rw [hn] at h1 h hl ⊢
  have ST := Lib.hid h; have HS := Lib.hid hs; have HN := Lib.hid hn; have HR := Lib.hid hR
  clear h hs hn hR
  go_enter Tryz.func36, Tryz.ntmps36
  go_wp2
  go_loopw [3, 8] (fun v i wr => ∃ (k : Nat) (acc : List Nd), k ≤ n ∧ i = .int .i64 k ∧ acc.length = k ∧ Hid (acc = keyD (l.take k)) ∧ Hid (byOk (l.take k) = true) ∧ wr.ownsRow w.heap.size 26 2 v acc.length (ndsC acc) ∧ Hid (Below w.heap.size w wr)) (fun _ i _ => n - (intOf i).toNat)
  case atStart => exact ⟨0, [], Nat.zero_le _, rfl, rfl, Lib.hid rfl, Lib.hid rfl, World.ownsRow_nil _ _ _ _, Lib.hid (Below.refl _ _)⟩
  case round =>
    obtain ⟨k, acc, hk, rfl, hal, HACC, HBY, hown, HB⟩ := hrel
    by_cases hlt : k < n
    · have hkl : k < l.length := by rw [HN.out]; exact hlt
      obtain ⟨b, off, rfl, -, hc0, hc1, hc2⟩ := (ST.out.below HB.out).at k hkl
      have hz0 := fun e => (chkD_no (okD_zero hkl e) : chkD l = 1)
      have hz1 := fun e => (chkD_no (okD_far hkl e) : chkD l = 1)
      have hz2 := byOk_take hkl HBY.out
      have hz3 := keyD_take hkl
      rw [HR.out] at hz0 hz1
      obtain ⟨y, hy⟩ : ∃ y, y = l.getD k zD := ⟨_, rfl⟩
      rw [← hy] at hc0 hc1 hc2 hz0 hz1 hz2 hz3
      obtain ⟨⟨y1, y2⟩, z⟩ := y
      simp only at hc0 hc1 hc2 hz0 hz1 hz2 hz3
      have Z0 := Lib.hid hz0; have Z1 := Lib.hid hz1; have Z2 := Lib.hid hz2; have Z3 := Lib.hid hz3; have HOWN := Lib.hid hown; have HAL := Lib.hid hal
      clear hz0 hz1 hz2 hz3 hy hown
      have hkb : (k : Int) < (n : Int) := by omega
      have kb := fun w => beyond_any y1 y2 z w
      obtain ⟨I, hI⟩ : ∃ I, inD z = I := ⟨_, rfl⟩
      rw [hI] at kb
      have HI := Lib.hid hI; have KB := Lib.hid kb; clear hI kb
      by_cases t0 : z = 0
      · have hzb : (z == 0) = true := by simp [t0]
        obtain rfl := Z0.out t0
        clear t0
        go_wp2
        go_ret
        exact ⟨rfl, HB.out.alloc HB.out.size _⟩
      · have hzb : (z == 0) = false := by simp [t0]
        have HZ := Lib.hid t0
        clear t0
        cases I
        · obtain rfl := Z1.out HI.out
          go_upto_region 5 with fail
          obtain ⟨X, q, hX, hq, d0, d1, d2, hxb⟩ := boxD1 wr (.string (mkB y1)) (.string (mkB y2)) (.int .i64 z) 56
          rw [hX, hq]
          have BX := Lib.hid (below_step HB.out hxb)
          clear hX hq hc0 hc1 hc2 hxb
          go_wp2_with (go_at_call 49; refine (KB.out _).mono ?_; rintro e w1 ⟨rfl, hb1⟩; have B1 := Lib.hid (below_step BX.out hb1); clear hb1)
          go_ret
          exact ⟨rfl, B1.out⟩
        · go_upto_region 5 with fail
          obtain ⟨X, q, hX, hq, d0, d1, d2, hxb⟩ := boxD1 wr (.string (mkB y1)) (.string (mkB y2)) (.int .i64 z) 56
          rw [hX, hq]
          have BX := Lib.hid (below_step HB.out hxb); have HO1 := Lib.hid (ownsRow_belowB HOWN.out hxb)
          clear hX hq hc0 hc1 hc2 hxb
          go_wp2_with (first
            | (go_at_call 49; refine (KB.out _).mono ?_; rintro e w1 ⟨rfl, hb1⟩; have B1 := Lib.hid (below_step BX.out hb1); replace HO1 := Lib.hid (ownsRow_belowB HO1.out hb1); replace d0 := cell_keep d0 hb1; replace d1 := cell_keep d1 hb1; replace d2 := cell_keep d2 hb1; clear hb1)
            | (at_builtin; refine wpList_append_new rfl _ _ 27 rfl w.heap.size 26 (.agg #[.string ByteArray.empty, .string ByteArray.empty]) 2 32 Tryz.underlying27 Tryz.info_node rfl (by decide) _ _ _ rfl HO1.out [.string (mkB y1), .string (mkB y2)] rfl rfl rfl (by omega) (by unfold maxLen; omega) B1.out.size ?_))
          intro v' w' hown' hb'
          have e2 : ndsC acc ++ [.string (mkB y1), .string (mkB y2)] = ndsC (acc ++ [(y1, y2)]) := (ndsC_snoc acc (y1, y2)).symm
          rw [e2] at hown'
          have ho2 : w'.ownsRow w.heap.size 26 2 v' (acc ++ [(y1, y2)]).length (ndsC (acc ++ [(y1, y2)])) := by rw [List.length_append, HAL.out]; exact hown'
          have HO2 := Lib.hid ho2; have HBN := Lib.hid (B1.out.trans hb'.toBelow)
          have HAC : Hid (acc ++ [(y1, y2)] = keyD (l.take (k + 1))) := Lib.hid (by rw [Z3.out, HACC.out])
          have HBY2 := Lib.hid (Z2.out HZ.out HI.out)
          clear ho2 hown' hb'
          go_wp2
          go_roundw
          case rel => exact ⟨k + 1, acc ++ [(y1, y2)], by omega, by go_num, by rw [List.length_append, HAL.out]; rfl, HAC, HBY2, HO2.out, HBN⟩
          case measure => simp [intOf]; omega
    · have e : k = n := by omega
      subst e
      have hac := HACC.out
      have hby := HBY.out
      rw [List.take_of_length_le (by rw [HN.out]; exact Nat.le_refl _)] at hac hby
      obtain ⟨a2, c2, rfl, hnd⟩ := ndsO hown
      have hsn : ∀ x ∈ acc, smallN x := fun x hx => by
        rw [hac] at hx
        obtain ⟨e, he, rfl⟩ := List.mem_map.1 hx
        exact (HS.out e he).1
      have hre : R = if checkN acc = true then 0 else 1 := by rw [← HR.out, hac, chk_eq]; unfold okD; rw [hby, Bool.true_and]
      have kc := ncheck_any _ acc wr hnd hsn
      rw [← hre] at kc
      have KC := Lib.hid kc
      rw [hal] at KC ⊢
      clear hac hby hown hnd hsn hre kc
      go_wp2_with (go_at_call 50; refine KC.out.mono ?_; rintro e w1 ⟨rfl, hb1⟩; have B1 := Lib.hid (below_step HB.out hb1); clear hb1)
      go_ret
      exact ⟨rfl, B1.out⟩
end Go.Proofs.YtglhjdbnpdoinaaGreat

namespace Go.Proofs.YtglhjdbnpdoinaaGreat
open Go.RowKit
set_option linter.unusedVariables false
set_option maxRecDepth 100000

theorem dflat_take {α : Type} (ls : List (List α)) (k : Nat) (h : k < ls.length) : (ls.take (k + 1)).flatten = (ls.take k).flatten ++ ls.getD k [] := by
  rw [List.take_succ_eq_append_getElem h, List.flatten_append]
  simp [List.getD_eq_getElem?_getD, h]
theorem dflat_le {α : Type} (ls : List (List α)) (k : Nat) : (ls.take k).flatten.length ≤ ls.flatten.length := by
  conv => rhs; rw [← List.take_append_drop k ls, List.flatten_append, List.length_append]
  omega

/-! ### Dfs -/
/-- A slice of slices, in memory. -/
structure DfsL (w : World) (v : Value) (ls : List (List De)) : Prop where
  ex : ∃ b off c, v = .slice (some ⟨b, off, none⟩) ls.length c ∧ ls.length ≤ c ∧ c ≤ maxLen ∧ ∀ j, j < ls.length → ∃ a n c', w.cell? ⟨b, off + j, none⟩ = some (.slice a n c') ∧ Dfs w (.slice a n c') (ls.getD j [])
theorem DfsL.below {w w' : World} {v : Value} {ls : List (List De)} (h : DfsL w v ls) (hb : Below w.heap.size w w') : DfsL w' v ls := by
  obtain ⟨b, off, c, hv, h1, h2, h3⟩ := h.ex
  refine ⟨b, off, c, hv, h1, h2, fun j hj => ?_⟩
  obtain ⟨a, n, c', h4, h5⟩ := h3 j hj
  exact ⟨a, n, c', cell_keep h4 hb, Dfs.below h5 hb⟩
theorem df_back (w : World) (A : Option Addr) (n c i : Nat) (h : i ≤ n) (hc : n ≤ c) : (Instr.sliceAt 22 (.slice A n c) (some (.int .i64 i)) none none).run Tryz.prog w = .ok (sliced A i n c 3) w := by
  have h1 : (0 : Int) ≤ (i : Int) := by omega
  have h2 : (i : Int) ≤ (n : Int) := by omega
  have h3 : (n : Int) ≤ (c : Int) := by omega
  go_simp
theorem df_front (w : World) (A : Option Addr) (n c i : Nat) (h : i ≤ c) : (Instr.sliceAt 22 (.slice A n c) none (some (.int .i64 i)) none).run Tryz.prog w = .ok (sliced A 0 i c 3) w := by
  have h1 : (0 : Int) ≤ (i : Int) := by omega
  have h2 : (i : Int) ≤ (c : Int) := by omega
  go_simp

set_option maxHeartbeats 1600000 in
theorem df_grow (n : Nat) (w : World) (hn : n ≤ 4000000) :
    Calls Tryz.prog 87 #[.slice none 0 0, .int .i64 (n : Int)] w fun e w' => ∃ v, e = .returned v ∧ w'.ownsRow w.heap.size 56 3 v 0 [] ∧ Below w.heap.size w w' := by
  obtain ⟨i, hi, hz, hsize, hby⟩ := info_parts Tryz.info_df
  by_cases h0 : n = 0
  · subst h0
    go_enter Tryz.func87, Tryz.ntmps87
    go_wp2
    go_ret
    exact ⟨_, rfl, World.ownsRow_nil _ _ _ _, Below.refl _ _⟩
  · have hp : 0 < n := by omega
    have hpI : (0 : Int) < (n : Int) := by omega
    have hc1 := grownCap_ge w n 0 56
    have hc2 := grownCap_le_maxLen w n 0 56 (by unfold maxLen; omega)
    have hr := fun ty => Lib.run_append_nil_zeros (P := Tryz.prog) w 22 3 ty 56 i zDV .i64 .i64 Tryz.underlying22 Tryz.underlying3 hi hz n hp (by rw [hsize]; decide) (by omega) (by rw [hby]; omega)
    obtain ⟨C, hC⟩ : ∃ C, grownCap w n 0 56 = C := ⟨_, rfl⟩
    rw [hC] at hc1 hc2 hr
    obtain ⟨cs, hcs⟩ : ∃ cs, Builtin.zeroCells (Value.cells zDV) n ++ Builtin.zeroCells (Value.cells zDV) (C - n) = cs := ⟨_, rfl⟩
    have hsz : cs.size = C * 3 := by
      have e1 : (Value.cells zDV).size = 3 := rfl
      rw [← hcs, Array.size_append, size_zeroCells, size_zeroCells, e1, ← Nat.add_mul]
      congr 1
      omega
    rw [hcs] at hr
    have hown : (w.drew.alloc (.cells cs 56)).ownsRow w.heap.size 56 3 (.slice (some ⟨w.heap.size, 0, none⟩) 0 C) 0 [] := World.ownsRow_made w.drew cs C (Nat.le_refl _) hc2 hsz
    have hbel : Below w.heap.size w (w.drew.alloc (.cells cs 56)) := ((Below.refl _ w).drew).alloc (by simp) _
    obtain ⟨W, hW⟩ : ∃ W, w.drew.alloc (.cells cs 56) = W := ⟨_, rfl⟩
    rw [hW] at hown hbel hr
    have HO := Lib.hid hown; have HB := Lib.hid hbel
    clear hC hcs hsz hown hbel hW hi hz hsize hby
    unfold maxLen at hc2
    go_enter Tryz.func87, Tryz.ntmps87
    go_wp2_with (at_builtin; refine Lib.wpList_append_run _ rfl _ _ 22 3 rfl _ _ rfl rfl _ _ (hr _) ?_)
    go_ret
    exact ⟨_, rfl, HO.out, HB.out⟩

set_option maxHeartbeats 3200000 in
theorem df_concat (V : Value) (ls : List (List De)) (w : World) (h : DfsL w V ls) (hm : ls.length ≤ 1000) (hl : ls.flatten.length ≤ 2000000) :
    Calls Tryz.prog 75 #[V] w fun e w' => ∃ v, e = .returned v ∧ w'.ownsRow w.heap.size 56 3 v ls.flatten.length (dfC ls.flatten) ∧ Below w.heap.size w w' := by
  obtain ⟨b, off, c, rfl, h1, h2, h3⟩ := h.ex
  unfold maxLen at h2
  obtain ⟨m, hmm⟩ : ∃ m, ls.length = m := ⟨_, rfl⟩
  obtain ⟨R, hR⟩ : ∃ R, ls.flatten = R := ⟨_, rfl⟩
  obtain ⟨r, hr⟩ : ∃ r, R.length = r := ⟨_, rfl⟩
  have hfl := fun k => dflat_le ls k
  have hst := fun k => dflat_take ls k
  rw [hmm] at h1 hm h3 hst
  rw [hR] at hl hfl
  rw [hR, hr]
  rw [hr] at hl hfl
  have H3 := Lib.hid h3; have HM := Lib.hid hmm; have HR := Lib.hid hR; have HRL := Lib.hid hr; have HFL := Lib.hid hfl; have HST := Lib.hid hst
  clear h h3 hmm hR hr hfl hst
  rw [HM.out]
  go_enter Tryz.func75, Tryz.ntmps75
  go_wp2
  go_loopw [3, 11] (fun v3 v11 wr => ∃ k s : Nat, k ≤ m ∧ v3 = .int .i64 (s : Int) ∧ v11 = .int .i64 (k : Int) ∧ s ≤ r ∧ Hid ((ls.take k).flatten.length = s) ∧ w = wr) (fun _ v _ => m - (intOf v).toNat)
  case atStart => exact ⟨0, 0, Nat.zero_le _, rfl, rfl, Nat.zero_le _, Lib.hid rfl, rfl⟩
  case round =>
    obtain ⟨k, s, hk, rfl, rfl, hs, HS, rfl⟩ := hrel
    by_cases hlt : k < m
    · obtain ⟨a, n, c', hc, hN⟩ := H3.out k hlt
      have hkb : (k : Int) < (m : Int) := by omega
      have hlen := hN.lenE
      have hs2 : (ls.take (k + 1)).flatten.length = s + n := by rw [HST.out k hlt, List.length_append, HS.out, hlen.1]
      have hle := HFL.out (k + 1)
      rw [hs2] at hle
      have HS2 := Lib.hid hs2
      obtain ⟨-, hn1, hn2⟩ := hlen
      unfold maxLen at hn2
      clear hN hs2
      go_wp2
      go_roundw
      case rel => exact ⟨k + 1, s + n, by omega, by go_num, by go_num, hle, HS2, by first | rfl | trivial⟩
      case measure => simp [intOf]; omega
    · have e : k = m := by omega
      subst e
      have hsr : s = r := by
        have := HS.out
        rw [List.take_of_length_le (by rw [HM.out]; exact Nat.le_refl _), HR.out, HRL.out] at this
        exact this.symm
      subst hsr
      clear HS
      go_wp2_with (go_at_call 87; refine (df_grow _ _ (by omega)).mono ?_; rintro e w1 ⟨v1, rfl, hown1, hb1⟩; have HO := Lib.hid hown1; have HB := Lib.hid hb1; clear hown1 hb1)
      go_loopw [6, 27] (fun v6 v27 wr => ∃ (j : Nat) (ys : List De), j ≤ k ∧ v27 = .int .i64 (j : Int) ∧ ys.length ≤ s ∧ Hid (ys = (ls.take j).flatten) ∧ wr.ownsRow w.heap.size 56 3 v6 ys.length (dfC ys) ∧ Hid (Below w.heap.size w wr)) (fun _ v _ => k - (intOf v).toNat)
      case atStart => exact ⟨0, [], Nat.zero_le _, rfl, Nat.zero_le _, Lib.hid rfl, HO.out, HB⟩
      case round =>
        obtain ⟨j, ys, hj, rfl, hys, HY, hown, HB2⟩ := hrel
        by_cases hlt2 : j < k
        · obtain ⟨a, n, c', hc0, hN0⟩ := H3.out j hlt2
          have hjb : (j : Int) < (k : Int) := by omega
          have hc := cell_keep hc0 HB2.out
          have SN := Lib.hid (Dfs.below hN0 HB2.out)
          have hlen := hN0.lenE
          have hld : (dfC (ls.getD j [])).length = n * 3 := by rw [dfC_len, hlen.1]
          have hY2 : (ls.take (j + 1)).flatten = ys ++ ls.getD j [] := by rw [HST.out j hlt2, HY.out]
          have hle := HFL.out (j + 1)
          rw [hY2, List.length_append, hlen.1] at hle
          obtain ⟨Z, hZ⟩ : ∃ Z, ls.getD j [] = Z := ⟨_, rfl⟩
          rw [hZ] at hY2 hld SN
          have hZn : Z.length = n := by rw [← hZ]; exact hlen.1
          have HY2 := Lib.hid hY2; have HZN := Lib.hid hZn
          obtain ⟨-, hn1, hn2⟩ := hlen
          unfold maxLen at hn2
          obtain ⟨ny, hny⟩ : ∃ ny, ys.length = ny := ⟨_, rfl⟩
          rw [hny] at hle hys hown
          have HNY := Lib.hid hny
          clear hN0 hY2 hZ hZn hc0 hny
          go_wp2_with (at_builtin; refine wpList_append_src rfl _ _ 22 rfl w.heap.size 56 zDV 3 40 Tryz.underlying22 Tryz.info_df rfl (by decide) _ ny (dfC ys) rfl hown a n c' (dfC Z) rfl hld SN.out.nil SN.out.src (dfC_one _) (by omega) (by unfold maxLen; omega) HB2.out.size ?_)
          intro v' w' hown' hb'
          have ho2 : w'.ownsRow w.heap.size 56 3 v' (ys ++ Z).length (dfC (ys ++ Z)) := by
            rw [dfC_app, List.length_append, HNY.out, HZN.out]; exact hown'
          have HO2 := Lib.hid ho2
          have HB3 := Lib.hid (HB2.out.trans hb'.toBelow)
          clear hown hown' ho2 hb' hld
          go_wp2
          go_roundw
          case rel => exact ⟨j + 1, ys ++ Z, by omega, by go_num, by rw [List.length_append, HNY.out, HZN.out]; exact hle, Lib.hid HY2.out.symm, HO2.out, HB3⟩
          case measure => simp [intOf]; omega
        · have e : j = k := by omega
          subst e
          have e2 : ys = R := by
            have := HY.out
            rwa [List.take_of_length_le (by rw [HM.out]; exact Nat.le_refl _), HR.out] at this
          subst e2
          have HO2 := Lib.hid hown; clear hown
          go_wp2
          go_ret
          refine ⟨_, rfl, ?_, HB2.out⟩
          have := HO2.out
          rwa [HRL.out] at this

end Go.Proofs.YtglhjdbnpdoinaaGreat

namespace Go.Proofs.YtglhjdbnpdoinaaGreat
open Go.RowKit
set_option linter.unusedVariables false
set_option maxRecDepth 100000

/-- A row of the call's own, among the blocks from N on. -/
def rowG (N : Nat) (e : TypeId) (size n : Nat) (xs : List Value) : World → Value → Option Nat → Prop := fun w v ob => w.ownsRow N e size v n xs ∧ ob = v.ownBlock
theorem row_heap {w w' : World} {base : Nat} {e : TypeId} {size : Nat} {v : Value} {n : Nat} {xs : List Value} (h : w.ownsRow base e size v n xs) (hb : ∀ b, v.ownBlock = some b → w'.heap[b]? = w.heap[b]?) : w'.ownsRow base e size v n xs := by
  obtain ⟨h1, h2⟩ := h
  refine ⟨h1, h2.imp id ?_⟩
  rintro ⟨g, cap, cur, rfl, hg, hh, h3⟩
  exact ⟨g, cap, cur, rfl, hg, (hb g rfl).trans hh, h3⟩
theorem rowG_near {N : Nat} {e : TypeId} {size n : Nat} {xs : List Value} : ∀ (w w' : World) (v : Value) (ob : Option Nat), (∀ b, ob = some b → w'.heap[b]? = w.heap[b]?) → rowG N e size n xs w v ob → rowG N e size n xs w' v ob := by
  rintro w w' v ob hb ⟨h, rfl⟩
  exact ⟨row_heap h hb, rfl⟩
/-- A slice of a whole block of its own. -/
def blkG (t : TypeId) (cs : Array Value) (k : Nat) : World → Value → Option Nat → Prop := fun w u ob => ∃ b, u = .slice (some ⟨b, 0, none⟩) k k ∧ ob = some b ∧ w.heap[b]? = some (.cells cs t (0, 0))
theorem blkG_near {t : TypeId} {cs : Array Value} {k : Nat} : ∀ (w w' : World) (u : Value) (ob : Option Nat), (∀ b, ob = some b → w'.heap[b]? = w.heap[b]?) → blkG t cs k w u ob → blkG t cs k w' u ob := by
  rintro w w' u ob hb ⟨b, rfl, rfl, h⟩
  exact ⟨b, rfl, rfl, (hb b rfl).trans h⟩
/-- A row of the call's own, whatever slot it is told of. -/
def rowX (X : Value) (N : Nat) (e : TypeId) (size n : Nat) (xs : List Value) : World → Value → Option Nat → Prop := fun w _ ob => w.ownsRow N e size X n xs ∧ ob = X.ownBlock
theorem rowX_near {X : Value} {N : Nat} {e : TypeId} {size n : Nat} {xs : List Value} : ∀ (w w' : World) (v : Value) (ob : Option Nat), (∀ b, ob = some b → w'.heap[b]? = w.heap[b]?) → rowX X N e size n xs w v ob → rowX X N e size n xs w' v ob := by
  rintro w w' v ob hb ⟨h, rfl⟩
  exact ⟨row_heap h hb, rfl⟩
/-- Rows of different elements lie in different blocks. -/
theorem own_apart {w : World} {N N' : Nat} {e e' : TypeId} {s s' n n' : Nat} {x y : Value} {xs ys : List Value} (h : w.ownsRow N e s x n xs) (h' : w.ownsRow N' e' s' y n' ys) (hne : e ≠ e') : ∀ b, x.ownBlock = some b → y.ownBlock ≠ some b := by
  intro b hb hb'
  rcases h.2 with ⟨rfl, _⟩ | ⟨g, cap, cur, rfl, _, hg, _⟩
  · cases hb
  · rcases h'.2 with ⟨rfl, _⟩ | ⟨g', cap', cur', rfl, _, hg', _⟩
    · cases hb'
    · have e1 : g = b := Option.some.inj hb
      have e2 : g' = b := Option.some.inj hb'
      subst e1 e2
      rw [hg] at hg'
      injection hg' with hg'
      injection hg' with _ hg'
      exact hne hg'
/-- A row lies not where a box does, of another type. -/
theorem own_nebox {w : World} {N g : Nat} {e t : TypeId} {s n : Nat} {x : Value} {xs : List Value} {cs : Array Value} (h : w.ownsRow N e s x n xs) (hg : w.heap[g]? = some (.cells cs t (0, 0))) (hne : e ≠ t) : x.ownBlock ≠ some g := by
  intro hb
  rcases h.2 with ⟨rfl, _⟩ | ⟨b, cap, cur, rfl, _, hh, _⟩
  · cases hb
  · have e1 : b = g := Option.some.inj hb
    subst e1
    rw [hg] at hh
    injection hh with hh
    injection hh with _ hh
    exact hne hh.symm
theorem idx_nds {w : World} {b off n c k : Nat} (h : k < n) : (Instr.indexAt 27 (.slice (some ⟨b, off, none⟩) n c) (.int .i64 (k : Int))).run Tryz.prog w = .ok (.pointer (some ⟨b, off + k * 2, none⟩)) w := by
  have h1 : (0 : Int) ≤ (k : Int) := by omega
  have h3 : (k : Int) < (n : Int) := by omega
  go_simp
theorem ld_node {w : World} {g i : Nat} {p v : List UInt8} (h : w.cell? ⟨g, i, none⟩ = some (.string (mkB p))) (h' : w.cell? ⟨g, i + 1, none⟩ = some (.string (mkB v))) : Sem.run Tryz.prog (Instr.loadAt 26 (.pointer (some ⟨g, i, none⟩))) w = .ok (.agg #[.string (mkB p), .string (mkB v)]) w := by
  go_simp
section
variable {P : Program} {ops : Array Oper} {a : Act} {w : World} {o : Oper}
theorem ex_back {t : TypeId} {x y : Operand} {vx vy v : Value} (hop : o.op = .slice t x (some y) none none) (hx : a.eval x = vx) (hy : a.eval y = vy) (hr : Sem.run P (Instr.sliceAt t vx (some vy) none none) w = .ok v w) : Sem.run P (execOp a.eval o) w = .ok (.value v) w := by
  simp only [execOp, hop, Option.map, hx, hy]
  simp [hr]
end
end Go.Proofs.YtglhjdbnpdoinaaGreat

namespace Go.Proofs.YtglhjdbnpdoinaaGreat
open Go.RowKit
set_option linter.unusedVariables false
set_option maxRecDepth 100000

theorem idx_df {w : World} {b off n c k : Nat} (h : k < n) : (Instr.indexAt 22 (.slice (some ⟨b, off, none⟩) n c) (.int .i64 (k : Int))).run Tryz.prog w = .ok (.pointer (some ⟨b, off + k * 3, none⟩)) w := by
  have h1 : (0 : Int) ≤ (k : Int) := by omega
  have h3 : (k : Int) < (n : Int) := by omega
  go_simp
theorem idx0_df {w : World} {b off n c : Nat} (h : 0 < n) : (Instr.indexAt 22 (.slice (some ⟨b, off, none⟩) n c) (.int .i64 0)).run Tryz.prog w = .ok (.pointer (some ⟨b, off, none⟩)) w := by
  have h3 : (0 : Int) < (n : Int) := by omega
  go_simp
theorem fld_df {w : World} {b off : Nat} : Sem.run Tryz.prog (Instr.fieldAt 56 (.pointer (some ⟨b, off, none⟩)) 0) w = .ok (.pointer (some ⟨b, off, none⟩)) w := by go_simp
theorem fld2_df {w : World} {b off : Nat} : Sem.run Tryz.prog (Instr.fieldAt 56 (.pointer (some ⟨b, off, none⟩)) 1) w = .ok (.pointer (some ⟨b, off + 2, none⟩)) w := by go_simp
theorem ld_df {w : World} {g i : Nat} {p v : List UInt8} {z : Int} (h : w.cell? ⟨g, i, none⟩ = some (.string (mkB p))) (h' : w.cell? ⟨g, i + 1, none⟩ = some (.string (mkB v))) (h2 : w.cell? ⟨g, i + 2, none⟩ = some (.int .i64 z)) : Sem.run Tryz.prog (Instr.loadAt 56 (.pointer (some ⟨g, i, none⟩))) w = .ok (.agg #[.string (mkB p), .string (mkB v), .int .i64 z]) w := by
  go_simp
theorem ld_num {w : World} {g i : Nat} {z : Int} (h : w.cell? ⟨g, i, none⟩ = some (.int .i64 z)) : Sem.run Tryz.prog (Instr.loadAt 3 (.pointer (some ⟨g, i, none⟩))) w = .ok (.int .i64 z) w := by
  go_simp
theorem build_df {w : World} {p v : List UInt8} {z : Int} : Sem.run Tryz.prog (Instr.build 56 #[(0, .agg #[.string (mkB p), .string (mkB v)]), (1, .int .i64 z)]) w = .ok (.agg #[.string (mkB p), .string (mkB v), .int .i64 z]) w := by go_simp
theorem tail_df (w : World) (A : Option Addr) (n c : Nat) (h : 1 ≤ n) (hc : n ≤ c) : (Instr.sliceAt 22 (.slice A n c) (some (.int .i64 1)) none none).run Tryz.prog w = .ok (sliced A 1 n c 3) w := by
  have h1 : (1 : Int) ≤ (n : Int) := by omega
  have h2 : (n : Int) ≤ (c : Int) := by omega
  go_simp
theorem Dfs.first {w : World} {A : Option Addr} {n c : Nat} {p v : List UInt8} {z : Int} {t : List De} (h : Dfs w (.slice A n c) (((p, v), z) :: t)) : ∃ b off, A = some ⟨b, off, none⟩ ∧ b < w.heap.size ∧ w.cell? ⟨b, off, none⟩ = some (.string (mkB p)) ∧ w.cell? ⟨b, off + 1, none⟩ = some (.string (mkB v)) ∧ w.cell? ⟨b, off + 2, none⟩ = some (.int .i64 z) := by
  obtain ⟨b, off, h1, h2, h3, h4, h5⟩ := h.at 0 (by simp)
  exact ⟨b, off, h1, h2, by simpa using h3, by simpa using h4, by simpa using h5⟩
theorem Dfs.rest {w : World} {A : Option Addr} {n c : Nat} {x : De} {t : List De} (h : Dfs w (.slice A n c) (x :: t)) : ∃ A' m d, (∀ w, (Instr.sliceAt 22 (.slice A n c) (some (.int .i64 1)) none none).run Tryz.prog w = .ok (.slice A' m d) w) ∧ n = m + 1 ∧ Dfs w (.slice A' m d) t := by
  obtain ⟨h1, h2, h3⟩ := h.lenE
  have h4 := h.cut (i := 1) (by simp)
  simp only [List.length_cons] at h1
  refine ⟨_, n - 1, c - 1, fun w => tail_df w A n c (by omega) h2, by omega, h4⟩
theorem blkG.dfs {w : World} {b : Nat} {p v : List UInt8} {z : Int} (h : w.heap[b]? = some (.cells #[.string (mkB p), .string (mkB v), .int .i64 z] 56 (0, 0))) : Dfs w (.slice (some ⟨b, 0, none⟩) 1 1) [((p, v), z)] := by
  obtain ⟨d0, d1, d2, -⟩ := row3 h
  refine ⟨some ⟨b, 0, none⟩, 1, rfl, Nat.le_refl _, by unfold maxLen; omega, (fun h => by cases h), fun _ => ⟨b, 0, rfl, (Array.getElem?_eq_some_iff.1 h).1, fun j hj => ?_⟩⟩
  have hj2 : j = 0 := by simp at hj; omega
  subst hj2
  exact ⟨d0, d1, d2⟩

theorem run_app_df {w : World} {base n : Nat} {v : Value} {K : List De} (hown : w.ownsRow base 56 3 v n (dfC K)) {a0 : Option Addr} {m c : Nat} {L : List De} (hN : Dfs w (.slice a0 m c) L) (hlen : n + m ≤ 2000000) (hbase : base ≤ w.heap.size) (t : TypeId) :
    ∃ v' w', (Builtin.append_ #[22, 22] t #[v, .slice a0 m c]).run Tryz.prog w = .ok v' w' ∧ w'.ownsRow base 56 3 v' (n + m) (dfC (K ++ L)) ∧ w.grownBy w' v.ownBlock ∧ (v'.ownBlock = v.ownBlock ∨ v'.ownBlock = some w.heap.size ∧ w.heap.size < w'.heap.size) := by
  obtain ⟨i, hi, hz, hsize, hby⟩ := info_parts Tryz.info_df
  have hm : m = L.length := hN.lenE.1.symm
  cases a0 with
  | none =>
    obtain ⟨rfl, rfl⟩ := hN.nil rfl
    have hL : L = [] := List.eq_nil_of_length_eq_zero hm.symm
    subst hL
    have hr := run_append_owned_none (P := Tryz.prog) (w := w) base 22 t 56 i 3 Tryz.underlying22 hi v n _ hown
    exact ⟨v, w, hr, by simpa using hown, ⟨rfl, rfl, rfl, Nat.le_refl _, fun _ _ _ => rfl⟩, .inl rfl⟩
  | some ad =>
    obtain ⟨v', w', hr, h2, h3, _, h5⟩ := run_append_own_at (P := Tryz.prog) w base 22 t 56 i zDV 3 40 Tryz.underlying22 hi hz hsize hby rfl (by decide) v n _ hown ad m c (dfC L) (by rw [dfC_len, hm]) (hN.src ad rfl) (fun u hu => List.all_eq_true.1 (dfC_one L) u hu) (by unfold maxLen; omega) (by omega) hbase
    rw [← dfC_app] at h2
    refine ⟨v', w', hr, h2, h3, h5.imp id fun e => ⟨e, ?_⟩⟩
    exact (h2.lt _ e).2
section
variable {ops : Array Oper} {Q : Exit → Act → World → Prop} {a : Act} {w w0 : World} {who : Nat → Nat} {i B r ro : Nat} {o : Oper}
/-- 'append(row, l...)', the row one that a box's field holds. -/
theorem rol_app_df (ho : ops[i]? = some o) (hw : Region.wanted o (yielded ops a.tmps) = true) {s : Nat} (hd : o.dst = some s) (hs : s < a.tmps.size) {y x : Operand} (hop : o.op = .call { callee := .builtin .append, args := #[y, x], argTypes := #[22, 22] })
    {N n t : Nat} {K : List De} {X : Value} (h : (RLeaf.mem t (rowX X N 56 3 n (dfC K))).holds r a w who) (hy : a.eval y = X) {a0 : Option Addr} {m c : Nat} (hx : a.eval x = .slice a0 m c) {L : List De} (hN : Dfs w (.slice a0 m c) L) (hlen : n + m ≤ 2000000) (hb : Below B w0 w) (hB : B ≤ N) (hNw : N ≤ w.heap.size) {n' : Nat} {K' : List De} (hn : n' = n + m) (hK : K' = K ++ L) :
    wpOp Tryz.prog ops Q i (RPost ops i r r (.mem s (rowG N 56 3 n' (dfC K'))) B w0 a w who) a w := by
  subst hn hK
  obtain ⟨v, ob, hv, hob, hrow, rfl⟩ := h
  obtain ⟨v', w', hr, h2, h3, h5⟩ := run_app_df hrow hN hlen hNw o.type
  exact rol_grow ho hw hd hs (ex_append hop hy hx hr) h3 hob h5 ⟨h2, rfl⟩ hb (Nat.le_trans hB hNw) (fun b e => Nat.le_trans hB (own_lt hrow e).1)
end
section
variable {wr : World} {ops : Array Oper} {rest : List Oper} {o : Oper} {a : Act} {Q : Exit → Act → World → Prop}
/-- 'l = append(l, x)', l the call's own: x has just been laid in a block of its own. -/
theorem wpList_push_df (hgd : o.guard = none) (s x : Operand) (ho : o.op = .call { callee := .builtin .append, args := #[s, x], argTypes := #[22, 22] })
    (base : Nat) (V : Value) (K : List De) (n : Nat) (hn : K.length = n) (hs : a.eval s = V) (hown : wr.ownsRow base 56 3 V n (dfC K)) (p v : List UInt8) (z : Int) (N : Nat) (hN : wr.heap.size = N) (hx : a.eval x = .slice (some ⟨N, 0, none⟩) 1 1) (hlen : n ≤ 1000000) (hbase : base ≤ wr.heap.size)
    (h : ∀ a' c' w', w'.ownsRow base 56 3 (.slice a' (n + 1) c') (n + 1) (dfC (K ++ [((p, v), z)])) → wr.grownBy w' V.ownBlock → wpList Tryz.prog ops Q rest (a.put o.dst (.slice a' (n + 1) c')) w') :
    wpList Tryz.prog ops Q (o :: rest) a (wr.alloc (.cells #[.string (mkB p), .string (mkB v), .int .i64 z] 56)) := by
  subst hN
  refine wpList_plain hgd fun K' hK' => ?_
  obtain ⟨v', w', hr, h2, h3, -⟩ := run_app_df (hown.alloc (.cells #[.string (mkB p), .string (mkB v), .int .i64 z] 56)) (blkG.dfs (heap_alloc_new wr (.cells #[.string (mkB p), .string (mkB v), .int .i64 z] 56))) (m := 1) (c := 1) (by omega) (by simp; omega) o.type
  have ho2 : w'.ownsRow base 56 3 v' (K ++ [((p, v), z)]).length (dfC (K ++ [((p, v), z)])) := by rw [List.length_append, hn]; exact h2
  obtain ⟨a', c', hv, _⟩ := dfsO ho2
  rw [List.length_append, hn, List.length_singleton] at hv
  subst hv
  have hk := h a' c' w' h2 ((World.grownBy_alloc wr _ _).trans h3)
  unfold Oper.wp
  simp [execOp, ho, resolve, invoke, builtin, hs, hx, hr, Result.andThen]
  exact hK' _ _ hk
end


section
variable {ops : Array Oper} {Q : Exit → Act → World → Prop} {a : Act} {w : World} {o : Oper} {K : Act → World → Prop} {E : Prop}
/-- An append of edits, as one step of a region that draws its order. -/
theorem step_app_df (hg : o.guard = none) (s x : Operand) (hop : o.op = Op.call { callee := Callee.builtin Builtin.append, args := #[s, x], argTypes := #[22, 22] }) {v u v' : Value} {w' : World} (hs : a.eval s = v) (hx : a.eval x = u)
    (hr : (Builtin.append_ #[22, 22] o.type #[v, u]).run Tryz.prog w = .ok v' w') (hK : K (a.put o.dst v') w') :
    if Region.wanted o (yielded ops a.tmps) = true then Oper.wp Tryz.prog o a w K Q else E := by
  have hw : Region.wanted o (yielded ops a.tmps) = true := by simp [Region.wanted, hg]
  rw [if_pos hw]
  unfold Oper.wp
  simp [execOp, hop, resolve, invoke, builtin, hs, hx, hr, Result.andThen]
  exact hK
end
end Go.Proofs.YtglhjdbnpdoinaaGreat

namespace Go.Proofs.YtglhjdbnpdoinaaGreat
open Go.RowKit
set_option linter.unusedVariables false
set_option maxRecDepth 100000

/-! ### Is any beyond -/
def allIn (l : List De) : Bool := l.all fun e => inD e.2
theorem allIn_drop {l : List De} {k : Nat} (h : k < l.length) : allIn (l.drop k) = (inD (l.getD k zD).2 && allIn (l.drop (k + 1))) := by
  unfold allIn; rw [List.drop_eq_getElem_cons h, List.all_cons, df_getD h]
set_option maxHeartbeats 800000 in
theorem dindexf_any (V : Value) (l : List De) (w : World) (h : Dfs w V l) :
    Calls Tryz.prog 48 #[V, .func (.func 49) #[] #[]] w fun e w' => (∃ i : Int, e = .returned (.int .i64 i) ∧ decide (0 ≤ i) = !allIn l) ∧ Below w.heap.size w w' := by
  obtain ⟨a, c, rfl, h1, h2, -, -⟩ := h.ex
  unfold maxLen at h2
  obtain ⟨n, hn⟩ : ∃ n, l.length = n := ⟨_, rfl⟩
  obtain ⟨R, hR⟩ : ∃ R, allIn l = R := ⟨_, rfl⟩
  rw [hR]
  rw [hn] at h1 h ⊢
  have ST := Lib.hid h; have HN := Lib.hid hn; have HR := Lib.hid hR
  clear h hn hR
  go_enter Tryz.func48, Tryz.ntmps48
  go_wp2
  go_loopw [8] (fun i wr => ∃ k : Nat, k ≤ n ∧ i = .int .i64 k ∧ Hid (allIn (l.drop k) = R) ∧ Hid (Below w.heap.size w wr)) (fun i _ => n - (intOf i).toNat)
  case atStart => exact ⟨0, Nat.zero_le _, rfl, Lib.hid (by simpa using HR.out), Lib.hid (Below.refl _ _)⟩
  case round =>
    obtain ⟨k, hk, rfl, H, HB⟩ := hrel
    by_cases hlt : k < n
    · have hkl : k < l.length := by rw [HN.out]; exact hlt
      obtain ⟨b, off, rfl, -, hc0, hc1, hc2⟩ := (ST.out.below HB.out).at k hkl
      have hd := allIn_drop hkl
      obtain ⟨y, hy⟩ : ∃ y, y = l.getD k zD := ⟨_, rfl⟩
      rw [← hy] at hc0 hc1 hc2 hd
      obtain ⟨⟨y1, y2⟩, z⟩ := y
      simp only at hc0 hc1 hc2 hd
      have kb := fun w => beyond_any y1 y2 z w
      obtain ⟨I, hI⟩ : ∃ I, inD z = I := ⟨_, rfl⟩
      rw [hI] at kb hd
      have KB := Lib.hid kb; have HD := Lib.hid hd
      clear hy hI kb hd
      have hkb : (k : Int) < (n : Int) := by omega
      cases I
      · go_wp2_with (go_at_call 49; refine (KB.out _).mono ?_; rintro e w1 ⟨rfl, hb1⟩; have B1 := Lib.hid (below_step HB.out hb1); clear hb1)
        go_ret
        refine ⟨⟨k, rfl, ?_⟩, B1.out⟩
        rw [← H.out, HD.out]; simp
      · go_wp2_with (go_at_call 49; refine (KB.out _).mono ?_; rintro e w1 ⟨rfl, hb1⟩; have B1 := Lib.hid (below_step HB.out hb1); clear hb1)
        have H5 : Hid (allIn (l.drop (k + 1)) = R) := Lib.hid (by rw [← H.out, HD.out]; simp)
        go_roundw
        case rel => exact ⟨k + 1, by omega, by go_num, H5, B1⟩
        case measure => simp [intOf]; omega
    · go_wp2
      go_ret
      refine ⟨⟨-1, rfl, ?_⟩, HB.out⟩
      rw [← H.out, List.drop_eq_nil_of_le (by rw [HN.out]; omega)]; rfl
set_option maxHeartbeats 400000 in
theorem dcontf_any (V : Value) (l : List De) (w : World) (h : Dfs w V l) :
    Calls Tryz.prog 34 #[V, .func (.func 49) #[] #[]] w fun e w' => e = .returned (.bool (!allIn l)) ∧ Below w.heap.size w w' := by
  have K := Lib.hid (dindexf_any V l w h)
  obtain ⟨a, c, rfl, -⟩ := h.ex
  obtain ⟨R, hR⟩ : ∃ R, (!allIn l) = R := ⟨_, rfl⟩
  obtain ⟨n, hn⟩ : ∃ n, l.length = n := ⟨_, rfl⟩
  rw [hR, hn] at K
  rw [hR, hn]
  clear hR hn h
  go_enter Tryz.func34, Tryz.ntmps34
  go_wp2_with (go_at_call 48; refine K.out.mono ?_; rintro e w1 ⟨⟨i, rfl, hi⟩, hb1⟩; have HI := Lib.hid hi; have B := Lib.hid hb1; clear hb1 hi)
  go_ret
  exact ⟨by rw [← HI.out]; rfl, B.out⟩

/-! ### A copy of edits -/
theorem copy_df {w : World} {g n c : Nat} {A : Option Addr} {l : List De} {cur : Array Value} (hN : Dfs w (.slice A n c) l) (hg : w.heap[g]? = some (.cells cur 56 (0, 0))) (hcur : cur.size = n * 3) (ty : TypeId) :
    (Builtin.copy_ #[22, 22] ty #[.slice (some ⟨g, 0, none⟩) n n, .slice A n c]).run Tryz.prog w = .ok (.int .i64 (n : Int)) (w.setRow g (dfC l).toArray) := by
  obtain ⟨i, hi, hz, hsize, hby⟩ := info_parts Tryz.info_df
  have hl : l.length = n := hN.lenE.1
  cases A with
  | none =>
    obtain ⟨rfl, rfl⟩ := hN.nil rfl
    have hL : l = [] := List.eq_nil_of_length_eq_zero hl
    subst hL
    have hc0 : cur = #[] := Array.eq_empty_of_size_eq_zero (by omega)
    subst hc0
    have e : w.setRow g (dfC []).toArray = w := setRow_self w g #[] _ _ hg
    rw [e]
    simp [Builtin.copy_, run_underlying Tryz.underlying22, Builtin.lenOf, Builtin.firstCells, sizeOf, typeInfo, hi, storeCells, goInt, Result.andThen]
  | some ad =>
    have hlc := run_loadCells_list (P := Tryz.prog) w ad (dfC l) (hN.src ad rfl)
    have hst := run_storeCells_at Tryz.prog g 0 56 (dfC l) 0 cur w hg (by rw [dfC_len, hcur, hl]; omega) (fun v hv => List.all_eq_true.1 (dfC_one l) v hv)
    have e : (cur.toList.take (0 + 0) ++ dfC l ++ cur.toList.drop (0 + 0 + (dfC l).length)) = dfC l := by
      rw [List.drop_eq_nil_of_le (by rw [dfC_len, Array.length_toList, hcur, hl]; omega)]; simp
    rw [e] at hst
    rw [dfC_len, hl] at hlc
    simp [Builtin.copy_, run_underlying Tryz.underlying22, Builtin.lenOf, Builtin.firstCells, sizeOf, typeInfo, hi, hsize, hlc, hst, goInt, Result.andThen]
theorem make_df (w : World) (n : Nat) (hn : n ≤ 1000000) : (Instr.makeSlice 22 (.int .i64 (n : Int)) (.int .i64 (n : Int))).run Tryz.prog w = .ok (.slice (some ⟨w.heap.size, 0, none⟩) n n) (w.alloc (.cells (madeCells #[.string ByteArray.empty, .string ByteArray.empty, .int .i64 0] (n * 3)) 56)) := by
  obtain ⟨i, hi, hz, hsize, hby⟩ := info_parts Tryz.info_df
  have hr := run_make (P := Tryz.prog) w 22 56 i zDV Tryz.underlying22 hi hz .i64 .i64 n n (by omega) (Int.le_refl _) (by rw [hby]; omega) (by omega)
  simp only [Int.toNat_natCast, hsize] at hr
  exact hr

/-! ### One of them turned -/
theorem dfC_set (l : List De) : ∀ (k : Nat) (z : Int), k < l.length → (dfC l).set (k * 3 + 2) (.int .i64 z) = dfC (l.set k ((l.getD k zD).1, z)) := by
  induction l with
  | nil => intro k z hk; exact absurd hk (Nat.not_lt_zero k)
  | cons x l ih =>
    intro k z hk
    have e : ∀ (x : De) (l : List De), dfC (x :: l) = .string (mkB x.1.1) :: .string (mkB x.1.2) :: .int .i64 x.2 :: dfC l := fun _ _ => rfl
    cases k with
    | zero => rw [e]; rfl
    | succ k =>
      have := ih k z (by simpa using hk)
      have e3 : (k + 1) * 3 + 2 = (k * 3 + 2) + 1 + 1 + 1 := by omega
      rw [e, e3, List.set_cons_succ, List.set_cons_succ, List.set_cons_succ, this, List.set_cons_succ, e]
      rfl
def partD (l : List De) (k : Nat) : List De := turnD (l.take k) ++ l.drop k
theorem partD_len (l : List De) (k : Nat) : (partD l k).length = l.length := by
  unfold partD; rw [List.length_append, turn_len, List.length_take, List.length_drop]; omega
theorem partD_at {l : List De} {k : Nat} (h : k < l.length) : (partD l k).getD k zD = l.getD k zD := by
  have h1 : (turnD (l.take k)).length = k := by rw [turn_len, List.length_take]; omega
  rw [df_getD (by rw [partD_len]; exact h), df_getD h]
  unfold partD
  rw [List.getElem_append_right (by omega)]
  simp only [h1]
  rw [List.getElem_drop]
  congr 1
  omega
theorem partD_set {l : List De} {k : Nat} (h : k < l.length) : (partD l k).set k ((l.getD k zD).1, -(l.getD k zD).2) = partD l (k + 1) := by
  have h1 : (turnD (l.take k)).length = k := by rw [turn_len, List.length_take]; omega
  unfold partD
  rw [List.set_append_right _ _ (by omega), h1, Nat.sub_self, List.drop_eq_getElem_cons h, List.set_cons_zero, List.take_succ_eq_append_getElem h, df_getD h]
  unfold turnD
  rw [List.map_append, List.append_assoc]
  rfl
theorem partD_0 (l : List De) : partD l 0 = l := rfl
theorem partD_all (l : List De) : partD l l.length = turnD l := by unfold partD; rw [List.take_length, List.drop_length, List.append_nil]
theorem row_setC {w : World} {g j : Nat} {L : List Value} {t : TypeId} (h : w.heap[g]? = some (.cells L.toArray t (0, 0))) (u : Value) : (w.setCell ⟨g, j, none⟩ u).heap[g]? = some (.cells (L.set j u).toArray t (0, 0)) := by
  simp [World.setCell, Array.getElem?_modify, h]

theorem row_atC {w : World} {g j : Nat} {L : List Value} {t : TypeId} {u : Value} (h : w.heap[g]? = some (.cells L.toArray t (0, 0))) (hj : L[j]? = some u) : w.cell? ⟨g, j, none⟩ = some u ∧ w.frozen? ⟨g, j, none⟩ = false := by
  simp [World.cell?, World.frozen?, h, hj]
theorem rowC_own {w : World} {g n base : Nat} {l : List De} (h : w.heap[g]? = some (.cells (dfC l).toArray 56 (0, 0))) (hl : l.length = n) (hn : n ≤ 1000000) (hb : base ≤ g) : w.ownsRow base 56 3 (.slice (some ⟨g, 0, none⟩) n n) l.length (dfC l) := by
  subst hl
  exact ⟨dfC_len l, .inr ⟨g, l.length, _, rfl, hb, h, Nat.le_refl _, by unfold maxLen; omega, by rw [List.size_toArray, dfC_len], by rw [List.take_of_length_le (by simp [dfC_len])]⟩⟩
section
variable {w : World} {ops : Array Oper} {rest : List Oper} {o : Oper} {a : Act} {Q : Exit → Act → World → Prop}
theorem wpList_copy_df (hgd : o.guard = none) (d s : Operand) (ho : o.op = .call { callee := .builtin .copy, args := #[d, s], argTypes := #[22, 22] }) {g n c : Nat} {A : Option Addr} {l : List De} {cur : Array Value} (hd : a.eval d = .slice (some ⟨g, 0, none⟩) n n) (hs : a.eval s = .slice A n c)
    (hN : Dfs w (.slice A n c) l) (hg : w.heap[g]? = some (.cells cur 56 (0, 0))) (hcur : cur.size = n * 3) (hK : wpList Tryz.prog ops Q rest (a.put o.dst (.int .i64 (n : Int))) (w.setRow g (dfC l).toArray)) : wpList Tryz.prog ops Q (o :: rest) a w := by
  refine wpList_plain hgd fun K' hK' => ?_
  have hr := copy_df hN hg hcur o.type
  unfold Oper.wp
  simp [execOp, ho, resolve, invoke, builtin, hd, hs, hr, Result.andThen]
  exact hK' _ _ hK
end
theorem inD_neg {z : Int} (h : inD z = true) : IntKind.i64.wrap (-z) = -z := by rw [inD_iff] at h; exact IntWalk.i64_in _ (by omega)
end Go.Proofs.YtglhjdbnpdoinaaGreat
