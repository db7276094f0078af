/- Needs in memory: slices of them, rows of the call's own, what comes in, what operations on them come to. -/
import Derived.Test.YtdefphacdcbljaaLakM
import Derived.Test.YtdefphacdcbljaaStoA
import Derived.Test.YtdefphacdcbljaaRolM
import Derived.Test.YtdefphacdcbljaaNodY
import Derived.Test.YtdefphacdcbljaaNodR
import Derived.Laws.StructEq
import Derived.Deep.SlicePairs
import Derived.Deep.QuietTactic
import Derived.BigQuiet
namespace Go.Proofs.Ytdefphacdcbljaa
open Go.RowKit Go.ChangeShapes Go.WideShapes
set_option linter.unusedVariables false
set_option maxRecDepth 100000

def smallNe (d : Ne) : Prop := smallN d.1 ∧ smallN d.2
/-- A slice of needs, in memory: nil, empty, or cells that hold them, four each. -/
structure Nes (w : World) (v : Value) (es : List Ne) : Prop where
  ex : ∃ a c, v = .slice a es.length c ∧ es.length ≤ c ∧ c ≤ maxLen ∧ (a = none → c = 0) ∧ (0 < es.length → ∃ b off, a = some ⟨b, off, none⟩ ∧ b < w.heap.size ∧ ∀ j, j < es.length →
    w.cell? ⟨b, off + j * 4, none⟩ = some (.string (mkB (es.getD j zNe).1.1)) ∧ w.cell? ⟨b, off + j * 4 + 1, none⟩ = some (.string (mkB (es.getD j zNe).1.2)) ∧ w.cell? ⟨b, off + j * 4 + 2, none⟩ = some (.string (mkB (es.getD j zNe).2.1)) ∧ w.cell? ⟨b, off + j * 4 + 3, none⟩ = some (.string (mkB (es.getD j zNe).2.2)))
theorem Nes.below {w w' : World} {v : Value} {zs : List Ne} (h : Nes w v zs) (hb : Below w.heap.size w w') : Nes w' v zs := by
  obtain ⟨a, c, hv, h1, h2, hn, h3⟩ := h.ex
  refine ⟨a, c, hv, h1, h2, hn, fun hp => ?_⟩
  obtain ⟨b, off, ha, hlt, hc⟩ := h3 hp
  exact ⟨b, off, ha, Nat.lt_of_lt_of_le hlt hb.size, fun j hj => by rw [hb.cell (by exact hlt), hb.cell (by exact hlt), hb.cell (by exact hlt), hb.cell (by exact hlt)]; exact hc j hj⟩
theorem Nes.at {w : World} {a : Option Addr} {n c : Nat} {es : List Ne} (h : Nes w (.slice a n c) es) (k : Nat) (hk : k < es.length) :
    ∃ b off, a = some ⟨b, off, none⟩ ∧ b < w.heap.size ∧ w.cell? ⟨b, off + k * 4, none⟩ = some (.string (mkB (es.getD k zNe).1.1)) ∧ w.cell? ⟨b, off + k * 4 + 1, none⟩ = some (.string (mkB (es.getD k zNe).1.2)) ∧ w.cell? ⟨b, off + k * 4 + 2, none⟩ = some (.string (mkB (es.getD k zNe).2.1)) ∧ w.cell? ⟨b, off + k * 4 + 3, none⟩ = some (.string (mkB (es.getD k zNe).2.2)) := by
  obtain ⟨a', c', hv, _, _, _, h3⟩ := h.ex
  injection hv with e1 e2 e3
  subst e1
  obtain ⟨b, off, ha, hlt, hc⟩ := h3 (by omega)
  exact ⟨b, off, ha, hlt, hc k hk⟩
theorem nes_none (w : World) : Nes w (.slice none 0 0) [] := ⟨none, 0, rfl, Nat.le_refl _, by unfold maxLen; omega, fun _ => rfl, fun h => absurd h (by simp)⟩
theorem Nes.nil {w : World} {n c : Nat} {l : List Ne} {a : Option Addr} (h : Nes w (.slice a n c) l) (ha : a = none) : n = 0 ∧ c = 0 := by
  obtain ⟨a', c', hv, h1, h2, h3, -⟩ := h.ex
  injection hv with e1 e2 e3
  subst e1 e2 e3
  have := h3 ha
  omega
theorem Nes.lenE {w : World} {A : Option Addr} {n c : Nat} {l : List Ne} (h : Nes w (.slice A n c) l) : l.length = n ∧ n ≤ c ∧ c ≤ maxLen := by
  obtain ⟨_, _, hv, h1, h2, _⟩ := h.ex
  injection hv with e1 e2 e3
  subst e2 e3; exact ⟨rfl, h1, h2⟩
/-- The ones from the i-th on. -/
theorem Nes.cut {w : World} {a : Option Addr} {n c : Nat} {l : List Ne} (h : Nes w (.slice a n c) l) {i : Nat} (hi : i ≤ l.length) : Nes w (sliced a i n c 4) (l.drop i) := by
  obtain ⟨a', c', hv, h1, h2, h3, h4⟩ := h.ex
  injection hv with e1 e2 e3
  subst e1 e2 e3
  unfold sliced
  refine ⟨_, _, by rw [List.length_drop], by rw [List.length_drop]; omega, by omega, fun hn => ?_, fun hp => ?_⟩
  · by_cases hc : c = i
    · omega
    · rw [if_neg hc] at hn
      have : a = none := by cases a <;> simp_all
      have := h3 this; omega
  · rw [List.length_drop] at hp
    obtain ⟨b, off, rfl, hb, hc⟩ := h4 (by omega)
    refine ⟨b, off + i * 4, ?_, hb, fun j hj => ?_⟩
    · rw [if_neg (by omega)]; simp [addr_add]
    · rw [List.length_drop] at hj
      have := hc (i + j) (by omega)
      have hg : (l.drop i).getD j zNe = l.getD (i + j) zNe := by simp [List.getD_eq_getElem?_getD, List.getElem?_drop]
      rw [hg, show off + i * 4 + j * 4 = off + (i + j) * 4 by omega]
      exact this

/-! ### Needs as cells -/
abbrev neV (e : Ne) : Value := .agg #[.string (mkB e.1.1), .string (mkB e.1.2), .string (mkB e.2.1), .string (mkB e.2.2)]
abbrev neC1 (e : Ne) : List Value := [.string (mkB e.1.1), .string (mkB e.1.2), .string (mkB e.2.1), .string (mkB e.2.2)]
def neC (es : List Ne) : List Value := es.flatMap neC1
theorem neC_len (es : List Ne) : (neC es).length = es.length * 4 := by
  induction es with
  | nil => rfl
  | cons x l ih => simp only [neC, List.flatMap_cons, List.length_append, List.length_cons, List.length_nil] at ih ⊢; omega
theorem neC_snoc (es : List Ne) (x : Ne) : neC (es ++ [x]) = neC es ++ neC1 x := by simp [neC]
theorem neC_app (l m : List Ne) : neC (l ++ m) = neC l ++ neC m := by simp [neC]
theorem neC_one (l : List Ne) : ((neC l).all fun u => u.oneCell') = true := by
  induction l with
  | nil => rfl
  | cons x l ih =>
    have e : neC (x :: l) = .string (mkB x.1.1) :: .string (mkB x.1.2) :: .string (mkB x.2.1) :: .string (mkB x.2.2) :: neC l := rfl
    rw [e, List.all_cons, List.all_cons, List.all_cons, List.all_cons, ih]; rfl
theorem neC_at (es : List Ne) : ∀ j, j < es.length → (neC es)[j * 4]? = some (.string (mkB (es.getD j zNe).1.1)) ∧ (neC es)[j * 4 + 1]? = some (.string (mkB (es.getD j zNe).1.2)) ∧ (neC es)[j * 4 + 2]? = some (.string (mkB (es.getD j zNe).2.1)) ∧ (neC es)[j * 4 + 3]? = some (.string (mkB (es.getD j zNe).2.2)) := by
  induction es with
  | nil => intro j hj; exact absurd hj (Nat.not_lt_zero j)
  | cons x l ih =>
    intro j hj
    have e : neC (x :: l) = .string (mkB x.1.1) :: .string (mkB x.1.2) :: .string (mkB x.2.1) :: .string (mkB x.2.2) :: neC l := rfl
    rw [e]
    cases j with
    | zero => exact ⟨rfl, rfl, rfl, rfl⟩
    | succ j =>
      have := ih j (by simpa using hj)
      rw [show (j + 1) * 4 = j * 4 + 1 + 1 + 1 + 1 by omega, show j * 4 + 1 + 1 + 1 + 1 + 1 = (j * 4 + 1) + 1 + 1 + 1 + 1 by omega, show j * 4 + 1 + 1 + 1 + 1 + 2 = (j * 4 + 2) + 1 + 1 + 1 + 1 by omega, show j * 4 + 1 + 1 + 1 + 1 + 3 = (j * 4 + 3) + 1 + 1 + 1 + 1 by omega]
      simpa using this
abbrev zNeV : Value := .agg #[.string ByteArray.empty, .string ByteArray.empty, .string ByteArray.empty, .string ByteArray.empty]
theorem Try.info_ne : (Try.prog.info? 39).map (fun i => (i.zero, i.size, i.bytes)) = some (some zNeV, 4, 64) := by kernel_rfl
theorem Nes.owned {w : World} {base : Nat} {e : TypeId} {v : Value} {es : List Ne} (h : w.ownsRow base e 4 v es.length (neC es)) : Nes w v es := by
  rcases Joins.ownsRow_forms h with ⟨rfl, h0⟩ | ⟨g, cap, rfl⟩
  · have : es = [] := List.eq_nil_of_length_eq_zero h0
    subst this
    exact nes_none w
  · have hlt := h.lt g rfl
    have hcap : es.length ≤ cap ∧ cap ≤ maxLen := by
      obtain ⟨_, h | ⟨g', cap', cur, hv, _, _, h1, h2, _⟩⟩ := h
      · cases h.1
      · injection hv with _ _ hc; subst hc; exact ⟨h1, h2⟩
    refine ⟨some ⟨g, 0, none⟩, cap, rfl, hcap.1, hcap.2, (fun h => by cases h), fun _ => ⟨g, 0, rfl, hlt.2, fun j hj => ?_⟩⟩
    have := neC_at es j hj
    rw [Nat.zero_add, h.cellAt (j * 4) (by omega), h.cellAt (j * 4 + 1) (by omega), h.cellAt (j * 4 + 2) (by omega), h.cellAt (j * 4 + 3) (by omega)]
    exact this
theorem nesO {w : World} {base : Nat} {e : TypeId} {v : Value} {es : List Ne} (h : w.ownsRow base e 4 v es.length (neC es)) : ∃ a c, v = .slice a es.length c ∧ Nes w (.slice a es.length c) es := by
  have hst := Nes.owned h
  obtain ⟨a, c, rfl, _⟩ := hst.ex
  exact ⟨a, c, rfl, hst⟩
theorem Nes.cells {w : World} {ad : Addr} {n c : Nat} {l : List Ne} (h : Nes w (.slice (some ad) n c) l) : ∀ j u, (neC l)[j]? = some u → w.cell? (ad.add j) = some u := by
  intro j u hj
  have hlt : j < (neC l).length := (List.getElem?_eq_some_iff.1 hj).1
  rw [neC_len] at hlt
  obtain ⟨k, hk⟩ : ∃ k, j = k * 4 ∨ j = k * 4 + 1 ∨ j = k * 4 + 2 ∨ j = k * 4 + 3 := ⟨j / 4, by omega⟩
  have hkl : k < l.length := by omega
  obtain ⟨b, off, ha, -, c0, c1, c2, c3⟩ := h.at k hkl
  obtain ⟨d0, d1, d2, d3⟩ := neC_at l k hkl
  cases ha
  rw [addr_add]
  rcases hk with rfl | rfl | rfl | rfl
  · rw [d0] at hj; cases hj; exact c0
  · rw [d1] at hj; cases hj; exact c1
  · rw [d2] at hj; cases hj; exact c2
  · rw [d3] at hj; cases hj; exact c3
theorem Nes.src {w : World} {A : Option Addr} {n c : Nat} {l : List Ne} (h : Nes w (.slice A n c) l) : ∀ ad, A = some ad → ∀ j u, (neC l)[j]? = some u → w.cell? (ad.add j) = some u := fun _ e => by subst e; exact h.cells
theorem row4n {w : World} {g : Nat} {x0 x1 x2 x3 : Value} {t : TypeId} (h : w.heap[g]? = some (.cells #[x0, x1, x2, x3] t (0, 0))) :
    w.cell? ⟨g, 0, none⟩ = some x0 ∧ w.cell? ⟨g, 1, none⟩ = some x1 ∧ w.cell? ⟨g, 2, none⟩ = some x2 ∧ w.cell? ⟨g, 3, none⟩ = some x3 := by
  simp [World.cell?, h]
/-- A parameter's own cells, just laid; the world named. -/
theorem boxNe (w : World) (x y z u : Value) (t : TypeId) : ∃ W p, w.alloc (.cells #[x, y, z, u] t) = W ∧ w.heap.size = p ∧ W.cell? ⟨p, 0, none⟩ = some x ∧ W.cell? ⟨p, 1, none⟩ = some y ∧ W.cell? ⟨p, 2, none⟩ = some z ∧ W.cell? ⟨p, 3, none⟩ = some u ∧ Below w.heap.size w W :=
  ⟨_, _, rfl, rfl, cell_new rfl rfl, cell_new rfl rfl, cell_new rfl rfl, cell_new rfl rfl, (Below.refl _ _).alloc (Nat.le_refl _) _⟩
/-! ### What comes in -/
def fitNe (e : Ne) : Prop := fitsN e.1 ∧ fitsN e.2
section
variable {H : Type} {enc : TypeId × Value → H} {w : World} {base : Nat} {spare : Nat → Bool} {held : Bool}
theorem nes_of {a : Addr} {len cap m : Nat} {E : Nat → Ne} (hl : len ≤ cap) (hm : cap ≤ maxLen) (hlm : len ≤ m) (hx : ∀ i, i < m → w.cell? (a.add (i * 4)) = some (.string (mkB (E i).1.1)) ∧ w.cell? (a.add (i * 4 + 1)) = some (.string (mkB (E i).1.2)) ∧ w.cell? (a.add (i * 4 + 2)) = some (.string (mkB (E i).2.1)) ∧ w.cell? (a.add (i * 4 + 3)) = some (.string (mkB (E i).2.2)) ∧ fitNe (E i)) :
    ∃ l, Nes w (.slice (some a) len cap) l ∧ ∀ e ∈ l, fitNe e := by
  refine ⟨(List.range len).map E, ?_, fun e he => ?_⟩
  · have e : ((List.range len).map E).length = len := by simp
    refine ⟨some a, cap, by rw [e], by rw [e]; exact hl, hm, (fun h => by cases h), fun hp => ?_⟩
    rw [e] at hp ⊢
    obtain ⟨b, off, spot⟩ := a
    have h0 := (hx 0 (by omega)).1
    have hspot : spot = none := by simpa [Addr.add] using World.cell?_spot h0
    subst hspot
    refine ⟨b, off, rfl, ?_, fun j hj => ?_⟩
    · have := World.block_lt_of_cell? w _ h0
      simpa [Addr.add] using this
    · obtain ⟨h1, h2, h3, h4, _⟩ := hx j (by omega)
      have hd : ((List.range len).map E).getD j zNe = E j := by simp [List.getD_eq_getElem?_getD, hj]
      rw [addr_add] at h1 h2 h3 h4
      rw [← Nat.add_assoc] at h2 h3 h4
      rw [hd, h1, h2, h3, h4]
      exact ⟨rfl, rfl, rfl, rfl⟩
  · obtain ⟨i, hi, rfl⟩ := List.mem_map.1 he
    exact (hx i (by have := List.mem_range.1 hi; omega)).2.2.2.2
theorem nes_open {fuel : Nat} {a : Option Addr} {len cap : Nat} {x : DataW H × List MemPlace} (h : DataW.trod enc Try.prog w base spare held fuel 22 [.slice a len cap] = some x) :
    ∃ l, Nes w (.slice a len cap) l ∧ ∀ e ∈ l, fitNe e := by
  rcases Go.Deep.open_slice Try.underlying22 h with ⟨hcs, _⟩ | ⟨ad, l, c, m, n, D, Pl, hcs, hb, hl, hm, hmm, -, hx⟩
  · simp only [List.cons.injEq, Value.slice.injEq, and_true] at hcs
    obtain ⟨rfl, rfl, rfl⟩ := hcs
    exact ⟨[], nes_none w, fun l hl => by cases hl⟩
  · simp only [List.cons.injEq, Value.slice.injEq, and_true] at hcs
    obtain ⟨rfl, rfl, rfl⟩ := hcs
    have ce : Try.prog.cellsOf 39 = 4 := by kernel_rfl
    have cn : Try.prog.cellsOf 24 = 2 := by kernel_rfl
    have cs : Try.prog.cellsOf 9 = 1 := by kernel_rfl
    have each : ∀ i, i < m → ∃ e : Ne, w.cell? (ad.add (i * 4)) = some (.string (mkB e.1.1)) ∧ w.cell? (ad.add (i * 4 + 1)) = some (.string (mkB e.1.2)) ∧ w.cell? (ad.add (i * 4 + 2)) = some (.string (mkB e.2.1)) ∧ w.cell? (ad.add (i * 4 + 3)) = some (.string (mkB e.2.2)) ∧ fitNe e := by
      intro i hi
      obtain ⟨cs', h1, h2⟩ := hx i hi
      rw [ce] at h1
      obtain ⟨_, hlen, hcell⟩ := World.cells?_some h1
      obtain ⟨xs, k, hk, hxy, _, hxl, hf⟩ := DataW.trod_struct Try.underlying39 h2
      match xs, hxl, cs', hlen with
      | [y0, y1], _, [v0, v1, v2, v3], _ =>
        have g0 := hf 0 _ rfl
        have g1 := hf 1 _ rfl
        simp [cn] at g0 g1
        obtain ⟨xs2, k2, hk2, hxy2, _, hxl2, hf2⟩ := DataW.trod_struct Try.underlying24 g0
        obtain ⟨xs3, k3, hk3, hxy3, _, hxl3, hf3⟩ := DataW.trod_struct Try.underlying24 g1
        match xs2, hxl2, xs3, hxl3 with
        | [z0, z1], _, [u0, u1], _ =>
          have f0 := hf2 0 _ rfl
          have f1 := hf2 1 _ rfl
          have f2 := hf3 0 _ rfl
          have f3 := hf3 1 _ rfl
          simp [cs] at f0 f1 f2 f3
          obtain ⟨s0, q0, _, e0⟩ := DataW.trod_string Try.underlying9 f0
          obtain ⟨s1, q1, _, e1⟩ := DataW.trod_string Try.underlying9 f1
          obtain ⟨s2, q2, _, e2⟩ := DataW.trod_string Try.underlying9 f2
          obtain ⟨s3, q3, _, e3⟩ := DataW.trod_string Try.underlying9 f3
          simp only [List.cons.injEq, and_true] at q0 q1 q2 q3
          subst q0 q1 q2 q3
          rw [Lib.size_eq] at e0 e1 e2 e3
          have c0 := hcell 0 (by omega)
          have c1 := hcell 1 (by omega)
          have c2 := hcell 2 (by omega)
          have c3 := hcell 3 (by omega)
          rw [Go.Deep.add_add] at c0 c1 c2 c3
          exact ⟨((s0.data.toList, s1.data.toList), (s2.data.toList, s3.data.toList)), by simpa [mkB, Lib.mk_data] using c0, by simpa [mkB, Lib.mk_data] using c1, by simpa [mkB, Lib.mk_data] using c2, by simpa [mkB, Lib.mk_data] using c3, ⟨e0, e1⟩, ⟨e2, e3⟩⟩
    obtain ⟨E, hE⟩ := Go.Deep.choose_lt each
    exact nes_of (m := m) (E := E) hl hm (by rw [hmm]; split <;> omega) hE
end
/-! ### Operations -/
theorem idx_ne {w : World} {b off n c k : Nat} (h : k < n) : (Instr.indexAt 22 (.slice (some ⟨b, off, none⟩) n c) (.int .i64 (k : Int))).run Try.prog w = .ok (.pointer (some ⟨b, off + k * 4, none⟩)) w := by
  have h1 : (0 : Int) ≤ (k : Int) := by omega
  have h3 : (k : Int) < (n : Int) := by omega
  go_simp
theorem ld_ne {w : World} {g i : Nat} {p v q u : List UInt8} (h : w.cell? ⟨g, i, none⟩ = some (.string (mkB p))) (h' : w.cell? ⟨g, i + 1, none⟩ = some (.string (mkB v))) (h2 : w.cell? ⟨g, i + 2, none⟩ = some (.string (mkB q))) (h3 : w.cell? ⟨g, i + 3, none⟩ = some (.string (mkB u))) : Sem.run Try.prog (Instr.loadAt 39 (.pointer (some ⟨g, i, none⟩))) w = .ok (.agg #[.string (mkB p), .string (mkB v), .string (mkB q), .string (mkB u)]) w := by
  go_simp
theorem build_ne {w : World} {p v q u : List UInt8} : Sem.run Try.prog (Instr.build 39 #[(0, .agg #[.string (mkB p), .string (mkB v)]), (1, .agg #[.string (mkB q), .string (mkB u)])]) w = .ok (.agg #[.string (mkB p), .string (mkB v), .string (mkB q), .string (mkB u)]) w := by go_simp
theorem build_nero {w : World} {q u : List UInt8} : Sem.run Try.prog (Instr.build 39 #[(1, .agg #[.string (mkB q), .string (mkB u)])]) w = .ok (.agg #[.string (mkB []), .string (mkB []), .string (mkB q), .string (mkB u)]) w := by go_simp; rfl
theorem blkG.nes {w : World} {b : Nat} {p v q u : List UInt8} (h : w.heap[b]? = some (.cells #[.string (mkB p), .string (mkB v), .string (mkB q), .string (mkB u)] 39 (0, 0))) : Nes w (.slice (some ⟨b, 0, none⟩) 1 1) [((p, v), (q, u))] := by
  obtain ⟨d0, d1, d2, d3⟩ := row4n h
  refine ⟨some ⟨b, 0, none⟩, 1, rfl, Nat.le_refl _, by unfold maxLen; omega, (fun h => by cases h), fun _ => ⟨b, 0, rfl, (Array.getElem?_eq_some_iff.1 h).1, fun j hj => ?_⟩⟩
  have hj2 : j = 0 := by simp at hj; omega
  subst hj2
  exact ⟨d0, d1, d2, d3⟩
theorem run_app_ne {w : World} {base n : Nat} {v : Value} {K : List Ne} (hown : w.ownsRow base 39 4 v n (neC K)) {a0 : Option Addr} {m c : Nat} {L : List Ne} (hN : Nes w (.slice a0 m c) L) (hlen : n + m ≤ 2000000) (hbase : base ≤ w.heap.size) (t : TypeId) :
    ∃ v' w', (Builtin.append_ #[22, 22] t #[v, .slice a0 m c]).run Try.prog w = .ok v' w' ∧ w'.ownsRow base 39 4 v' (n + m) (neC (K ++ L)) ∧ w.grownBy w' v.ownBlock ∧ (v'.ownBlock = v.ownBlock ∨ v'.ownBlock = some w.heap.size ∧ w.heap.size < w'.heap.size) := by
  obtain ⟨i, hi, hz, hsize, hby⟩ := info_parts Try.info_ne
  have hm : m = L.length := hN.lenE.1.symm
  cases a0 with
  | none =>
    obtain ⟨rfl, rfl⟩ := hN.nil rfl
    have hL : L = [] := List.eq_nil_of_length_eq_zero hm.symm
    subst hL
    have hr := run_append_owned_none (P := Try.prog) (w := w) base 22 t 39 i 4 Try.underlying22 hi v n _ hown
    exact ⟨v, w, hr, by simpa using hown, ⟨rfl, rfl, rfl, Nat.le_refl _, fun _ _ _ => rfl⟩, .inl rfl⟩
  | some ad =>
    obtain ⟨v', w', hr, h2, h3, _, h5⟩ := run_append_own_at (P := Try.prog) w base 22 t 39 i zNeV 4 64 Try.underlying22 hi hz hsize hby rfl (by decide) v n _ hown ad m c (neC L) (by rw [neC_len, hm]) (hN.src ad rfl) (fun u hu => List.all_eq_true.1 (neC_one L) u hu) (by unfold maxLen; omega) (by omega) hbase
    rw [← neC_app] at h2
    refine ⟨v', w', hr, h2, h3, h5.imp id fun e => ⟨e, ?_⟩⟩
    exact (h2.lt _ e).2
section
variable {ops : Array Oper} {Q : Exit → Act → World → Prop} {a : Act} {w w0 : World} {who : Nat → Nat} {i B r ro : Nat} {o : Oper}
/-- 'append(row, l...)', the row one that a box's field holds. -/
theorem rol_app_ne (ho : ops[i]? = some o) (hw : Region.wanted o (yielded ops a.tmps) = true) {s : Nat} (hd : o.dst = some s) (hs : s < a.tmps.size) {y x : Operand} (hop : o.op = .call { callee := .builtin .append, args := #[y, x], argTypes := #[22, 22] })
    {N n t : Nat} {K : List Ne} {X : Value} (h : (RLeaf.mem t (rowX X N 39 4 n (neC K))).holds r a w who) (hy : a.eval y = X) {a0 : Option Addr} {m c : Nat} (hx : a.eval x = .slice a0 m c) {L : List Ne} (hN : Nes w (.slice a0 m c) L) (hlen : n + m ≤ 2000000) (hb : Below B w0 w) (hB : B ≤ N) (hNw : N ≤ w.heap.size) {n' : Nat} {K' : List Ne} (hn : n' = n + m) (hK : K' = K ++ L) :
    wpOp Try.prog ops Q i (RPost ops i r r (.mem s (rowG N 39 4 n' (neC K'))) B w0 a w who) a w := by
  subst hn hK
  obtain ⟨v, ob, hv, hob, hrow, rfl⟩ := h
  obtain ⟨v', w', hr, h2, h3, h5⟩ := run_app_ne hrow hN hlen hNw o.type
  exact rol_grow ho hw hd hs (ex_append hop hy hx hr) h3 hob h5 ⟨h2, rfl⟩ hb (Nat.le_trans hB hNw) (fun b e => Nat.le_trans hB (own_lt hrow e).1)
end
section
variable {wr : World} {ops : Array Oper} {rest : List Oper} {o : Oper} {a : Act} {Q : Exit → Act → World → Prop}
/-- 'l = append(l, x)', l the call's own: x has just been laid in a block of its own. -/
theorem wpList_push_ne (hgd : o.guard = none) (s x : Operand) (ho : o.op = .call { callee := .builtin .append, args := #[s, x], argTypes := #[22, 22] })
    (base : Nat) (V : Value) (K : List Ne) (n : Nat) (hn : K.length = n) (hs : a.eval s = V) (hown : wr.ownsRow base 39 4 V n (neC K)) (p v q u : List UInt8) (N : Nat) (hN : wr.heap.size = N) (hx : a.eval x = .slice (some ⟨N, 0, none⟩) 1 1) (hlen : n ≤ 1000000) (hbase : base ≤ wr.heap.size)
    (h : ∀ a' c' w', w'.ownsRow base 39 4 (.slice a' (n + 1) c') (n + 1) (neC (K ++ [((p, v), (q, u))])) → wr.grownBy w' V.ownBlock → wpList Try.prog ops Q rest (a.put o.dst (.slice a' (n + 1) c')) w') :
    wpList Try.prog ops Q (o :: rest) a (wr.alloc (.cells #[.string (mkB p), .string (mkB v), .string (mkB q), .string (mkB u)] 39)) := by
  subst hN
  refine wpList_plain hgd fun K' hK' => ?_
  obtain ⟨v', w', hr, h2, h3, -⟩ := run_app_ne (hown.alloc (.cells #[.string (mkB p), .string (mkB v), .string (mkB q), .string (mkB u)] 39)) (blkG.nes (heap_alloc_new wr (.cells #[.string (mkB p), .string (mkB v), .string (mkB q), .string (mkB u)] 39))) (m := 1) (c := 1) (by omega) (by simp; omega) o.type
  have ho2 : w'.ownsRow base 39 4 v' (K ++ [((p, v), (q, u))]).length (neC (K ++ [((p, v), (q, u))])) := by rw [List.length_append, hn]; exact h2
  obtain ⟨a', c', hv, _⟩ := nesO ho2
  rw [List.length_append, hn, List.length_singleton] at hv
  subst hv
  have hk := h a' c' w' h2 ((World.grownBy_alloc wr _ _).trans h3)
  unfold Oper.wp
  simp [execOp, ho, resolve, invoke, builtin, hs, hx, hr, Result.andThen]
  exact hK' _ _ hk
end
end Go.Proofs.Ytdefphacdcbljaa
