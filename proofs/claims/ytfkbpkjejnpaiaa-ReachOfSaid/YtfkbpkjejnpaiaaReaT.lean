/- What comes into the laws: a graph; boxes that hold graphs; the chapter's examples. -/
import Derived.Test.YtfkbpkjejnpaiaaReaN
import Derived.Test.YtfkbpkjejnpaiaaReaS
import Derived.Test.YtfkbpkjejnpaiaaEdgN
namespace Go.Proofs.Ytfkbpkjejnpaiaa
open Go.RowKit Go.ChangeShapes Go.WideShapes
set_option linter.unusedVariables false
set_option maxRecDepth 100000

section
variable {H : Type} {enc : TypeId × Value → H} {w : World} {base : Nat} {held : Bool}
/-- A graph, as it comes in. -/
structure GraIn (w : World) (v : Value) (g : Gr) : Prop where
  gra : Gra w v g
  fit : ∀ e ∈ g.1, fitE e
theorem gra_open {r : Reach} {b0 : Nat} {v : Value} {d : DataW H} {p : List MemPlace} (hv : Value.okWide Try.prog w r b0 25 v) (h : DataW.Trod enc Try.prog w base (fun _ => true) held 25 v d p) :
    ∃ g : Gr, GraIn w v g := by
  obtain ⟨cs, rfl, hsz⟩ := okWide_struct Try.underlying25 hv
  have hC : Try.prog.cellsOf 25 = 2 := by kernel_rfl
  obtain ⟨v0, v1, rfl⟩ := Go.Joins.array2 (hsz.trans hC)
  obtain ⟨fuel, hf⟩ := h
  obtain ⟨y0, y1, n, -, -, t0, t1⟩ := trod_struct2 Try.underlying25 hf
  have hc0 : Try.prog.cellsOf 22 = 1 := by kernel_rfl
  have hc1 : Try.prog.cellsOf 23 = 1 := by kernel_rfl
  have u0 : DataW.trod enc Try.prog w base (fun _ => true) held n 22 [v0] = some y0 := by simpa [hc0, Value.cells] using t0
  have u1 : DataW.trod enc Try.prog w base (fun _ => true) held n 23 [v1] = some y1 := by simpa [hc1, Value.cells] using t1
  have f0 : ∃ a len cap, v0 = .slice a len cap := by
    rcases Go.Deep.open_slice Try.underlying22 u0 with ⟨hcs, _⟩ | ⟨ad, l, c, m, n, D, Pl, hcs, _⟩
    · simp only [List.cons.injEq, and_true] at hcs; exact ⟨_, _, _, hcs⟩
    · simp only [List.cons.injEq, and_true] at hcs; exact ⟨_, _, _, hcs⟩
  obtain ⟨a, len, cap, rfl⟩ := f0
  obtain ⟨E, hE, fE⟩ := eds_open u0
  obtain ⟨b, len', cap', L, rfl, hL⟩ : ∃ b len' cap' L, v1 = .slice b len' cap' ∧ Ints w (.slice b len' cap') L := by
    rcases open_ints Try.underlying23 Try.underlying3 (by kernel_rfl) u1 with ⟨hcs, _⟩ | ⟨x, l, c, zs, hcs, _, hl, hm, hz, _, hcell, _⟩
    · simp only [List.cons.injEq, and_true] at hcs
      exact ⟨_, _, _, [], hcs, Ints.nil _⟩
    · simp only [List.cons.injEq, and_true] at hcs
      exact ⟨_, _, _, _, hcs, Ints.of_row hl hm (by simpa using hz) hcell⟩
  exact ⟨(E, L), Gra.mk' hE hL, fE⟩
end

/-! ### What is reached, by trying -/
def passB (l : List Ed) (S : List Int) : List Int := l.foldl (fun S e => if (decide (e.1 = -1) || hasB S e.1) && !hasB S e.2.1 then S ++ [e.2.1] else S) S
def iterB (l : List Ed) : Nat → List Int
  | 0 => []
  | k + 1 => passB l (iterB l k)
def chkLive (l : List Ed) (L : List Int) : Bool := okE l && decide (L.Pairwise (· < ·)) && (l.all fun e => !(decide (e.1 = -1) || hasB (iterB l l.length) e.1) || hasB (iterB l l.length) e.2.1) && L.all (hasB (iterB l l.length)) && (iterB l l.length).all (hasB L)
theorem foldl_live {l : List Ed} (hok : okE l = true) : ∀ (m : List Ed) (S : List Int), (∀ e ∈ m, e ∈ l) → LiveK l S → LiveK l (m.foldl (fun S e => if (decide (e.1 = -1) || hasB S e.1) && !hasB S e.2.1 then S ++ [e.2.1] else S) S)
  | [], S, _, h => h
  | e :: m, S, hm, h => by
    rw [List.foldl_cons]
    refine foldl_live hok m _ (fun x hx => hm x (by simp [hx])) ?_
    split
    · rename_i hc
      simp only [Bool.and_eq_true, Bool.or_eq_true, decide_eq_true_eq, Bool.not_eq_true', hasB, decide_eq_false_iff_not] at hc
      exact h.put hok (hm e (by simp)) hc.1 hc.2
    · exact h
theorem iter_live {l : List Ed} (hok : okE l = true) : ∀ k, LiveK l (iterB l k)
  | 0 => LiveK.none l
  | k + 1 => foldl_live hok l _ (fun _ h => h) (iter_live hok k)
theorem live_is {l : List Ed} {L : List Int} (h : chkLive l L = true) : liveE l = L := by
  unfold chkLive at h
  simp only [Bool.and_eq_true, decide_eq_true_eq, List.all_eq_true] at h
  obtain ⟨⟨⟨⟨h1, h2⟩, h3⟩, h4⟩, h5⟩ := h
  have hd := (iter_live h1 l.length).done fun e he hh => by
    have := h3 e he
    simp only [Bool.or_eq_true, Bool.not_eq_true', Bool.or_eq_false_iff, decide_eq_false_iff_not, hasB, decide_eq_true_eq] at this
    rcases this with h | h
    · rcases hh with hh | hh
      · exact absurd hh h.1
      · exact absurd hh h.2
    · exact h
  rw [← hd]
  refine rises_uniq (rise_pw (iter_live h1 l.length).nodup) h2 fun z => ?_
  rw [rise_mem]
  refine ⟨fun hz => ?_, fun hz => ?_⟩
  · have := h5 z hz; simpa [hasB] using this
  · have := h4 z hz; simpa [hasB] using this
theorem link_vals {g : Gr} {f t : Int} (h : linkK g f t = 0) {E : List Ed} (hE : linkL g f t = E) {L : List Int} (hL : liveE E = L) : linkG g f t = (E, L) ∧ linkD g f t = minusI L g.2 := by
  unfold linkG linkD
  rw [if_pos h, if_pos h, hE, hL]; exact ⟨rfl, rfl⟩
theorem unlk_vals {g : Gr} {f t : Int} (h : unlkK g f t = 0) {E : List Ed} (hE : unlkL g f t = E) {L : List Int} (hL : liveE E = L) : unlkG g f t = (E, L) ∧ unlkD g f t = minusI g.2 L := by
  unfold unlkG unlkD
  rw [if_pos h, if_pos h, hE, hL]; exact ⟨rfl, rfl⟩
theorem okG_calc {E : List Ed} {L : List Int} (h : chkLive E L = true) : okG (E, L) = true := by
  have h1 := live_is h
  unfold chkLive at h
  simp only [Bool.and_eq_true] at h
  exact okG_iff.2 ⟨h.1.1.1.1, h1.symm⟩
theorem linkL_of {g : Gr} (h : okG g = true) (f t : Int) : linkL g f t = addL g.1 f t ∧ linkK g f t = addK g.1 f t := by unfold linkL linkK; rw [if_pos h, if_pos h]; exact ⟨rfl, rfl⟩
theorem unlkL_of {g : Gr} (h : okG g = true) (f t : Int) : unlkL g f t = dropL g.1 f t ∧ unlkK g f t = dropK g.1 f t := by unfold unlkL unlkK; rw [if_pos h, if_pos h]; exact ⟨rfl, rfl⟩

/-! ### Boxes that hold graphs -/
theorem ints_set {w : World} {v : Value} {l : List Int} {p i : Nat} {a b : Option Addr} {n c m d : Nat} {t : TypeId} (h : Ints w v l) (hp : w.heap[p]? = some (.cells #[.slice a n c, .slice b m d] t (0, 0))) (u : Value) : Ints (w.setCell ⟨p, i, none⟩ u) v l := by
  obtain ⟨A, C, hv, h1, h2, hn, h3⟩ := h.ex
  refine ⟨A, C, hv, h1, h2, hn, fun hl => ?_⟩
  obtain ⟨k, off, ha, hlt, hc⟩ := h3 hl
  have hne : k ≠ p := fun e => by
    have h4 := hc 0 hl
    unfold World.cell? at h4
    rw [e, hp] at h4
    simp only [Option.isSome_none, Bool.false_eq_true, if_false] at h4
    match off, h4 with
    | 0, h4 => simp at h4
    | 1, h4 => simp at h4
    | off + 2, h4 => simp at h4
  have hk : ∀ j, (w.setCell ⟨p, i, none⟩ u).cell? ⟨k, j, none⟩ = w.cell? ⟨k, j, none⟩ := fun j => World.cell?_of_block (Below.heap_setCell w ⟨p, i, none⟩ u k hne)
  exact ⟨k, off, ha, by simpa [World.setCell] using hlt, fun j hj => by rw [hk]; exact hc j hj⟩
/-- A graph stays while another one is put into a box. -/
theorem Gra.set {w : World} {v : Value} {g : Gr} {p : Nat} {a b a' b' : Option Addr} {n c m d n' c' m' d' : Nat} {t : TypeId} (h : Gra w v g) (hp : w.heap[p]? = some (.cells #[.slice a n c, .slice b m d] t (0, 0))) :
    Gra ((w.setCell ⟨p, 0, none⟩ (.slice a' n' c')).setCell ⟨p, 1, none⟩ (.slice b' m' d')) v g := by
  obtain ⟨A, C, B, D, rfl, h1, h2⟩ := h.ex
  have h3 := row2_set0 hp (.slice a' n' c')
  exact ⟨A, C, B, D, rfl, eds_set (i := 1) (eds_set (i := 0) h1 hp _) h3 _, ints_set (i := 1) (ints_set (i := 0) h2 hp _) h3 _⟩
theorem ints_set2 {w : World} {v : Value} {l : List Int} {p : Nat} {a b a' b' : Option Addr} {n c m d n' c' m' d' : Nat} {t : TypeId} (h : Ints w v l) (hp : w.heap[p]? = some (.cells #[.slice a n c, .slice b m d] t (0, 0))) :
    Ints ((w.setCell ⟨p, 0, none⟩ (.slice a' n' c')).setCell ⟨p, 1, none⟩ (.slice b' m' d')) v l :=
  ints_set (i := 1) (ints_set (i := 0) h hp _) (row2_set0 hp (.slice a' n' c')) _
theorem eds_set2 {w : World} {v : Value} {l : List Ed} {p : Nat} {a b a' b' : Option Addr} {n c m d n' c' m' d' : Nat} {t : TypeId} (h : Eds w v l) (hp : w.heap[p]? = some (.cells #[.slice a n c, .slice b m d] t (0, 0))) :
    Eds ((w.setCell ⟨p, 0, none⟩ (.slice a' n' c')).setCell ⟨p, 1, none⟩ (.slice b' m' d')) v l :=
  eds_set (i := 1) (eds_set (i := 0) h hp _) (row2_set0 hp (.slice a' n' c')) _
theorem GraO.lens {w : World} {N : Nat} {v : Value} {E : List Ed} {L : List Int} (h : GraO w N v E L) {n m : Nat} (hn : E.length = n) (hm : L.length = m) : ∃ a c b d, v = .agg #[.slice a n c, .slice b m d] ∧ Gra w v (E, L) := by
  obtain ⟨a, c, b, d, rfl, h1, h2⟩ := h.forms
  subst hn hm
  exact ⟨a, c, b, d, rfl, Gra.mk' h1 h2⟩
theorem Gra.lens {w : World} {v : Value} {E : List Ed} {L : List Int} (h : Gra w v (E, L)) {n m : Nat} (hn : E.length = n) (hm : L.length = m) : ∃ a c b d, v = .agg #[.slice a n c, .slice b m d] ∧ Gra w v (E, L) := by
  obtain ⟨a, c, b, d, rfl, h1, h2⟩ := h.ex
  subst hn hm
  exact ⟨a, c, b, d, rfl, a, c, b, d, rfl, h1, h2⟩
theorem gra_fst {w : World} {a b : Option Addr} {n c m d : Nat} {g : Gr} (h : Gra w (.agg #[.slice a n c, .slice b m d]) g) : Eds w (.slice a n c) g.1 := by
  obtain ⟨a', c', b', d', hv, h1, h2⟩ := h.ex
  injection hv with hv
  injection hv with hv
  injection hv with e1 e2
  rw [e1]; exact h1
theorem gra_snd {w : World} {a b : Option Addr} {n c m d : Nat} {g : Gr} (h : Gra w (.agg #[.slice a n c, .slice b m d]) g) : Ints w (.slice b m d) g.2 := by
  obtain ⟨a', c', b', d', hv, h1, h2⟩ := h.ex
  injection hv with hv
  injection hv with hv
  injection hv with e1 e2
  injection e2 with e2
  rw [e2]; exact h2
theorem edsR {w : World} {base : Nat} {e : TypeId} {v : Value} {l : List Ed} (h : w.ownsRow base e 3 v l.length (edC l)) {n : Nat} (hn : l.length = n) : ∃ a c, v = .slice a n c ∧ Eds w (.slice a n c) l := by
  obtain ⟨a, c, rfl, hI⟩ := edsO h
  subst hn
  exact ⟨a, c, rfl, hI⟩
theorem intsR {w : World} {base : Nat} {e : TypeId} {v : Value} {l : List Int} (h : w.ownsRow base e 1 v l.length (intZ l)) {n : Nat} (hn : l.length = n) : ∃ a c, v = .slice a n c ∧ Ints w (.slice a n c) l := by
  obtain ⟨a, c, rfl, hI⟩ := intsZ h
  subst hn
  exact ⟨a, c, rfl, hI⟩

/-! ### In regions -/
theorem eq_chkR {K : Int} {o : Bool} (h : K = if o then 0 else 1) (w : World) : Sem.run Try.prog (binOp .eql 28 (.int .i64 K) (.int .i64 0)) w = .ok (.bool o) w := by
  cases o <;> (simp at h; subst h; go_simp)
theorem ne_boolR (b : Bool) (w : World) : Sem.run Try.prog (binOp .neq 4 (.bool b) (.bool b)) w = .ok (.bool false) w := by
  cases b <;> go_simp
theorem eq_numR (K : Int) (w : World) : Sem.run Try.prog (binOp .eql 28 (.int .i64 K) (.int .i64 K)) w = .ok (.bool true) w := by
  go_simp
theorem eq_posR {n : Nat} (h : 0 < n) (w : World) : Sem.run Try.prog (binOp .eql 3 (.int .i64 (n : Int)) (.int .i64 0)) w = .ok (.bool false) w := by
  have e : ((n : Int) == 0) = false := by simp; omega
  go_simp
theorem gt_zeroR {n : Nat} (h : n = 0) (w : World) : Sem.run Try.prog (binOp .gtr 3 (.int .i64 (n : Int)) (.int .i64 0)) w = .ok (.bool false) w := by
  subst h; go_simp
theorem gt_posR {n : Nat} (h : 0 < n) (w : World) : Sem.run Try.prog (binOp .gtr 3 (.int .i64 (n : Int)) (.int .i64 0)) w = .ok (.bool true) w := by
  have e : decide (0 < n) = true := by simp; omega
  have e2 : decide ((0 : Int) < (n : Int)) = true := by simp; omega
  go_simp
theorem sub1R {k s : Nat} (h : k = s + 1) (hs : s ≤ 1000000) (w : World) : Sem.run Try.prog (binOp .sub 3 (.int .i64 (k : Int)) (.int .i64 1)) w = .ok (.int .i64 (s : Int)) w := by
  have e : IntKind.i64.wrap ((k : Int) - 1) = (s : Int) := by rw [IntKind.wrap_i64]; omega
  have e3 : IntKind.i64.wrap (s : Int) = (s : Int) := by rw [IntKind.wrap_i64]; omega
  go_simp
theorem leq_noR {y z : Int} (h : y < z) (w : World) : Sem.run Try.prog (binOp .leq 3 (.int .i64 z) (.int .i64 y)) w = .ok (.bool false) w := by
  have e : decide (z ≤ y) = false := by simp; omega
  go_simp
theorem idxR {w : World} {b off n c k : Nat} (h : k < n) : (Instr.indexAt 23 (.slice (some ⟨b, off, none⟩) n c) (.int .i64 (k : Int))).run Try.prog w = .ok (.pointer (some ⟨b, off + k, none⟩)) w := by
  have h1 : (0 : Int) ≤ (k : Int) := by omega
  have h3 : (k : Int) < (n : Int) := by omega
  go_simp
theorem ld_numR {w : World} {g i : Nat} {z : Int} (h : w.cell? ⟨g, i, none⟩ = some (.int .i64 z)) : Sem.run Try.prog (Instr.loadAt 3 (.pointer (some ⟨g, i, none⟩))) w = .ok (.int .i64 z) w := by
  go_simp
/-- A slice of so many, whatever it holds. -/
def sliceN (n : Nat) : World → Value → Option Nat → Prop := fun _ v ob => (∃ a c, v = .slice a n c) ∧ ob = none
theorem sliceN_near {n : Nat} : ∀ (w w' : World) (v : Value) (ob : Option Nat), (∀ b, ob = some b → w'.heap[b]? = w.heap[b]?) → sliceN n w v ob → sliceN n w' v ob := fun _ _ _ _ _ h => h
/-- A graph of old edges and of a row of the call's own. -/
def graQ (A : Option Addr) (n c N : Nat) (L : List Int) : World → Value → (Nat → Prop) → Prop := fun w v bs => ∃ B m d, v = .agg #[.slice A n c, .slice B m d] ∧ w.ownsRow N 3 1 (.slice B m d) L.length (intZ L) ∧ ∀ b, (Value.slice B m d).ownBlock = some b → bs b
theorem graQ_near {A : Option Addr} {n c N : Nat} {L : List Int} : ∀ (w w' : World) (v : Value) (bs : Nat → Prop), (∀ b, bs b → w'.heap[b]? = w.heap[b]?) → graQ A n c N L w v bs → graQ A n c N L w' v bs := by
  rintro w w' v bs hb ⟨B, m, d, rfl, h, h2⟩
  exact ⟨B, m, d, rfl, row_heapR h fun b e => hb b (h2 b e), h2⟩
section
variable {ops : Array Oper} {Q : Exit → Act → World → Prop} {a : Act} {w w0 : World} {who : Nat → Nat} {i B r ro : Nat} {o : Oper}
theorem rol_aggQ (ho : ops[i]? = some o) (hw : Region.wanted o (yielded ops a.tmps) = true) {s : Nat} (hd : o.dst = some s) (hs : s < a.tmps.size) {p q : Nat} (hop : o.op = .build 25 #[(0, .tmp p), (1, .tmp q)]) {N : Nat} {A : Option Addr} {n c : Nat} {L : List Int}
    (h1 : (RLeaf.val p (.slice A n c)).holds 0 a w who) (h2 : (RLeaf.mem q (rowR N 3 1 L.length (intZ L))).holds r a w who) (hb : Below B w0 w) : wpOp Try.prog ops Q i (RPost ops i r ro (.mems s (graQ A n c N L)) B w0 a w who) a w := by
  obtain ⟨y, ob, hy, hob, hry, rfl⟩ := h2
  obtain ⟨A', d, rfl, -⟩ := intsZ hry
  refine rol_vals ho hw hd hs (ex_build hop (vs := #[(0, .slice A n c), (1, .slice A' L.length d)]) (by simp only [List.map_toArray, List.map_cons, List.map_nil, eval_slot h1, eval_slot hy]) build_gra) (bs := fun b => (Value.slice A' L.length d).ownBlock = some b) (fun b e => hob b e) ⟨A', L.length, d, rfl, hry, fun b e => e⟩ hb
end
end Go.Proofs.Ytfkbpkjejnpaiaa
