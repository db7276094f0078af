/- THE TEXTS OF NodE NodH: The keys of a map of nodes, one by one, whatever their order, and what collects them. Lists of nodes that a call makes: those of one that are not in another one; a node, and nodes, as many as are looked at; two lists' sameness; whether a node is in one: of the document. -/
import Derived.Test.YtdefphacdcbljaaGreatNodC
import Derived.RangeFuncNested
import Derived.RangeFuncBox
import Derived.RangeFuncBound
import Derived.RangeFuncCalls
import Derived.Sort.MapsRangeIn
import Derived.Shelf.Abstract
import Derived.Shelf.AbstractIn
import Derived.WalkKit
import Derived.OwnWalkIn
import Derived.TacticsInMore
import Derived.RegionIn
import Derived.LoopNIn
import Derived.LoopIn
import Derived.Maps.AppendAt
import Derived.Test.YtdefphacdcbljaaGreatNodG
import Derived.StillTailTactics
namespace Go.Proofs.YtdefphacdcbljaaGreat
open Go.RowKit Go.Maps Go.Sort Go.Shelf
set_option maxRecDepth 100000

def mkKey (n : Nd) : Value := .agg #[.string (mkB n.1), .string (mkB n.2)]
def mkUnit (_ : Unit) : Value := .agg #[]
theorem inv_key (key : Value) (kl : Lit) (h : keyOf Tryz.prog 24 key = some kl) : ∃ x : Nd, key = mkKey x := by
  obtain ⟨n, rfl, _⟩ := key_inv h; exact ⟨n, rfl⟩
theorem inv_unit (v : Value) (y : DataW Unit × List MemPlace) (h : unitElem v = some y) : ∃ c, v = mkUnit c := ⟨(), (unitElem_inv h).1⟩

set_option maxHeartbeats 1600000 in
theorem keys1_in (F : Fence) (n : Nat) (h10 : F.fn 61) (hro : F.round = none) (hn : 1 ≤ n) (l Bm b nn : Nat) (D0 : DataW Unit) (J Jx : List Nd → World → Prop)
    (hY : ∀ pre x W, J pre W → pre.length < Maps.size D0 → YieldAt F (n - 1) Tryz.prog l #[mkKey x] W fun e W' =>
      (e = .returned (.bool true) ∧ J (pre ++ [x]) W' ∧ KeepsWalks W W') ∨ (e = .returned (.bool false) ∧ Jx (pre ++ [x]) W'))
    (W : World) (hJ : AbidesFrom W.heap.size J) (hm : W.cell? ⟨Bm, 0, none⟩ = some (.map (some b))) (hown : W.ownsMap Tryz.prog 24 unitElem b nn D0) (h0 : J [] W) :
    CallsIn F n Tryz.prog 61 #[.func (.yield l) #[] #[], .pointer (some ⟨Bm, 0, none⟩)] W fun e W' => (∃ v, e = .returned v) ∧
      ((∃ ss : List Nd, (∃ left : Lit → Bool, MetN D0 left ss ∧ ∀ kl, left kl = false) ∧ J ss W') ∨ (∃ pre : List Nd, True ∧ Jx pre W')) := by
  refine callsIn_of_wp Tryz.func61 rfl h10 ?_ hro
  simp only [Tryz.ntmps61, List.size_toArray, List.length_cons, List.length_nil, Nat.reduceAdd, Nat.reduceSub, Array.replicate_succ, Array.replicate_zero, List.push_toArray, List.append_toArray, List.nil_append, List.cons_append]
  gi_wp2_with (first
    | (gi_at_range; refine wpListIn_range_own _ rfl _ 74 rfl 24 75 node_keyed Tryz.underlying74 _ b nn _ rfl hown ?_; intro w0 hrg0 hg0 hs0)
    | gi_in)
  go_frame
  gi_loopw [3] (fun _ wr => ∃ (left : Lit → Bool) (cnt : Nat) (ss : List Nd), wr.ranges Tryz.prog 24 unitElem b W.heap.size nn D0 left cnt ∧ ss.length + cnt ≤ Maps.size D0 ∧ MetN D0 left ss ∧ J ss wr)
    (fun _ wr => wr.rangeLeft b W.heap.size)
  case atStart =>
    exact ⟨_, _, [], hrg0, by simp, MetN.start D0, hJ [] W w0 none h0 hg0 (fun r e => by cases e)⟩
  case round =>
    obtain ⟨left, cnt, ss, hrg, hcs, hC, hJs⟩ := hrel
    gi_wp2_with (first
      | (gi_at_next; refine wpListIn_next_ranges _ rfl _ rfl 24 node_keyed unitElem mkKey mkUnit inv_key inv_unit b W.heap.size nn _ _ _ rfl hrg ?_ ?_)
      | gi_in)
    · intro hc0 hl0
      gi_wp2
      go_end0
      exact ⟨⟨_, rfl⟩, .inl ⟨ss, ⟨left, hC, hl0⟩, hJs⟩⟩
    · intro x1 x2 c kl yd yp w2 cnt2 hkey hlk hv hat hrg2 hlt hg2 hs2 hen
      obtain ⟨x', ex, rfl, hf1, hf2⟩ := key_inv hkey
      obtain rfl : (x1, x2) = x' := ndV_inj ex
      have hJ2 : J ss w2 := hJ ss wr w2 (some W.heap.size) hJs hg2 (fun r e => by cases e; exact ⟨Nat.le_refl _, hrg.iter_walk⟩)
      have hJ3 : J ss (w2.alloc (.cells #[.string (mkB x1), .string (mkB x2)] 24)) := hJ ss w2 _ none hJ2 (World.grownBy_alloc w2 _ none) (fun r e => by cases e)
      obtain ⟨fn, tmps, assign, body, hy, hR⟩ := hY ss (x1, x2) _ hJ3 (by omega)
      have hrg3 := hrg2.alloc (.cells #[.string (mkB x1), .string (mkB x2)] 24)
      have hC2 := hC.step (n := (x1, x2)) ⟨hf1, hf2⟩ hlk hat
      simp only [mkKey, mkUnit] at hen hy ⊢
      clear hs2 hkey hv
      gi_wp2
      refine hR.mono ?_
      rintro e W3 (⟨rfl, hJ4, hk3⟩ | ⟨rfl, hJx3⟩)
      · gi_wp2
        have hrg4 := hrg3.of_walks hk3
        go_roundw
        case rel => exact ⟨_, cnt2, ss ++ [(x1, x2)], hrg4, by simp; omega, hC2, hJ4⟩
        case measure => rw [hrg4.left_eq, hrg.left_eq]; exact hlt
      · gi_wp2
        refine bodyPost_ret (results_none rfl _ _ _) rfl ?_
        exact ⟨⟨_, rfl⟩, .inr ⟨ss ++ [(x1, x2)], trivial, hJx3⟩⟩

/-- maps.Keys hands back a value that gives all keys, each once. -/
theorem keys_stops (F : Fence) (n : Nat) (h10 : F.fn 61) (hro : F.round = none) (hn : 1 ≤ n) (Bm b nn : Nat) (K : List Nd) (w : World) (hBm : Bm < w.heap.size)
    (hm : w.cell? ⟨Bm, 0, none⟩ = some (.map (some b))) (hown : NMap w b nn K) :
    SeqStopsK F n Tryz.prog 61 #[.pointer (some ⟨Bm, 0, none⟩)] (fun x : Nd => #[mkKey x]) KeepsWalks (fun ss => ss.Nodup ∧ ∀ n, n ∈ ss ↔ n ∈ K) (fun _ => True) nn w := fun l J Jx W hW hJ _ hY h0 => by
  obtain ⟨hf, D, ho, hD⟩ := hown.below hW
  have hsz := ho.size_le
  refine (keys1_in F n h10 hro hn l Bm b nn D J Jx (fun pre x W1 hj hl => hY pre x W1 hj (by omega)) W hJ ((hW.cell (p := ⟨Bm, 0, none⟩) hBm).trans hm) ho h0).mono ?_
  rintro e W' ⟨hv, (⟨ss, ⟨left, hM, hl⟩, hj⟩ | ⟨pre, _, hj⟩)⟩
  · exact ⟨hv, .inl ⟨ss, hM.all hl hf hD, hj⟩⟩
  · exact ⟨hv, .inr ⟨pre, trivial, hj⟩⟩

set_option maxHeartbeats 400000 in
theorem keys_in (F : Fence) (n : Nat) (h7 : F.fn 41) (hro : F.round = none) (mb : Option Nat) (w : World) :
    CallsIn F n Tryz.prog 41 #[.map mb] w fun e w' => e = .returned (.func (.func 61) #[] #[.pointer (some ⟨w.heap.size, 0, none⟩)]) ∧ w' = w.alloc (.cells #[.map mb] 74) := by
  refine callsIn_of_wp Tryz.func41 rfl h7 ?_ hro
  simp only [Tryz.ntmps41, List.size_toArray, List.length_cons, List.length_nil, Nat.reduceAdd, Nat.reduceSub, Array.replicate_succ, Array.replicate_zero, List.push_toArray, List.append_toArray, List.nil_append, List.cons_append]
  gi_wp2
  go_ret
  exact ⟨rfl, rfl⟩

theorem Tryz.info_node : (Tryz.prog.info? 24).map (fun i => (i.zero, i.size, i.bytes)) = some (some (.agg #[.string ByteArray.empty, .string ByteArray.empty]), 2, 32) := by kernel_rfl
def ndsC (ns : List Nd) : List Value := ns.flatMap fun n => [.string (mkB n.1), .string (mkB n.2)]
theorem ndsC_len (ns : List Nd) : (ndsC ns).length = ns.length * 2 := by
  induction ns with
  | nil => rfl
  | cons x l ih => simp only [ndsC, List.flatMap_cons, List.length_append, List.length_cons, List.length_nil] at ih ⊢; omega
theorem ndsC_snoc (ns : List Nd) (x : Nd) : ndsC (ns ++ [x]) = ndsC ns ++ [.string (mkB x.1), .string (mkB x.2)] := by simp [ndsC]

theorem cells_new_l (W : World) (xs : List Value) (t : TypeId) : ∀ (j : Nat) (u : Value), xs[j]? = some u → (W.alloc (.cells xs.toArray t)).cell? ((⟨W.heap.size, 0, none⟩ : Addr).add j) = some u := by
  intro j u hj
  have hadd : (⟨W.heap.size, 0, none⟩ : Addr).add j = ⟨W.heap.size, j, none⟩ := by unfold Addr.add; split <;> simp_all
  rw [hadd]
  have hh : (W.alloc (.cells xs.toArray t)).heap[W.heap.size]? = some (.cells xs.toArray t) := World.alloc_heap_new _ _
  unfold World.cell?
  rw [hh]
  simpa using hj
/-- The loop variable's own cells. -/
def AxN (w : World) (g : Nat) (lb : Array Value) (x : Nd) (a' : Act) (W : World) : Prop :=
  ∃ Bx, w.heap.size + 1 ≤ Bx ∧ W.heap[Bx]? = some (.cells #[.string (mkB x.1), .string (mkB x.2)] 24 (0, 0)) ∧
    a' = { tmps := #[.slice none 0 0, .func (.func g) #[] lb, .pointer (some ⟨w.heap.size, 0, none⟩), undef, .slice none 0 0, .pointer (some ⟨Bx, 0, none⟩), .func (.func g) #[] lb, .agg #[.string (mkB x.1), .string (mkB x.2)], undef, undef, undef, undef, undef], defers := [] }
theorem axn_own (w : World) (g : Nat) (lb : Array Value) (x : Nd) (a' : Act) (B : Nat) : OwnFrom B (fun (_ : Unit) W => AxN w g lb x a' W) := by
  rintro _ X Y row ⟨Bx, h1, h2, h3⟩ hg hr
  exact ⟨Bx, h1, (grownBy_keeps_cells hg (fun r e => (hr r e).2) h2 rfl).trans h2, h3⟩

attribute [local go_sem] Oper.semAt_some
set_option maxHeartbeats 4000000 in
/-- slices.AppendSeq(nil, seq): what came, in its order, in memory of the call's own. -/
theorem appendSeq_in (F : Fence) (n : Nat) (h11 : F.fn 44) (hro : F.round = none) (hn : 2 ≤ n) (g : Nat) (lb : Array Value) (hFg : F.fn g) (eg : ∀ args w, (callFunc g args).run Tryz.prog w = .ok (.enter g args) w)
    (S : List Nd → Prop) (N : Nat) (hN : N ≤ maxLen) (hNb : N * 32 ≤ 140737488355328) (w : World) (hseq : SeqStopsK F (n - 1) Tryz.prog g lb (fun x : Nd => #[mkKey x]) KeepsWalks S (fun _ => True) N w) :
    CallsIn F n Tryz.prog 44 #[.slice none 0 0, .func (.func g) #[] lb] w fun e w' => ∃ (v : Value) (ss : List Nd), e = .returned v ∧ S ss ∧ w'.ownsRow w.heap.size 24 2 v ss.length (ndsC ss) ∧ (v = .slice none 0 0 ↔ ss = []) ∧ Below w.heap.size w w' := by
  have h1 : 1 ≤ n := by omega
  obtain ⟨i0, hi, hz0, hz1, hz2⟩ := info_parts Tryz.info_node
  refine callsIn_of_wp_marks Tryz.func44 rfl h11 ?_ hro
  simp only [Tryz.ntmps44, List.size_toArray, List.length_cons, List.length_nil, Nat.reduceAdd, Nat.reduceSub, Array.replicate_succ, Array.replicate_zero, List.push_toArray, List.append_toArray, List.nil_append, List.cons_append]
  gi_wp2
  have bO := Boxed.new w 31 (.slice none 0 0)
  have hB0 : Below w.heap.size w (w.alloc (.cells #[.slice none 0 0] 31)) := (Below.refl _ w).alloc (Nat.le_refl _) _
  have hs0 : (w.alloc (.cells #[.slice none 0 0] 31)).heap.size = w.heap.size + 1 := by simp
  obtain ⟨W0, hW0⟩ : ∃ W0, w.alloc (.cells #[.slice none 0 0] 31) = W0 := ⟨_, rfl⟩
  rw [hW0] at bO hB0 hs0 ⊢
  clear hW0
  refine wpIn_rangeFunc_ownH hro h1 (gf := g) (lb := lb) rfl hFg eg hseq walksK_t walksK_b hB0 (fun _ => rfl)
    (fun pre W => (∃ v, Boxed W w.heap.size 31 v ∧ W.ownsRow w.heap.size 24 2 v pre.length (ndsC pre) ∧ (v = .slice none 0 0 ↔ pre = [])) ∧ Below w.heap.size w W)
    (fun _ _ _ => False)
    (OwnFrom.and (Own.from (holdsRow_own w.heap.size w.heap.size 31 24 2 (fun pre => pre.length) (fun pre => ndsC pre) (fun pre v => v = .slice none 0 0 ↔ pre = [])) _) (ownFrom_below (Nat.le_refl _) (by omega)))
    (fun _ _ _ _ _ hs _ _ => hs)
    ⟨⟨_, bO, World.ownsRow_nil _ _ _ _, by simp⟩, hB0⟩
    (AxN w g lb) (fun x a' => axn_own w g lb x a' _) ?assign ?body ?done ?stop
  case assign =>
    rintro l pre x W K ⟨⟨v, hv, hrow, hnil⟩, hB⟩ hK
    simp only [mkKey]
    gi_wp2
    refine hK _ _ ((KeepsOthers.alloc _ _).from _) (KeepsWalks.alloc _ _) ⟨⟨v, hv.alloc _, hrow.alloc _, hnil⟩, hB.alloc hB.size _⟩ ⟨W.heap.size, ?_, World.alloc_heap_new W _, rfl⟩
    have := hv.lt; omega
  case body =>
    rintro l pre x a' W hl ⟨r, hr⟩ ⟨⟨v, hv, hrow, hnil⟩, hB⟩ ⟨Bx, hBx, bX, rfl⟩ hlt
    have hc := hv.cell
    have c0 : W.cell? ⟨Bx, 0, none⟩ = some (.string (mkB x.1)) := by simp [World.cell?, bX]
    have c1 : W.cell? ⟨Bx, 1, none⟩ = some (.string (mkB x.2)) := by simp [World.cell?, bX]
    gi_wp2_with (gi_at_builtin; refine wpListIn_append_own _ rfl _ _ 31 rfl w.heap.size 24 i0 (.agg #[.string ByteArray.empty, .string ByteArray.empty]) 2 32 Tryz.underlying31 hi hz0 hz1 hz2 rfl (by decide) _ _ _ rfl (hrow.alloc _) ⟨W.heap.size, 0, none⟩ 1 1 [.string (mkB x.1), .string (mkB x.2)] rfl rfl (cells_new_l _ _ _) (by simp [Value.oneCell']) (by omega) (by omega) (by have := hB.size; simp; omega) ?_; intro v' w1 hown' hgrow _; obtain ⟨g', cap', rfl⟩ := ownsRow_succ hown'; obtain ⟨hv1, hv2, hr2, hk2, hb2⟩ := hv.appended (by decide) hrow hB.size (Nat.le_refl _) hown' hgrow; have hc1 := hv1.cell; have hf1 := hv1.frozen)
    exact ⟨hk2.from _, hk2.walks, ⟨_, hv2, by rw [ndsC_snoc]; simpa using hr2, by simp⟩, hB.trans hb2⟩
  case done =>
    rintro D ys W hD hS ⟨⟨v, hv, hrow, hnil⟩, hB⟩ hK
    have hc := hv.cell
    gi_wp2
    refine ⟨by simp, .inl ⟨_, _, rfl, run_takeDeferred hK, ?_⟩⟩
    exact ⟨_, results_tmp rfl _ _ _, v, ys, rfl, hS, ownsRow_putObj hrow _ hK rfl, hnil, hB.trans (belowK_b (w := w) (Nat.le_refl _) W D _ _ (by omega) hK rfl rfl)⟩
  case stop =>
    rintro D c pre W _ _ h _
    exact h.elim

set_option maxHeartbeats 1000000 in
theorem collect_in (F : Fence) (n : Nat) (h8 : F.fn 23) (h11 : F.fn 44) (hro : F.round = none) (hn : 3 ≤ n) (g : Nat) (lb : Array Value) (hFg : F.fn g) (eg : ∀ args w, (callFunc g args).run Tryz.prog w = .ok (.enter g args) w)
    (S : List Nd → Prop) (N : Nat) (hN : N ≤ maxLen) (hNb : N * 32 ≤ 140737488355328) (w : World) (hseq : SeqStopsK F (n - 1 - 1) Tryz.prog g lb (fun x : Nd => #[mkKey x]) KeepsWalks S (fun _ => True) N w) :
    CallsIn F n Tryz.prog 23 #[.func (.func g) #[] lb] w fun e w' => ∃ (v : Value) (ss : List Nd), e = .returned v ∧ S ss ∧ w'.ownsRow w.heap.size 24 2 v ss.length (ndsC ss) ∧ (v = .slice none 0 0 ↔ ss = []) ∧ Below w.heap.size w w' := by
  have h1 : 1 ≤ n := by omega
  refine callsIn_of_wp Tryz.func23 rfl h8 ?_ hro
  simp only [Tryz.ntmps23, List.size_toArray, List.length_cons, List.length_nil, Nat.reduceAdd, Nat.reduceSub, Array.replicate_succ, Array.replicate_zero, List.push_toArray, List.append_toArray, List.nil_append, List.cons_append]
  gi_wp2_with (gi_at_call 44; refine (appendSeq_in F (n - 1) h11 hro (by omega) g lb hFg eg S N hN hNb _ hseq).mono ?_; rintro e w' ⟨v, ss, rfl, hS, hrow, hnil, hb⟩)
  go_ret
  exact ⟨v, ss, rfl, hS, hrow, hnil, hb⟩
end Go.Proofs.YtdefphacdcbljaaGreat

namespace Go.Proofs.YtdefphacdcbljaaGreat
open Go.RowKit
set_option maxRecDepth 100000

theorem ndsC_at (ns : List Nd) : ∀ j, j < ns.length → (ndsC ns)[j * 2]? = some (.string (mkB (ns.getD j ([], [])).1)) ∧ (ndsC ns)[j * 2 + 1]? = some (.string (mkB (ns.getD j ([], [])).2)) := by
  induction ns with
  | nil => intro j hj; exact absurd hj (Nat.not_lt_zero j)
  | cons x l ih =>
    intro j hj
    have e : ndsC (x :: l) = .string (mkB x.1) :: .string (mkB x.2) :: ndsC l := rfl
    rw [e]
    cases j with
    | zero => exact ⟨rfl, rfl⟩
    | succ j =>
      have := ih j (by simpa using hj)
      rw [show (j + 1) * 2 = j * 2 + 1 + 1 by omega, show j * 2 + 1 + 1 + 1 = (j * 2 + 1) + 1 + 1 by omega]
      simpa using this
theorem Nds.owned {w : World} {base : Nat} {e : TypeId} {v : Value} {ns : List Nd} (h : w.ownsRow base e 2 v ns.length (ndsC ns)) : Nds w v ns := by
  rcases Joins.ownsRow_forms h with ⟨rfl, h0⟩ | ⟨g, cap, rfl⟩
  · have : ns = [] := List.eq_nil_of_length_eq_zero h0
    subst this
    exact ⟨none, 0, rfl, Nat.le_refl _, by unfold maxLen; omega, fun _ => rfl, fun h => absurd h (by simp)⟩
  · have hlt := h.lt g rfl
    have hcap : ns.length ≤ cap ∧ cap ≤ maxLen := by
      obtain ⟨_, h | ⟨g', cap', cur, hv, _, _, h1, h2, _⟩⟩ := h
      · cases h.1
      · injection hv with _ _ hc; subst hc; exact ⟨h1, h2⟩
    refine ⟨some ⟨g, 0, none⟩, cap, rfl, hcap.1, hcap.2, (fun h => by cases h), fun _ => ⟨g, 0, rfl, hlt.2, fun j hj => ?_⟩⟩
    have := ndsC_at ns j hj
    rw [Nat.zero_add, h.cellAt (j * 2) (by omega), h.cellAt (j * 2 + 1) (by omega)]
    exact this
theorem ndsO {w : World} {base : Nat} {e : TypeId} {v : Value} {ns : List Nd} (h : w.ownsRow base e 2 v ns.length (ndsC ns)) : ∃ a c, v = .slice a ns.length c ∧ Nds w (.slice a ns.length c) ns := by
  have hst := Nds.owned h
  obtain ⟨a, c, rfl, _⟩ := hst.ex
  exact ⟨a, c, rfl, hst⟩
theorem nds_none (w : World) : Nds w (.slice none 0 0) [] := ⟨none, 0, rfl, Nat.le_refl _, by unfold maxLen; omega, fun _ => rfl, fun h => absurd h (by simp)⟩

/-! ### Is a node in a list -/
set_option maxHeartbeats 1600000 in
theorem refnhas_any (V : Value) (ns : List Nd) (p v : List UInt8) (w : World) (h : Nds w V ns) :
    Calls Tryz.prog 33 #[V, .agg #[.string (mkB p), .string (mkB v)]] w fun e w' => e = .returned (.bool (hasN ns (p, v))) ∧ Below w.heap.size w w' := by
  obtain ⟨a, c, rfl, h1, h2, -, -⟩ := h.ex
  unfold maxLen at h2
  obtain ⟨n, hn⟩ : ∃ n, ns.length = n := ⟨_, rfl⟩
  rw [hn] at h1 h ⊢
  obtain ⟨R, hR⟩ : ∃ R, hasN ns (p, v) = R := ⟨_, rfl⟩
  rw [hR]
  have HN := Lib.hid hn; have ST := Lib.hid h; have HR := Lib.hid hR
  clear h hn hR
  obtain ⟨W, g, hW, hg, d0, d1, hb⟩ := boxB1 w (.string (mkB p)) (.string (mkB v)) 24
  have HW := Lib.hid hW; have HG := Lib.hid hg; have B := Lib.hid hb; have D0 := Lib.hid d0; have D1 := Lib.hid d1
  clear hW hg hb d0 d1
  go_enter Tryz.func33, Tryz.ntmps33
  go_upto_region 1 with fail
  rw [HW.out, HG.out]
  go_wp2
  go_loopw [5] (fun i wr => ∃ k q : Nat, k ≤ n ∧ i = .int .i64 k ∧ wr = W.drewN q ∧ Hid (hasN (ns.drop k) (p, v) = R)) (fun i _ => n - (intOf i).toNat)
  case atStart => exact ⟨0, 0, Nat.zero_le _, rfl, rfl, Lib.hid (by simpa using HR.out)⟩
  case round =>
    obtain ⟨k, q, hk, rfl, rfl, H⟩ := hrel
    by_cases hlt : k < n
    · have hkl : k < ns.length := by rw [HN.out]; exact hlt
      obtain ⟨Wq, hWq⟩ : ∃ Wq, W.drewN q = Wq := ⟨_, rfl⟩
      have hbq : Below W.heap.size W Wq := by rw [← hWq]; exact below_q ⟨q, rfl⟩
      obtain ⟨b, off, rfl, -, hc0, hc1⟩ := ((ST.out.below B.out).below hbq).at k hkl
      have d0 := cell_keep D0.out hbq
      have d1 := cell_keep D1.out hbq
      have hd := hasN_drop ns k (p, v) hkl
      obtain ⟨y, hy⟩ : ∃ y, y = ns.getD k ([], []) := ⟨_, rfl⟩
      rw [← hy] at hc0 hc1 hd
      obtain ⟨y1, y2⟩ := y
      simp only at hc0 hc1
      rw [hWq]
      have HWq := Lib.hid hWq; have HD := Lib.hid hd; clear hy hd hbq hWq
      have hgd := guard_nd
      have heq := eq_nd y1 y2 p v
      obtain ⟨o, ho⟩ : ∃ o, decide ((y1, y2) = (p, v)) = o := ⟨_, rfl⟩
      rw [ho] at heq
      have ho' : decide ((p, v) = (y1, y2)) = o := by rw [← ho]; exact decide_eq_decide.2 eq_comm
      have HO := Lib.hid ho'; clear ho ho'
      have hkb : (k : Int) < (n : Int) := by omega
      cases o
      · go_wp2_with fail
        go_quiet (fail)
        go_wp2
        have H5 : Hid (hasN (ns.drop (k + 1)) (p, v) = R) := Lib.hid (by rw [← H.out, HD.out, HO.out]; rfl)
        go_roundw
        case rel => exact ⟨k + 1, q + nq, by omega, by go_num, by rw [← HWq.out, World.drewN_drewN], H5⟩
        case measure => simp [intOf]; omega
      · go_wp2_with fail
        go_quiet (fail)
        go_wp2
        go_ret
        exact ⟨by rw [← H.out, HD.out, HO.out]; rfl, below_step (below_step B.out (below_q ⟨q, HWq.out.symm⟩)) (below_q ⟨nq, rfl⟩)⟩
    · go_wp2
      go_ret
      refine ⟨?_, below_step B.out (below_q ⟨q, rfl⟩)⟩
      rw [← H.out, hasN_end ns k _ (by rw [HN.out]; omega)]; rfl

/-! ### Are two lists the same -/
set_option maxHeartbeats 1600000 in
theorem nsame_any (U V : Value) (ns ms : List Nd) (w : World) (hu : Nds w U ns) (hv : Nds w V ms) :
    Calls Tryz.prog 16 #[U, V] w fun e w' => e = .returned (.bool (decide (ns = ms))) ∧ Below w.heap.size w w' := by
  obtain ⟨a, c, rfl, h1, h2, -, -⟩ := hu.ex
  obtain ⟨a', c', rfl, h1', h2', -, -⟩ := hv.ex
  unfold maxLen at h2 h2'
  obtain ⟨n, hn⟩ : ∃ n, ns.length = n := ⟨_, rfl⟩
  obtain ⟨m, hm⟩ : ∃ m, ms.length = m := ⟨_, rfl⟩
  rw [hn] at h1 hu ⊢
  rw [hm] at h1' hv ⊢
  obtain ⟨R, hR⟩ : ∃ R, decide (ns = ms) = R := ⟨_, rfl⟩
  rw [hR]
  have HN := Lib.hid hn; have HM := Lib.hid hm; have SU := Lib.hid hu; have SV := Lib.hid hv; have HR := Lib.hid hR
  clear hu hv hn hm hR
  by_cases hl : n = m
  · subst hl
    have h0 : ((n : Int) != (n : Int)) = false := by simp
    go_enter Tryz.func16, Tryz.ntmps16
    go_wp2
    go_loopw [5] (fun i wr => ∃ k q : Nat, k ≤ n ∧ i = .int .i64 k ∧ wr = w.drewN q ∧ Hid (ns.take k = ms.take k)) (fun i _ => n - (intOf i).toNat)
    case atStart => exact ⟨0, 0, Nat.zero_le _, rfl, rfl, Lib.hid (by simp)⟩
    case round =>
      obtain ⟨k, q, hk, rfl, rfl, H⟩ := hrel
      by_cases hlt : k < n
      · have hkl : k < ns.length := by rw [HN.out]; exact hlt
        have hkm : k < ms.length := by rw [HM.out]; exact hlt
        obtain ⟨Wq, hWq⟩ : ∃ Wq, w.drewN q = Wq := ⟨_, rfl⟩
        have hbq : Below w.heap.size w Wq := by rw [← hWq]; exact below_q ⟨q, rfl⟩
        obtain ⟨b, off, rfl, -, hc0, hc1⟩ := (SU.out.below hbq).at k hkl
        obtain ⟨b', off', rfl, -, hd0, hd1⟩ := (SV.out.below hbq).at k hkm
        obtain ⟨x, hx⟩ : ∃ x, x = ns.getD k ([], []) := ⟨_, rfl⟩
        obtain ⟨y, hy⟩ : ∃ y, y = ms.getD k ([], []) := ⟨_, rfl⟩
        rw [← hx] at hc0 hc1
        rw [← hy] at hd0 hd1
        have e1 : ns.take (k + 1) = ns.take k ++ [x] := by rw [List.take_succ_eq_append_getElem hkl, hx, nd_getD hkl]
        have e2 : ms.take (k + 1) = ms.take k ++ [y] := by rw [List.take_succ_eq_append_getElem hkm, hy, nd_getD hkm]
        obtain ⟨x1, x2⟩ := x
        obtain ⟨y1, y2⟩ := y
        simp only at hc0 hc1 hd0 hd1
        rw [hWq]
        have HWq := Lib.hid hWq; have E1 := Lib.hid e1; have E2 := Lib.hid e2; clear hx hy hbq hWq e1 e2
        have hgd := guard_nd
        have heq := neq_nd x1 x2 y1 y2
        obtain ⟨o, ho⟩ : ∃ o, decide ((x1, x2) = (y1, y2)) = o := ⟨_, rfl⟩
        rw [ho] at heq
        have HO := Lib.hid ho; clear ho
        have hkb : (k : Int) < (n : Int) := by omega
        cases o
        · simp only [Bool.not_false] at heq
          go_wp2_with fail
          go_quiet (fail)
          go_wp2
          go_ret
          refine ⟨?_, below_step (below_q ⟨q, HWq.out.symm⟩) (below_q ⟨nq, rfl⟩)⟩
          rw [← HR.out, decide_eq_false fun e => ?_]
          · rfl
          · have h5 := E1.out
            rw [e, E2.out] at h5
            have h6 := List.append_inj_right' h5 rfl
            simp only [List.cons.injEq, and_true] at h6
            have := of_decide_eq_false HO.out
            exact this h6.symm
        · simp only [Bool.not_true] at heq
          go_wp2_with fail
          go_quiet (fail)
          go_wp2
          have H5 : Hid (ns.take (k + 1) = ms.take (k + 1)) := Lib.hid (by rw [E1.out, E2.out, H.out, of_decide_eq_true HO.out])
          go_roundw
          case rel => exact ⟨k + 1, q + nq, by omega, by go_num, by rw [← HWq.out, World.drewN_drewN], H5⟩
          case measure => simp [intOf]; omega
      · go_wp2
        go_ret
        refine ⟨?_, below_q ⟨q, rfl⟩⟩
        have e : k = n := by omega
        subst e
        have h5 := H.out
        rw [List.take_of_length_le (by rw [HN.out]; exact Nat.le_refl _), List.take_of_length_le (by rw [HM.out]; exact Nat.le_refl _)] at h5
        rw [← HR.out, decide_eq_true h5]; rfl
  · have h0 : ((n : Int) != (m : Int)) = true := by simp; omega
    have HL := Lib.hid hl; clear hl
    go_enter Tryz.func16, Tryz.ntmps16
    go_wp2
    go_ret
    refine ⟨?_, Below.refl _ _⟩
    rw [← HR.out, decide_eq_false fun e => HL.out (by rw [← HN.out, ← HM.out, e])]; rfl
end Go.Proofs.YtdefphacdcbljaaGreat
