/- A region that draws its order and whose operations make, or turn, memory: which operation leaves what, by roles of blocks, till it is used up. -/
import Derived.Test.YtdefphacdcbljaaGreatNodW
import Derived.Maps.AppendAt
namespace Go.Proofs.YtdefphacdcbljaaGreat
open Go.RowKit
set_option maxRecDepth 100000

/-- Blocks of other roles are as they were. -/
structure RKeep (r : Nat) (w : World) (who : Nat → Nat) (w' : World) (who' : Nat → Nat) : Prop where
  block : ∀ k, k < w.heap.size → who k ≠ r → w'.heap[k]? = w.heap[k]?
  who : ∀ k, k < w.heap.size → who' k = who k
  size : w.heap.size ≤ w'.heap.size
/-- What is new has the role r. -/
def rtag (w : World) (who : Nat → Nat) (r : Nat) : Nat → Nat := fun k => if k < w.heap.size then who k else r
theorem rtag_old {w : World} {who : Nat → Nat} {r k : Nat} (h : k < w.heap.size) : rtag w who r k = who k := if_pos h
theorem rtag_new {w : World} {who : Nat → Nat} {r k : Nat} (h : w.heap.size ≤ k) : rtag w who r k = r := if_neg (Nat.not_lt.2 h)
theorem RKeep.same (r : Nat) (w : World) (who : Nat → Nat) : RKeep r w who w who := ⟨fun _ _ _ => rfl, fun _ _ => rfl, Nat.le_refl _⟩
theorem RKeep.below {w w' : World} (h : Below w.heap.size w w') (r : Nat) (who : Nat → Nat) : RKeep r w who w' (rtag w who r) := ⟨fun k hk _ => h.block k hk, fun _ hk => rtag_old hk, h.size⟩
theorem RKeep.belowO {w w' : World} (h : Below w.heap.size w w') (r o : Nat) (who : Nat → Nat) : RKeep o w who w' (rtag w who r) := ⟨fun k hk _ => h.block k hk, fun _ hk => rtag_old hk, h.size⟩
theorem RKeep.grown {r : Nat} {w w' : World} {who : Nat → Nat} {ob : Option Nat} (hg : w.grownBy w' ob) (hb : ∀ b, ob = some b → who b = r) : RKeep r w who w' (rtag w who r) :=
  ⟨fun k hk hr => hg.block k hk (fun e => hr (hb k e.symm)), fun _ hk => rtag_old hk, hg.size⟩

/-- What an operation leaves: a value in a slot; a value in a slot, and what stands in its block (or it has none); what a block holds. -/
inductive RLeaf where
  | val (s : Nat) (v : Value)
  | mem (s : Nat) (p : World → Value → Option Nat → Prop)
  | mem2 (s t : Nat) (p : World → Value → Value → Option Nat → Prop)
  | mems (s : Nat) (p : World → Value → (Nat → Prop) → Prop)
  | box (g : Nat) (o : Obj)
  | any
def RLeaf.holds (k : RLeaf) (r : Nat) (a : Act) (w : World) (who : Nat → Nat) : Prop := match k with
  | .val s v => a.tmps[s]? = some v
  | .mem s p => ∃ v ob, a.tmps[s]? = some v ∧ (∀ b, ob = some b → b < w.heap.size ∧ who b = r) ∧ p w v ob
  | .mem2 s t p => ∃ v u ob, a.tmps[s]? = some v ∧ a.tmps[t]? = some u ∧ (∀ b, ob = some b → b < w.heap.size ∧ who b = r) ∧ p w v u ob
  | .mems s p => ∃ v bs, a.tmps[s]? = some v ∧ (∀ b, bs b → b < w.heap.size ∧ who b = r) ∧ p w v bs
  | .box g o => w.heap[g]? = some o ∧ who g = r
  | .any => True
def RLeaf.near (k : RLeaf) : Prop := match k with
  | .mem _ p => ∀ w w' v ob, (∀ b, ob = some b → w'.heap[b]? = w.heap[b]?) → p w v ob → p w' v ob
  | .mem2 _ _ p => ∀ w w' v u ob, (∀ b, ob = some b → w'.heap[b]? = w.heap[b]?) → p w v u ob → p w' v u ob
  | .mems _ p => ∀ w w' v bs, (∀ b, bs b → w'.heap[b]? = w.heap[b]?) → p w v bs → p w' v bs
  | _ => True
def RLeaf.slotOk (k : RLeaf) (dst : Option Nat) : Bool := match k with
  | .val s _ => dst != some s
  | .mem s _ => dst != some s
  | .mem2 s t _ => dst != some s && dst != some t
  | .mems s _ => dst != some s
  | _ => true
def RLeaf.roleOk (k : RLeaf) (r r' : Nat) : Bool := match k with
  | .mem _ _ => r != r'
  | .mem2 _ _ _ => r != r'
  | .mems _ _ => r != r'
  | .box _ _ => r != r'
  | _ => true
theorem RLeaf.keep {k : RLeaf} {r r' : Nat} {a : Act} {w w' : World} {who who' : Nat → Nat} {dst : Option Nat} {v : Value} (h1 : k.slotOk dst = true) (h2 : k.roleOk r r' = true) (hl : k.near) (hk : RKeep r' w who w' who') (h : k.holds r a w who) :
    k.holds r (a.put dst v) w' who' := by
  cases k with
  | val s u =>
    have hd : dst ≠ some s := by simpa [RLeaf.slotOk] using h1
    simp only [RLeaf.holds] at h ⊢; rw [put_other hd]; exact h
  | mem s p =>
    have hd : dst ≠ some s := by simpa [RLeaf.slotOk] using h1
    have hr : r ≠ r' := by simpa [RLeaf.roleOk] using h2
    obtain ⟨u, ob, hu, hb, hp⟩ := h
    refine ⟨u, ob, by rw [put_other hd]; exact hu, fun b e => ?_, hl w w' u ob (fun b e => ?_) hp⟩
    · obtain ⟨b1, b2⟩ := hb b e
      exact ⟨Nat.lt_of_lt_of_le b1 hk.size, (hk.who b b1).trans b2⟩
    · obtain ⟨b1, b2⟩ := hb b e
      exact hk.block b b1 (by rw [b2]; exact hr)
  | mem2 s t p =>
    have hd : dst ≠ some s ∧ dst ≠ some t := by simpa [RLeaf.slotOk] using h1
    have hr : r ≠ r' := by simpa [RLeaf.roleOk] using h2
    obtain ⟨v1, u, ob, hv, hu, hb, hp⟩ := h
    refine ⟨v1, u, ob, by rw [put_other hd.1]; exact hv, by rw [put_other hd.2]; exact hu, fun b e => ?_, hl w w' v1 u ob (fun b e => ?_) hp⟩
    · obtain ⟨b1, b2⟩ := hb b e
      exact ⟨Nat.lt_of_lt_of_le b1 hk.size, (hk.who b b1).trans b2⟩
    · obtain ⟨b1, b2⟩ := hb b e
      exact hk.block b b1 (by rw [b2]; exact hr)
  | mems s p =>
    have hd : dst ≠ some s := by simpa [RLeaf.slotOk] using h1
    have hr : r ≠ r' := by simpa [RLeaf.roleOk] using h2
    obtain ⟨u, bs, hu, hb, hp⟩ := h
    refine ⟨u, bs, by rw [put_other hd]; exact hu, fun b e => ?_, hl w w' u bs (fun b e => ?_) hp⟩
    · obtain ⟨b1, b2⟩ := hb b e
      exact ⟨Nat.lt_of_lt_of_le b1 hk.size, (hk.who b b1).trans b2⟩
    · obtain ⟨b1, b2⟩ := hb b e
      exact hk.block b b1 (by rw [b2]; exact hr)
  | box g o =>
    have hr : r ≠ r' := by simpa [RLeaf.roleOk] using h2
    obtain ⟨h3, h4⟩ := h
    have hlt := (Array.getElem?_eq_some_iff.1 h3).1
    exact ⟨(hk.block g hlt (by rw [h4]; exact hr)).trans h3, (hk.who g hlt).trans h4⟩
  | any => trivial

/-- Must fact j be kept by operation i: i may stand behind it, and ahead of what uses it up. -/
def rAlive (n : Nat) (deps : List (List Nat)) (till : List Nat) (i j : Nat) : Bool :=
  !(j == i || till.getD j n == i || (deps.getD i []).contains (till.getD j n) || (decide (j < n) && (deps.getD j []).contains i))
def rOk (ops : Array Oper) (S : List Nat) (deps pre : List (List Nat)) (role own till : List Nat) (FF : List RLeaf) : Bool :=
  (List.range ops.size).all fun i => ((dstOf ops i).all fun d => S.contains d) &&
    ((pre.getD i []).all fun d => decide (d < FF.length) && (decide (ops.size ≤ d) || (deps.getD i []).contains d) && (till.getD d ops.size == i || decide (ops.size ≤ till.getD d ops.size) || (deps.getD (till.getD d ops.size) []).contains i)) &&
    (List.range FF.length).all fun j => !rAlive ops.size deps till i j || ((FF.getD j .any).slotOk (dstOf ops i) && (FF.getD j .any).roleOk (role.getD j 0) (own.getD i 0))

/-- Behind an operation that turns blocks of role o alone: the fact that it leaves, of role r. -/
def RPost (ops : Array Oper) (i : Nat) (r o : Nat) (k : RLeaf) (B : Nat) (w0 : World) (a : Act) (w : World) (who : Nat → Nat) (a' : Act) (w' : World) : Prop :=
  (∃ v, a' = a.put (dstOf ops i) v) ∧ Below B w0 w' ∧ ∃ who', RKeep o w who w' who' ∧ k.holds r a' w' who'

theorem rol_run {P : Program} {ops : Array Oper} {Q : Exit → Act → World → Prop} {id : Nat} {a0 : Act} {w0 w : World} (hm : P.follows .mixedOrders = true) (deps : List (List Nat)) (hg : laneGood ops deps = true)
    (S : List Nat) (pre : List (List Nat)) (role own till : List Nat) (FF : List RLeaf) (hok : rOk ops S deps pre role own till FF = true) (hnear : ∀ j, j < FF.length → (FF.getD j .any).near) (B N : Nat) (hd : a0.defers = []) (hb : Below B w0 w) (hN : N = w.heap.size)
    (who0 : Nat → Nat) (hE0 : ∀ j, ops.size ≤ j → j < FF.length → (FF.getD j .any).holds (role.getD j 0) a0 w.drew who0)
    (hstep : ∀ i, i < ops.size → ∀ a w who, Lane a0 S B N w0 a w → (∀ d ∈ pre.getD i [], (FF.getD d .any).holds (role.getD d 0) a w who) → wpOp P ops Q i (RPost ops i (role.getD i 0) (own.getD i 0) (FF.getD i .any) B w0 a w who) a w)
    (hend : ∀ a w who, Lane a0 S B N w0 a w → (∀ j, j < FF.length → ops.size ≤ till.getD j ops.size → (FF.getD j .any).holds (role.getD j 0) a w who) → Q .normal a w) : (Code.region id ops true).wp P Q a0 w := by
  subst hN
  have hgood : ∀ i, i < ops.size → (∀ d ∈ deps.getD i [], d < i ∧ (d ∈ laneDeps ops i ∨ ∃ e ∈ laneDeps ops i, d ∈ deps.getD e [])) ∧ ∀ e ∈ laneDeps ops i, e < i := fun i hi => by
    unfold laneGood at hg
    have h := List.all_eq_true.1 hg i (List.mem_range.2 hi)
    rw [Bool.and_eq_true] at h
    refine ⟨fun d hd => ?_, fun e he => of_decide_eq_true (List.all_eq_true.1 h.2 e he)⟩
    have h1 := List.all_eq_true.1 h.1 d hd
    rw [Bool.and_eq_true, Bool.or_eq_true] at h1
    refine ⟨of_decide_eq_true h1.1, h1.2.imp (fun k => by simpa using k) fun k => ?_⟩
    obtain ⟨e, he, k⟩ := List.any_eq_true.1 k
    exact ⟨e, he, by simpa using k⟩
  refine wp_region_any hm (lane_inv (fun listed a w' => listed.size = ops.size ∧ (∃ who, Lane a0 S B w.heap.size w0 a w' ∧ ∀ j, j < FF.length → (j < ops.size → listed.getD j true = true) → (till.getD j ops.size < ops.size → listed.getD (till.getD j ops.size) true = false) → (FF.getD j .any).holds (role.getD j 0) a w' who) ∧ (∀ j, j < ops.size → listed.getD j true = true → ∀ d ∈ deps.getD j [], listed.getD d true = true)) ?_ ?_ _ _ _ _ (by simp) (by simp) ?_)
  · rintro listed a w' i hsz hi ⟨_, ⟨who, hG, hFF⟩, hC⟩
    obtain ⟨hun, o, ho, hall⟩ := mem_ready.1 hi
    have hin : i < ops.size := (Array.getElem?_eq_some_iff.1 ho).1
    have hdir : ∀ e ∈ laneDeps ops i, listed.getD e true = true := fun e he => by
      obtain ⟨x, hx, hb, rfl⟩ := (mem_laneDeps ho).1 he
      exact getD_false (hall x hx hb)
    have hdl : ∀ d ∈ deps.getD i [], listed.getD d true = true := fun d hd => by
      rcases ((hgood i hin).1 d hd).2 with h | ⟨e, he, h⟩
      · exact hdir d h
      · exact hC e (Nat.lt_trans ((hgood i hin).2 e he) hin) (hdir e he) d h
    unfold rOk at hok
    have h1 := List.all_eq_true.1 hok i (List.mem_range.2 hin)
    rw [Bool.and_eq_true, Bool.and_eq_true] at h1
    obtain ⟨⟨hS, hP⟩, hA⟩ := h1
    have hpre : ∀ d ∈ pre.getD i [], (FF.getD d .any).holds (role.getD d 0) a w' who := fun d hd => by
      have h2 := List.all_eq_true.1 hP d hd
      simp only [Bool.and_eq_true, Bool.or_eq_true, decide_eq_true_iff, beq_iff_eq] at h2
      obtain ⟨⟨h3, h4⟩, h5⟩ := h2
      refine hFF d h3 (fun hdn => ?_) (fun ht => ?_)
      · rcases h4 with h4 | h4
        · omega
        · exact hdl d (by simpa using h4)
      · rcases h5 with (h5 | h5) | h5
        · rw [h5]; exact hun
        · omega
        · cases e : listed.getD (till.getD d ops.size) true with
          | false => rfl
          | true => have := hC _ ht e i (by simpa using h5); rw [this] at hun; cases hun
    refine wpOp_mono ?_ (hstep i hin a w' who hG hpre)
    rintro a' w2 ⟨⟨v, rfl⟩, hb2, who', hk, hnew⟩
    refine ⟨by rw [Array.size_setIfInBounds]; exact hsz, ⟨who', hG.put v (fun d e => ?_) hb2 hk.size, fun j hj hl ht => ?_⟩, fun j hj hl d hd => ?_⟩
    · rw [e] at hS
      simpa using hS
    · by_cases hji : j = i
      · rw [hji]; exact hnew
      · have hti : till.getD j ops.size ≠ i := fun e => by
          have := ht (by rw [e]; exact hin)
          rw [e, Array.getD_eq_getD_getElem?, Array.getElem?_setIfInBounds_self_of_lt (by omega)] at this
          cases this
        have hl1 : j < ops.size → listed.getD j true = true := fun hjn => lane_set (hl hjn) hji
        have ht1 : till.getD j ops.size < ops.size → listed.getD (till.getD j ops.size) true = false := fun hjn => by
          have := ht hjn
          rwa [getD_set_ne true (Ne.symm hti)] at this
        have h2 := List.all_eq_true.1 hA j (List.mem_range.2 hj)
        have hal : rAlive ops.size deps till i j = true := by
          unfold rAlive
          simp only [Bool.not_eq_true', Bool.or_eq_false_iff, beq_eq_false_iff_ne, ne_eq, Bool.and_eq_false_iff, decide_eq_false_iff_not]
          refine ⟨⟨⟨hji, hti⟩, ?_⟩, ?_⟩
          · cases e : (deps.getD i []).contains (till.getD j ops.size) with
            | false => rfl
            | true =>
              have hm : till.getD j ops.size ∈ deps.getD i [] := by simpa using e
              have h3 := hdl _ hm
              have h4 := ht1 (Nat.lt_trans ((hgood i hin).1 _ hm).1 hin)
              rw [h3] at h4; cases h4
          · by_cases hjn : j < ops.size
            · right
              cases e : (deps.getD j []).contains i with
              | false => rfl
              | true =>
                have hm : i ∈ deps.getD j [] := by simpa using e
                have := hC j hjn (hl1 hjn) i hm
                rw [this] at hun; cases hun
            · exact .inl hjn
        rw [hal, Bool.not_true, Bool.false_or, Bool.and_eq_true] at h2
        exact RLeaf.keep h2.1 h2.2 (hnear j hj) hk (hFF j hj hl1 ht1)
    · have : listed.getD d true = true := by
        by_cases hji : j = i
        · rw [hji] at hd; exact hdl d hd
        · exact hC j hj (lane_set hl hji) d hd
      by_cases hdi : d = i
      · rw [hdi, Array.getD_eq_getD_getElem?, Array.getElem?_setIfInBounds_self_of_lt (by omega)]; rfl
      · rw [getD_set_ne true (Ne.symm hdi)]; exact this
  · rintro listed a w' hsz hr ⟨_, ⟨who, hG, hFF⟩, _⟩
    have hall : ∀ m j, j < m → j < ops.size → listed.getD j true = true := by
      intro m
      induction m with
      | zero => intro j h; exact absurd h (Nat.not_lt_zero j)
      | succ m ih =>
        intro j hjm hjs
        cases e : listed.getD j true with
        | true => rfl
        | false =>
          exfalso
          have hmem : j ∈ Region.ready .any ops listed := mem_ready.2 ⟨e, ops[j], Array.getElem?_eq_getElem hjs, fun x hx hb => by
            have hlt := (hgood j hjs).2 x.on ((mem_laneDeps (Array.getElem?_eq_getElem hjs)).2 ⟨x, hx, hb, rfl⟩)
            exact getD_true (by omega) (ih x.on (by omega) (by omega))⟩
          rw [hr] at hmem
          cases hmem
    exact hend a w' who hG fun j hj ht => hFF j hj (fun hjn => hall (j + 1) j (Nat.lt_succ_self j) hjn) (fun h => absurd h (Nat.not_lt.2 ht))
  · refine ⟨by simp, ⟨who0, lane_start hd S hb, fun j hj hl _ => ?_⟩, fun j hj hl => ?_⟩
    · by_cases hjn : j < ops.size
      · have := hl hjn
        rw [Array.getD_eq_getD_getElem?, Array.getElem?_replicate, if_pos hjn] at this
        cases this
      · exact hE0 j (Nat.not_lt.1 hjn) hj
    · exfalso
      rw [Array.getD_eq_getD_getElem?, Array.getElem?_replicate, if_pos hj] at hl
      cases hl

/-! ### The operations -/
section
variable {P : Program} {ops : Array Oper} {Q : Exit → Act → World → Prop} {a : Act} {w w0 : World} {who : Nat → Nat} {i B r ro : Nat} {o : Oper}
theorem rol_wp {K : Act → World → Prop} (ho : ops[i]? = some o) (hw : Region.wanted o (yielded ops a.tmps) = true) (h : o.wp P a w K Q) : wpOp P ops Q i K a w := by
  unfold wpOp
  simp only [ho]
  rw [if_pos hw]
  exact Or.inl h
theorem dst_of (ho : ops[i]? = some o) : dstOf ops i = o.dst := by unfold dstOf; rw [ho]; rfl
/-- It reads, or reckons. -/
theorem rol_val (ho : ops[i]? = some o) (hw : Region.wanted o (yielded ops a.tmps) = true) {s : Nat} (hd : o.dst = some s) (hs : s < a.tmps.size) {v : Value} (hr : Sem.run P (execOp a.eval o) w = .ok (.value v) w) (hb : Below B w0 w) :
    wpOp P ops Q i (RPost ops i r ro (.val s v) B w0 a w who) a w := by
  refine rol_wp ho hw ?_
  unfold Oper.wp
  rw [hr, Oper.upon_value, hd]
  refine ⟨⟨v, by rw [dst_of ho, hd]⟩, hb, who, RKeep.same _ _ _, put_self _ hs⟩
/-- It is not wanted. -/
theorem rol_skip (ho : ops[i]? = some o) (hw : Region.wanted o (yielded ops a.tmps) = false) (hb : Below B w0 w) : wpOp P ops Q i (RPost ops i r ro .any B w0 a w who) a w := by
  unfold wpOp
  simp only [ho]
  rw [if_neg (by rw [hw]; simp)]
  exact ⟨⟨undef, by rw [dst_of ho]⟩, hb, who, RKeep.same _ _ _, trivial⟩
/-- What stands in a slot, with its block, is put into another one. -/
theorem rol_move (ho : ops[i]? = some o) (hw : Region.wanted o (yielded ops a.tmps) = true) {s t : Nat} (hd : o.dst = some s) (hs : s < a.tmps.size) (hop : o.op = .move (.tmp t) ∨ o.op = .assign (.tmp t)) {p : World → Value → Option Nat → Prop}
    (h : (RLeaf.mem t p).holds r a w who) (hb : Below B w0 w) : wpOp P ops Q i (RPost ops i r ro (.mem s p) B w0 a w who) a w := by
  obtain ⟨v, ob, hv, hob, hp⟩ := h
  refine rol_wp ho hw ?_
  have he := eval_slot hv
  unfold Oper.wp
  have hr : Sem.run P (execOp a.eval o) w = .ok (.value v) w := by rcases hop with hop | hop <;> simp only [execOp, hop, Sem.run_pure, he]
  rw [hr, Oper.upon_value, hd]
  exact ⟨⟨v, by rw [dst_of ho, hd]⟩, hb, who, RKeep.same _ _ _, v, ob, put_self _ hs, hob, hp⟩
/-- It makes one block. -/
theorem rol_new (ho : ops[i]? = some o) (hw : Region.wanted o (yielded ops a.tmps) = true) {s : Nat} (hd : o.dst = some s) (hs : s < a.tmps.size) {v : Value} {x : Obj} (hr : Sem.run P (execOp a.eval o) w = .ok (.value v) (w.alloc x)) {p : World → Value → Option Nat → Prop}
    (hp : p (w.alloc x) v (some w.heap.size)) (hb : Below B w0 w) (hB : B ≤ w.heap.size) : wpOp P ops Q i (RPost ops i r r (.mem s p) B w0 a w who) a w := by
  refine rol_wp ho hw ?_
  unfold Oper.wp
  rw [hr, Oper.upon_value, hd]
  refine ⟨⟨v, by rw [dst_of ho, hd]⟩, hb.alloc hB _, rtag w who r, RKeep.below ((Below.refl _ _).alloc (Nat.le_refl _) _) r who, v, some w.heap.size, put_self _ hs, fun b e => ?_, hp⟩
  cases e
  exact ⟨by simp, rtag_new (Nat.le_refl _)⟩
/-- An append onto a row of the region's own. -/
theorem rol_grow (ho : ops[i]? = some o) (hw : Region.wanted o (yielded ops a.tmps) = true) {s : Nat} (hd : o.dst = some s) (hs : s < a.tmps.size) {v' : Value} {w' : World} (hr : Sem.run P (execOp a.eval o) w = .ok (.value v') w') {ob ob' : Option Nat}
    (hg : w.grownBy w' ob) (hob : ∀ b, ob = some b → b < w.heap.size ∧ who b = r) (hob' : ob' = ob ∨ ob' = some w.heap.size ∧ w.heap.size < w'.heap.size) {p : World → Value → Option Nat → Prop} (hp : p w' v' ob') (hb : Below B w0 w) (hB : B ≤ w.heap.size) (hrow : ∀ b, ob = some b → B ≤ b) :
    wpOp P ops Q i (RPost ops i r r (.mem s p) B w0 a w who) a w := by
  refine rol_wp ho hw ?_
  unfold Oper.wp
  rw [hr, Oper.upon_value, hd]
  refine ⟨⟨v', by rw [dst_of ho, hd]⟩, hb.grown hg hB hrow, rtag w who r, RKeep.grown hg (fun b e => (hob b e).2), v', ob', put_self _ hs, fun b e => ?_, hp⟩
  rcases hob' with h | ⟨h, hlt⟩
  · rw [h] at e
    obtain ⟨b1, b2⟩ := hob b e
    exact ⟨Nat.lt_of_lt_of_le b1 hg.size, (rtag_old b1).trans b2⟩
  · rw [h] at e
    cases e
    exact ⟨hlt, rtag_new (Nat.le_refl _)⟩
/-- It writes into one block. -/
theorem rol_store (ho : ops[i]? = some o) (hw : Region.wanted o (yielded ops a.tmps) = true) (hd : o.dst = none) {g : Nat} {x x' : Obj} {w' : World} (hr : Sem.run P (execOp a.eval o) w = .ok .skip w') (hx : w.heap[g]? = some x ∧ who g = r) (hx' : w'.heap[g]? = some x')
    (hk : ∀ k, k ≠ g → w'.heap[k]? = w.heap[k]?) (hsz : w'.heap.size = w.heap.size) (hb : Below B w0 w') : wpOp P ops Q i (RPost ops i r r (.box g x') B w0 a w who) a w := by
  refine rol_wp ho hw ?_
  unfold Oper.wp
  rw [hr, Oper.upon_skip, hd]
  refine ⟨⟨undef, by rw [dst_of ho, hd]⟩, hb, who, ⟨fun k _ hk2 => hk k (fun e => hk2 (by rw [e]; exact hx.2)), fun _ _ => rfl, by omega⟩, hx', hx.2⟩
/-- A call: what comes back, in a world that has grown. -/
theorem rol_call (ho : ops[i]? = some o) (hw : Region.wanted o (yielded ops a.tmps) = true) {s : Nat} (hd : o.dst = some s) (hs : s < a.tmps.size) {f : Nat} {vs : Array Value} (hr : Sem.run P (execOp a.eval o) w = .ok (.enter f vs) w) {R : Ending → World → Prop} (hc : Calls P f vs w R) {k : RLeaf}
    (h : ∀ e w', R e w' → ∃ v, e = .returned v ∧ Below w.heap.size w w' ∧ (k = .val s v ∨ ∃ p ob, k = .mem s p ∧ (∀ b, ob = some b → w.heap.size ≤ b ∧ b < w'.heap.size) ∧ p w' v ob)) (hb : Below B w0 w) (hB : B ≤ w.heap.size) :
    wpOp P ops Q i (RPost ops i r r k B w0 a w who) a w := by
  refine rol_wp ho hw ?_
  unfold Oper.wp
  rw [hr, Oper.upon_enter]
  refine hc.mono fun e w' hR => ?_
  obtain ⟨v, rfl, hb1, hk⟩ := h e w' hR
  rw [hd]
  refine ⟨⟨v, by rw [dst_of ho, hd]⟩, hb.trans (hb1.mono hB), rtag w who r, RKeep.below hb1 r who, ?_⟩
  rcases hk with rfl | ⟨p, ob, rfl, hob, hp⟩
  · exact put_self _ hs
  · refine ⟨v, ob, put_self _ hs, fun b e => ?_, hp⟩
    obtain ⟨b1, b2⟩ := hob b e
    exact ⟨b2, rtag_new b1⟩
/-- A call whose answer's memory is several blocks, all new (it turns none that was: the role that it may turn is any one). -/
theorem rol_calls (ho : ops[i]? = some o) (hw : Region.wanted o (yielded ops a.tmps) = true) {s : Nat} (hd : o.dst = some s) (hs : s < a.tmps.size) {f : Nat} {vs : Array Value} (hr : Sem.run P (execOp a.eval o) w = .ok (.enter f vs) w) {R : Ending → World → Prop} (hc : Calls P f vs w R) {k : RLeaf}
    (h : ∀ e w', R e w' → ∃ v, e = .returned v ∧ Below w.heap.size w w' ∧ (k = .val s v ∨ (∃ p ob, k = .mem s p ∧ (∀ b, ob = some b → w.heap.size ≤ b ∧ b < w'.heap.size) ∧ p w' v ob) ∨ ∃ p bs, k = .mems s p ∧ (∀ b, bs b → w.heap.size ≤ b ∧ b < w'.heap.size) ∧ p w' v bs)) (hb : Below B w0 w) (hB : B ≤ w.heap.size) :
    wpOp P ops Q i (RPost ops i r ro k B w0 a w who) a w := by
  refine rol_wp ho hw ?_
  unfold Oper.wp
  rw [hr, Oper.upon_enter]
  refine hc.mono fun e w' hR => ?_
  obtain ⟨v, rfl, hb1, hk⟩ := h e w' hR
  rw [hd]
  refine ⟨⟨v, by rw [dst_of ho, hd]⟩, hb.trans (hb1.mono hB), rtag w who r, RKeep.belowO hb1 r ro who, ?_⟩
  rcases hk with rfl | ⟨p, ob, rfl, hob, hp⟩ | ⟨p, bs, rfl, hob, hp⟩
  · exact put_self _ hs
  · refine ⟨v, ob, put_self _ hs, fun b e => ?_, hp⟩
    obtain ⟨b1, b2⟩ := hob b e
    exact ⟨b2, rtag_new b1⟩
  · refine ⟨v, bs, put_self _ hs, fun b e => ?_, hp⟩
    obtain ⟨b1, b2⟩ := hob b e
    exact ⟨b2, rtag_new b1⟩
/-- It makes one block: the role that it may turn is any one. -/
theorem rol_newO (ho : ops[i]? = some o) (hw : Region.wanted o (yielded ops a.tmps) = true) {s : Nat} (hd : o.dst = some s) (hs : s < a.tmps.size) {v : Value} {x : Obj} (hr : Sem.run P (execOp a.eval o) w = .ok (.value v) (w.alloc x)) {p : World → Value → Option Nat → Prop}
    (hp : p (w.alloc x) v (some w.heap.size)) (hb : Below B w0 w) (hB : B ≤ w.heap.size) : wpOp P ops Q i (RPost ops i r ro (.mem s p) B w0 a w who) a w := by
  refine rol_wp ho hw ?_
  unfold Oper.wp
  rw [hr, Oper.upon_value, hd]
  refine ⟨⟨v, by rw [dst_of ho, hd]⟩, hb.alloc hB _, rtag w who r, RKeep.belowO ((Below.refl _ _).alloc (Nat.le_refl _) _) r ro who, v, some w.heap.size, put_self _ hs, fun b e => ?_, hp⟩
  cases e
  exact ⟨by simp, rtag_new (Nat.le_refl _)⟩
/-- It reckons out of memory that several slots hold: a value whose blocks are of one role. -/
theorem rol_vals (ho : ops[i]? = some o) (hw : Region.wanted o (yielded ops a.tmps) = true) {s : Nat} (hd : o.dst = some s) (hs : s < a.tmps.size) {v : Value} (hr : Sem.run P (execOp a.eval o) w = .ok (.value v) w) {p : World → Value → (Nat → Prop) → Prop} {bs : Nat → Prop}
    (hbs : ∀ b, bs b → b < w.heap.size ∧ who b = r) (hp : p w v bs) (hb : Below B w0 w) : wpOp P ops Q i (RPost ops i r ro (.mems s p) B w0 a w who) a w := by
  refine rol_wp ho hw ?_
  unfold Oper.wp
  rw [hr, Oper.upon_value, hd]
  exact ⟨⟨v, by rw [dst_of ho, hd]⟩, hb, who, RKeep.same _ _ _, v, bs, put_self _ hs, hbs, hp⟩
end
end Go.Proofs.YtdefphacdcbljaaGreat
