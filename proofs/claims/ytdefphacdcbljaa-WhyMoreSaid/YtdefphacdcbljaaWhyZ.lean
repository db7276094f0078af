/- Needs told back, each twice; an append that leaves what it was onto as it was. -/
import Derived.Test.YtdefphacdcbljaaWhyK
namespace Go.Proofs.Ytdefphacdcbljaa
open Go.RowKit Go.ChangeShapes Go.WideShapes
set_option linter.unusedVariables false
set_option maxRecDepth 100000

def dupK (l : List Ne) : List Ne := l.reverse.flatMap fun x => [x, x]
theorem dupK_step {l : List Ne} {j : Nat} (h : j < l.length) : dupK (l.drop j) = dupK (l.drop (j + 1)) ++ [l.getD j zNe, l.getD j zNe] := by
  unfold dupK
  rw [List.drop_eq_getElem_cons h, List.reverse_cons, List.flatMap_append, ne_getD h]; simp
theorem dupK_end (l : List Ne) : dupK (l.drop l.length) = [] := by rw [List.drop_length]; rfl
theorem dupK_mem (l : List Ne) (x : Ne) : x ∈ dupK l ↔ x ∈ l := by
  unfold dupK
  rw [List.mem_flatMap]
  constructor
  · rintro ⟨y, hy, hx⟩
    simp only [List.mem_cons, List.not_mem_nil, or_false, or_self] at hx
    rw [hx]; exact List.mem_reverse.1 hy
  · intro h
    exact ⟨x, List.mem_reverse.2 h, by simp⟩
theorem dupK_len (l : List Ne) : (dupK l).length = l.length * 2 := by
  unfold dupK
  induction l with
  | nil => rfl
  | cons x l ih => rw [List.reverse_cons, List.flatMap_append, List.length_append, ih, List.length_cons]; simp; omega
theorem dupK_may (l : List Ne) : mayK (dupK l) = mayK l := by
  rw [Bool.eq_iff_iff]
  exact ⟨fun h => mayK_sub h fun d hd => (dupK_mem l d).2 hd, fun h => mayK_sub h fun d hd => (dupK_mem l d).1 hd⟩
theorem dupK_chain (l : List Ne) (n : Nd) : chainE (dupK l) n = chainE l n := by
  unfold chainE
  rw [dupK_may]
  by_cases h : (mayK l && okN n) = true
  · have hm := ((Bool.and_eq_true _ _).mp h).1
    rw [if_pos h, if_pos h, farW_same hm (dupK_mem l), chW_same hm (dupK_mem l)]
  · rw [if_neg h, if_neg h]
/-- Of needs more the chain is no longer, or they may not be. -/
theorem chain_more {l m : List Ne} {n : Nd} {C Cx : List Nd} {xk : Int} (h : chainE l n = (C, 0)) (hx : chainE (dupK l ++ m) n = (Cx, xk)) : xk = 1 ∨ (xk = 0 ∧ Cx.length ≤ C.length) := by
  cases h1 : (mayK l && okN n)
  · rw [chainE_no h1] at h
    have := (Prod.mk.inj h).2
    omega
  obtain ⟨hm, ho⟩ := (Bool.and_eq_true _ _).mp h1
  by_cases hf : farW l n = 0
  · rw [chainE_none hm ho hf] at h
    have := (Prod.mk.inj h).2
    omega
  have hp : 0 < farW l n := by omega
  rw [chainE_yes hm ho hp] at h
  cases h2 : mayK (dupK l ++ m)
  · rw [chainE_no (by rw [h2]; rfl)] at hx
    exact .inl (Prod.mk.inj hx).2.symm
  · have hmr := farW_more hm h2 (fun d hd => List.mem_append_left _ ((dupK_mem l d).2 hd)) hp
    rw [chainE_yes h2 ho hmr.1] at hx
    refine .inr ⟨(Prod.mk.inj hx).2.symm, ?_⟩
    rw [← (Prod.mk.inj hx).1, ← (Prod.mk.inj h).1, (chain_facts h2 hmr.1).1, (chain_facts hm hp).1]
    exact hmr.2
theorem chain_errs {l : List Ne} {n : Nd} {C : List Nd} {k : Int} (h : chainE l n = (C, k)) : k = 0 ∨ k = 1 ∨ k = 11 := by
  unfold chainE at h
  split at h
  · split at h
    · exact .inr (.inr (Prod.mk.inj h).2.symm)
    · exact .inl (Prod.mk.inj h).2.symm
  · exact .inr (.inl (Prod.mk.inj h).2.symm)
theorem chain_err1 {l : List Ne} {n : Nd} {C : List Nd} (h : chainE l n = (C, 1)) : mayK l = true → okN n = false := fun hm => by
  cases ho : okN n
  · rfl
  · unfold chainE at h
    rw [hm, ho] at h
    by_cases hf : farW l n = 0
    · simp [hf] at h
    · simp [hf] at h
theorem app_keep19 {w w' : World} {base n : Nat} {v v' : Value} {K : List Ne} (hown : w.ownsRow base 39 4 v n (neC K)) {a0 : Option Addr} {m c : Nat} {L : List Ne} (hN : Nes w (.slice a0 m c) L) (hlen : n + m ≤ 2000000) (t : TypeId)
    (hr : (Builtin.append_ #[22, 22] t #[v, .slice a0 m c]).run Try.prog w = .ok v' w') : w'.ownsRow base 39 4 v n (neC K) := by
  obtain ⟨i, hi, hz, hsize, hby⟩ := info_parts Try.info_ne
  have hm : m = L.length := hN.lenE.1.symm
  cases a0 with
  | none =>
    obtain ⟨rfl, rfl⟩ := hN.nil rfl
    have hr2 := run_append_owned_none (P := Try.prog) (w := w) base 22 t 39 i 4 Try.underlying22 hi v n _ hown
    rw [hr] at hr2
    injection hr2 with e1 e2
    subst e2
    exact hown
  | some ad =>
    have hl : (neC L).length = m * i.size := by rw [neC_len, hm, hsize]
    have hnews := hN.src ad rfl
    have h1 : ∀ u ∈ neC L, u.oneCell' = true := fun u hu => List.all_eq_true.1 (neC_one L) u hu
    have hown0 := hown
    rcases hown.2 with ⟨rfl, rfl⟩ | ⟨g, cap, cur, rfl, hbg, hg, hnc, hcm, hcs, htake⟩
    · have hK : neC K = [] := List.eq_nil_of_length_eq_zero (by simpa using hown.1)
      rw [hK]
      exact World.ownsRow_nil _ _ _ _
    · by_cases hroom : n + m ≤ cap
      · have hfit : n * i.size + (neC L).length ≤ cur.size := by rw [hl, hcs, hsize, ← Nat.add_mul]; exact Nat.mul_le_mul_right _ hroom
        have hr2 := run_append_room (P := Try.prog) w 22 t 39 i Try.underlying22 hi g n cap cur hg ad m c (neC L) hl hnews h1 hroom hfit
        rw [hr] at hr2
        injection hr2 with e1 e2
        subst e2
        refine ⟨hown0.1, .inr ⟨g, cap, _, rfl, hbg, setRow_heap w g cur _ _ _ hg, hnc, hcm, ?_, ?_⟩⟩
        · simp only [List.size_toArray, List.length_append, List.length_take, List.length_drop, Array.length_toList]
          rw [hsize] at hfit
          rw [hsize]
          omega
        · rw [hsize] at hfit ⊢
          have hcl : n * 4 ≤ cur.toList.length := by rw [Array.length_toList]; omega
          rw [List.append_assoc, List.take_append_of_le_length (by rw [List.length_take]; omega), List.take_take, Nat.min_self]
          exact htake
      · have holds : ∀ j u, (neC K)[j]? = some u → w.cell? ((⟨g, 0, none⟩ : Addr).add j) = some u := hown0.cells (g := g) rfl
        have hr2 := run_append_grow (P := Try.prog) w 22 t 39 i _ Try.underlying22 hi hz ⟨g, 0, none⟩ n cap (neC K) (by rw [hown0.1, hsize]) holds ad m c (neC L) hl hnews (by omega) (by omega) (growslice_fits (by omega) (by rw [hby]; omega))
        rw [hr] at hr2
        injection hr2 with e1 e2
        subst e2
        exact row_heap hown0 fun b e => Below.heap_alloc w.drew _ b (own_lt hown0 e).2
/-- A row that has grown, and the one it was. -/
def twoK19 (N n' : Nat) (xs : List Value) (u : Value) (n : Nat) (ys : List Value) : World → Value → (Nat → Prop) → Prop := fun w v bs => w.ownsRow N 39 4 v n' xs ∧ w.ownsRow N 39 4 u n ys ∧ (∀ b, v.ownBlock = some b → bs b) ∧ ∀ b, u.ownBlock = some b → bs b
theorem twoK19_near {N n' : Nat} {xs : List Value} {u : Value} {n : Nat} {ys : List Value} : ∀ (w w' : World) (v : Value) (bs : Nat → Prop), (∀ b, bs b → w'.heap[b]? = w.heap[b]?) → twoK19 N n' xs u n ys w v bs → twoK19 N n' xs u n ys w' v bs := by
  rintro w w' v bs hb ⟨h1, h2, h3, h4⟩
  exact ⟨row_heap h1 fun b e => hb b (h3 b e), row_heap h2 fun b e => hb b (h4 b e), h3, h4⟩
/-- A slice so long; a pair of one and an error. -/
def sliS19 (n : Nat) : World → Value → (Nat → Prop) → Prop := fun _ v _ => ∃ a c, v = .slice a n c
def tupS19 (n : Nat) (k : Int) : World → Value → (Nat → Prop) → Prop := fun _ v _ => ∃ a c, v = .tuple #[.slice a n c, .int .i64 k]
theorem sliS19_near {n : Nat} : ∀ (w w' : World) (v : Value) (bs : Nat → Prop), (∀ b, bs b → w'.heap[b]? = w.heap[b]?) → sliS19 n w v bs → sliS19 n w' v bs := fun _ _ _ _ _ h => h
theorem tupS19_near {n : Nat} {k : Int} : ∀ (w w' : World) (v : Value) (bs : Nat → Prop), (∀ b, bs b → w'.heap[b]? = w.heap[b]?) → tupS19 n k w v bs → tupS19 n k w' v bs := fun _ _ _ _ _ h => h
section
variable {ops : Array Oper} {Q : Exit → Act → World → Prop} {a : Act} {w w0 : World} {who : Nat → Nat} {i B r ro : Nat} {o : Oper}
theorem rol_appk_ne (ho : ops[i]? = some o) (hw : Region.wanted o (yielded ops a.tmps) = true) {s : Nat} (hd : o.dst = some s) (hs : s < a.tmps.size) {y x : Operand} (hop : o.op = .call { callee := .builtin .append, args := #[y, x], argTypes := #[22, 22] })
    {N n t : Nat} {K : List Ne} {X : Value} (h : (RLeaf.mem t (rowX X N 39 4 n (neC K))).holds r a w who) (hy : a.eval y = X) {a0 : Option Addr} {m c : Nat} (hx : a.eval x = .slice a0 m c) {L : List Ne} (hN : Nes w (.slice a0 m c) L) (hlen : n + m ≤ 2000000) (hb : Below B w0 w) (hB : B ≤ N) (hNw : N ≤ w.heap.size) :
    wpOp Try.prog ops Q i (RPost ops i r r (.mems s (twoK19 N (n + m) (neC (K ++ L)) X n (neC K))) B w0 a w who) a w := by
  obtain ⟨v, ob, hv, hob, hrow, rfl⟩ := h
  obtain ⟨v', w', hr, h2, h3, h5⟩ := run_app_ne hrow hN hlen hNw o.type
  have h6 := app_keep19 hrow hN hlen o.type hr
  refine rol_wp ho hw ?_
  unfold Oper.wp
  rw [ex_append hop hy hx hr, Oper.upon_value, hd]
  refine ⟨⟨v', by rw [dst_of ho, hd]⟩, hb.grown h3 (Nat.le_trans hB hNw) (fun b e => Nat.le_trans hB (own_lt hrow e.symm.symm).1), rtag w who r, RKeep.grown h3 (fun b e => (hob b e).2), v', (fun b => v'.ownBlock = some b ∨ X.ownBlock = some b), put_self _ hs, fun b e => ?_, h2, h6, fun b e => .inl e, fun b e => .inr e⟩
  rcases e with e | e
  · rcases h5 with h | ⟨h, hlt⟩
    · rw [h] at e
      obtain ⟨b1, b2⟩ := hob b e
      exact ⟨Nat.lt_of_lt_of_le b1 h3.size, (rtag_old b1).trans b2⟩
    · rw [h] at e
      cases e
      exact ⟨hlt, rtag_new (Nat.le_refl _)⟩
  · obtain ⟨b1, b2⟩ := hob b e
    exact ⟨Nat.lt_of_lt_of_le b1 h3.size, (rtag_old b1).trans b2⟩
end
section
variable {wr : World} {ops : Array Oper} {rest : List Oper} {o : Oper} {a : Act} {Q : Exit → Act → World → Prop}
/-- 'append(l, m...)', l the call's own; guarded. -/
theorem wpList_app_ne19 (hgd : Region.wanted o (yielded ops a.tmps) = true) (s x : Operand) (ho : o.op = .call { callee := .builtin .append, args := #[s, x], argTypes := #[22, 22] })
    (base : Nat) (V : Value) (K : List Ne) (n : Nat) (hn : K.length = n) (hs : a.eval s = V) (hown : wr.ownsRow base 39 4 V n (neC K)) (A : Option Addr) (m c : Nat) (L : List Ne) (hx : a.eval x = .slice A m c) (hN : Nes wr (.slice A m c) L) (hlen : n + m ≤ 2000000) (hbase : base ≤ wr.heap.size)
    (h : ∀ a' c' w', w'.ownsRow base 39 4 (.slice a' (n + m) c') (n + m) (neC (K ++ L)) → wr.grownBy w' V.ownBlock → wpList Try.prog ops Q rest (a.put o.dst (.slice a' (n + m) c')) w') :
    wpList Try.prog ops Q (o :: rest) a wr := by
  refine wpList_step fun K' hK' => ?_
  rw [if_pos hgd]
  obtain ⟨v', w', hr, h2, h3, -⟩ := run_app_ne hown hN hlen hbase o.type
  have hm : m = L.length := hN.lenE.1.symm
  have ho2 : w'.ownsRow base 39 4 v' (K ++ L).length (neC (K ++ L)) := by rw [List.length_append, hn, ← hm]; exact h2
  obtain ⟨a', c', hv, _⟩ := nesO ho2
  rw [List.length_append, hn, ← hm] at hv
  subst hv
  have hk := h a' c' w' h2 h3
  unfold Oper.wp
  simp [execOp, ho, resolve, invoke, builtin, hs, hx, hr, Result.andThen]
  exact hK' _ _ hk
end
end Go.Proofs.Ytdefphacdcbljaa
