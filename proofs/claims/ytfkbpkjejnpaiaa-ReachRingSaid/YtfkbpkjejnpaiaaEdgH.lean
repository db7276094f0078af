/- Where edges lead, whence they come, and how many ends they have: of the program. -/
import Derived.Test.YtfkbpkjejnpaiaaEdgG
import Derived.Maps.OwnSet
import Derived.Sort.KeysCollected
namespace Go.Proofs.Ytfkbpkjejnpaiaa
open Go.RowKit Go.Maps
set_option maxRecDepth 100000

def nextK (l : List Ed) (f : Int) : Int := if mayE l f 0 then 0 else 1
def nextL (l : List Ed) (f : Int) : List Int := if mayE l f 0 then nextE l f else []
def backK (l : List Ed) (t : Int) : Int := if mayE l (-1) t then 0 else 1
def backL (l : List Ed) (t : Int) : List Int := if mayE l (-1) t then backE l t else []
def endsV (l : List Ed) : Int := if okE l then (endsE l : Int) else 0
theorem nextL_len (l : List Ed) (f : Int) : (nextL l f).length ≤ l.length := by
  unfold nextL; split
  · exact nextE_len l f
  · simp
theorem backL_len (l : List Ed) (t : Int) : (backL l t).length ≤ l.length := by
  unfold backL; split
  · exact backE_len l t
  · simp
abbrev intZ (l : List Int) : List Value := l.map (Value.int .i64)
theorem intZ_snoc (l : List Int) (z : Int) : intZ (l ++ [z]) = intZ l ++ [.int .i64 z] := by simp [intZ]
theorem intsZ {w : World} {base : Nat} {e : TypeId} {v : Value} {l : List Int} (h : w.ownsRow base e 1 v l.length (intZ l)) : ∃ a c, v = .slice a l.length c ∧ Ints w (.slice a l.length c) l := by
  have hst := Ints.owned h rfl
  obtain ⟨a, c, rfl, _⟩ := hst.ex
  exact ⟨a, c, rfl, hst⟩
theorem Ints.belowB {w w' : World} {v : Value} {zs : List Int} (h : Ints w v zs) (hb : Below w.heap.size w w') : Ints w' v zs := by
  obtain ⟨a, c, hv, h1, h2, hn, h3⟩ := h.ex
  refine ⟨a, c, hv, h1, h2, hn, fun hp => ?_⟩
  obtain ⟨b, off, ha, hlt, hc⟩ := h3 hp
  exact ⟨b, off, ha, Nat.lt_of_lt_of_le hlt hb.size, fun j hj => by rw [hb.cell (by exact hlt)]; exact hc j hj⟩

/-! ### A map whose keys are numbers -/
theorem int_key : Keyed Try.prog 3 := int_keyed Try.underlying3
theorem wf_fit {z : Int} (h : fitI z) : (Lit.int .i64 z).wf = true := WalkArith.wf_i64 h
theorem keyz {z : Int} (h : fitI z) : keyOf Try.prog 3 (.int .i64 z) = some (.int .i64 z) := by simp [keyOf, mapKey, Try.underlying3, wf_fit h]
/-- Block b is a map of at most nn entries whose keys are the numbers of S, no one twice. -/
structure ZMap (w : World) (b nn : Nat) (S : List Int) : Prop where
  nodup : S.Nodup
  ex : ∃ D : DataW Unit, w.ownsMap Try.prog 3 unitElem b nn D ∧ Maps.size D = S.length ∧ ∀ z : Int, fitI z → has D (.int .i64 z) = decide (z ∈ S)
theorem ZMap.made (w : World) : ZMap (w.alloc (.map #[] 0)) w.heap.size 0 [] :=
  ⟨List.nodup_nil, _, World.ownsMap_made w _ _ _, rfl, fun z _ => by simp [has]⟩
theorem ZMap.lt {w : World} {b nn : Nat} {S : List Int} (h : ZMap w b nn S) : b < w.heap.size := by obtain ⟨_, D, ho, _⟩ := h; exact ho.lt
theorem ZMap.below {w w' : World} {b nn : Nat} {S : List Int} (h : ZMap w b nn S) (hb : Below w.heap.size w w') : ZMap w' b nn S := by
  have hlt := h.lt
  obtain ⟨hf, D, ⟨es, clock, he, rest⟩, hD⟩ := h
  exact ⟨hf, D, ⟨es, clock, (hb.block b hlt).trans he, rest⟩, hD⟩
theorem keyz_lit {z : Int} (h : fitI z) : WideAt.IsKeyLit (.int .i64 z) := int_key.key (keyz h)
theorem zmap_put {w' : World} {b nn : Nat} {S : List Int} {D : DataW Unit} (hn : S.Nodup) (ht : Tidy D) (hs : Maps.size D = S.length) (hD : ∀ z : Int, fitI z → has D (.int .i64 z) = decide (z ∈ S)) {x : Int} (hx : fitI x)
    (ho : w'.ownsMap Try.prog 3 unitElem b nn (D.put (.int .i64 x) (.agg []))) : ZMap w' b nn (addI S x) := by
  refine ⟨addI_nodup hn x, _, ho, ?_, fun z hz => ?_⟩
  · rw [size_put ht, hD x hx, hs]
    unfold addI
    by_cases h : x ∈ S <;> simp [h]
  · have hm := addI_mem S x z
    by_cases e : z = x
    · subst e
      rw [has_put_same ht.isMap (keyz_lit hx), eq_comm, decide_eq_true_eq, hm]; exact .inr rfl
    · have hne : (Lit.int .i64 z) ≠ .int .i64 x := fun h => by injection h with _ h2; exact e h2
      rw [has_put_other hne, hD z hz]
      exact decide_eq_decide.2 (by rw [hm]; simp [e])
theorem zmap_del {w' : World} {b nn : Nat} {S : List Int} {D : DataW Unit} (hn : S.Nodup) (ht : Tidy D) (hs : Maps.size D = S.length) (hD : ∀ z : Int, fitI z → has D (.int .i64 z) = decide (z ∈ S)) {x : Int} (hx : fitI x)
    (ho : w'.ownsMap Try.prog 3 unitElem b nn (D.del (.int .i64 x))) : ZMap w' b nn (S.erase x) := by
  refine ⟨hn.erase x, _, ho, ?_, fun z hz => ?_⟩
  · have h1 := size_del ht (k := .int .i64 x)
    rw [hD x hx, hs] at h1
    rw [List.length_erase]
    by_cases h : x ∈ S <;> simp [h] at h1 ⊢ <;> omega
  · have hm := hn.mem_erase_iff (a := z) (b := x)
    by_cases e : z = x
    · subst e
      rw [has_del_same, eq_comm, decide_eq_false_iff_not, hm]; simp
    · have hne : (Lit.int .i64 z) ≠ .int .i64 x := fun h => by injection h with _ h2; exact e h2
      rw [has_del_other hne, hD z hz]
      exact decide_eq_decide.2 (by rw [hm]; simp [e])
theorem make_zmap (w : World) : (Instr.makeMap 55 none).run Try.prog w = .ok (.map (some w.heap.size)) (w.alloc (.map #[] 0)) := by
  simp [Instr.makeMap, Result.andThen]
section
variable {wr : World} {ops : Array Oper} {rest : List Oper} {o : Oper} {a : Act} {Q : Exit → Act → World → Prop}
/-- 'm[z] = struct{}{}'. -/
theorem wpList_put_zmap (hgd : o.guard = none) (m x y : Operand) (ho : o.op = .mapUpdate 55 m x y) {b n : Nat} {S : List Int} (hm : a.eval m = .map (some b)) (h : ZMap wr b n S) {z : Int} (hz : fitI z) (hx : a.eval x = .int .i64 z) (hy : a.eval y = .agg #[]) (hn : n ≤ 3000000)
    (hK : ∀ w', ZMap w' b (n + 1) (addI S z) → wr.grownBy w' (some b) → wpList Try.prog ops Q rest (a.put o.dst undef) w') : wpList Try.prog ops Q (o :: rest) a wr := by
  obtain ⟨hnd, D, hown, hs, hD⟩ := h
  refine wpList_mapUpdate_own _ hgd m x y 55 ho 3 78 int_key Try.underlying55 unitElem b n D hm hown (by unfold maxLen; omega) _ _ (.int .i64 z) hx hy (keyz hz) (.agg []) [] unitElem_mk ?_
  intro w1 hown1 hgrow1
  exact hK w1 (zmap_put hnd (hown.tidy int_key) hs hD hz hown1) hgrow1
/-- 'delete(m, z)'. -/
theorem wpList_del_zmap (hgd : o.guard = none) (m x : Operand) (ho : o.op = .call { callee := .builtin .delete, args := #[m, x], argTypes := #[55, 3] }) {b n : Nat} {S : List Int} (hm : a.eval m = .map (some b)) (h : ZMap wr b n S) {z : Int} (hz : fitI z) (hx : a.eval x = .int .i64 z)
    (hK : ∀ w', ZMap w' b n (S.erase z) → wr.grownBy w' (some b) → wpList Try.prog ops Q rest (a.put o.dst (.tuple #[])) w') : wpList Try.prog ops Q (o :: rest) a wr := by
  obtain ⟨hnd, D, hown, hs, hD⟩ := h
  refine wpList_delete_own _ hgd m x 55 3 ho 78 int_key Try.underlying55 unitElem b n D hm hown _ (.int .i64 z) hx (keyz hz) ?_
  intro w1 hown1 hturn1
  exact hK w1 (zmap_del hnd (hown.tidy int_key) hs hD hz hown1) hturn1.grown
/-- 'len(m)'. -/
theorem wpList_len_zmap (hgd : o.guard = none) (m : Operand) (ho : o.op = .call { callee := .builtin .len, args := #[m], argTypes := #[55] }) {b n : Nat} {S : List Int} (hm : a.eval m = .map (some b)) (h : ZMap wr b n S)
    (hK : wpList Try.prog ops Q rest (a.put o.dst (.int .i64 (S.length : Int))) wr) : wpList Try.prog ops Q (o :: rest) a wr := by
  obtain ⟨hnd, D, hown, hs, hD⟩ := h
  refine wpList_len_own _ hgd m 55 ho 3 78 Try.underlying55 unitElem b n D hm hown ?_
  rw [hs]; exact hK
end

end Go.Proofs.Ytfkbpkjejnpaiaa
