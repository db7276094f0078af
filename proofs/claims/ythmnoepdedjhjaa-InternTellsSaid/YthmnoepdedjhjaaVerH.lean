/- Version's order of two versions. -/
import Derived.Test.YthmnoepdedjhjaaVerG
import Derived.Deep.DrawnRows
import Derived.Deep.RegionHeld3
import Derived.Deep.CutRange
import Derived.Deep.DeepCutAuto
namespace Go.Proofs.Ythmnoepdedjhjaa
open Go.RowKit
set_option maxRecDepth 100000
attribute [local go_sem ↓] Go.wp_at_zero Go.wp_at_succ

theorem str_eq (d : Nat) (a b : ByteArray) (w : World) : Sem.run Try.prog (Op.equalIn (d + 1) 9 (.string a) (.string b)) w = .ok (a == b) w := by
  simp [Op.equalIn, run_underlying Try.underlying9]
theorem arr_eq_d (d : Nat) (h9 : ∀ a b w, Sem.run Try.prog (Op.equalIn d 9 (.string a) (.string b)) w = .ok (a == b) w) (x0 x1 x2 y0 y1 y2 : ByteArray) (w : World) :
    Sem.run Try.prog (Op.equalIn (d + 1) 81 (.agg #[.string x0, .string x1, .string x2]) (.agg #[.string y0, .string y1, .string y2])) w = .ok (x0 == y0 && (x1 == y1 && x2 == y2)) w := by
  have hi : ∀ w, Sem.run Try.prog (sizeOf 9) w = .ok 1 w := by intro w; kernel_rfl
  have ha : ∀ w, Sem.run Try.prog (isAgg 9) w = .ok false w := by intro w; kernel_rfl
  simp only [Op.equalIn, Sem.run_bind, run_underlying Try.underlying81, Result.andThen_ok, hi]
  rw [Std.Legacy.Range.forIn_eq_forIn_range']
  simp [Std.Legacy.Range.size, List.range'_succ, part, ha, h9]
  cases (x0 == y0) <;> cases (x1 == y1) <;> cases (x2 == y2) <;> simp
theorem strs3 {w : World} {g : Nat} {x y z : List UInt8} (h0 : w.cell? ⟨g, 0, none⟩ = some (.string (mkB x))) (h1 : w.cell? ⟨g, 1, none⟩ = some (.string (mkB y))) (h2 : w.cell? ⟨g, 2, none⟩ = some (.string (mkB z))) :
    Strs w (.slice (some ⟨g, 0, none⟩) 3 3) [x, y, z] := by
  refine ⟨some ⟨g, 0, none⟩, 3, rfl, Nat.le_refl _, by unfold maxLen; omega, (fun h => by cases h), fun _ => ⟨g, 0, rfl, World.block_lt_of_cell? w _ h0, fun j hj => ?_⟩⟩
  have : j = 0 ∨ j = 1 ∨ j = 2 := by simp only [List.length_cons, List.length_nil] at hj; omega
  rcases this with rfl | rfl | rfl
  · exact h0
  · exact h1
  · exact h2
theorem lex_may {a b : List (List UInt8)} (ha : ∀ l ∈ a, mayL l = true) (hb : ∀ l ∈ b, mayL l = true) : lexI numC a b = lexI cmpN a b := by
  induction a generalizing b with
  | nil => cases b <;> rfl
  | cons x a ih =>
    cases b with
    | nil => rfl
    | cons y b =>
      rw [lexI, lexI, numC_may (ha x List.mem_cons_self) (hb y List.mem_cons_self), ih (fun l h => ha l (List.mem_cons_of_mem _ h)) (fun l h => hb l (List.mem_cons_of_mem _ h))]
theorem nums_may {v : Ver} (h : fitL v = true) : ∀ l ∈ numsL v, mayL l = true := by
  obtain ⟨h1, h2, h3, _⟩ := fit_parts h
  intro l hl
  simp only [numsL, List.mem_cons, List.not_mem_nil, or_false] at hl
  rcases hl with rfl | rfl | rfl
  · exact h1
  · exact h2
  · exact h3
theorem cmpV_ne {v u : Ver} (fv : fitL v = true) (fu : fitL u = true) (h : ¬ numsL v = numsL u) : cmpV v u = lexI numC (numsL v) (numsL u) := by
  rw [lex_may (nums_may fv) (nums_may fu)]
  unfold cmpV
  rw [if_pos (fun e => h (((ord_lex ord_N).zero _ _).1 e))]
theorem cmpV_eq {v u : Ver} (h : numsL v = numsL u) : cmpV v u = preC v.2.2.2 u.2.2.2 := by
  unfold cmpV
  rw [if_neg (by rw [((ord_lex ord_N).zero _ _).2 h]; simp)]

theorem cell_alloc {w : World} {p : Addr} {v : Value} (h : w.cell? p = some v) (o : Obj) : (w.alloc o).cell? p = some v := bel_keep h ((Bel.refl _ _).alloc (Nat.le_refl _) o)
theorem cell_new {X : World} {cs : Array Value} {t : TypeId} {i n : Nat} {v : Value} (hn : n = X.heap.size) (hv : cs[i]? = some v) : (X.alloc (.cells cs t)).cell? ⟨n, i, none⟩ = some v := by
  subst hn; rw [World.cell?_alloc_new]; exact hv
theorem cell_drew {w : World} {p : Addr} {v : Value} (h : w.cell? p = some v) : w.drew.cell? p = some v := h

end Go.Proofs.Ythmnoepdedjhjaa
