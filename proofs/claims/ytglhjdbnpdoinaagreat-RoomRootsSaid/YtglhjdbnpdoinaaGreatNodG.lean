/- Two nodes' sameness; whether a node is in a list: of the program and of the document; two lists' sameness. -/
import Derived.Test.YtglhjdbnpdoinaaGreatNodD
import Derived.Deep.QuietTactic
import Derived.BigQuiet
namespace Go.Proofs.YtglhjdbnpdoinaaGreat
open Go.RowKit
set_option maxRecDepth 100000

theorem Nds.at {w : World} {a : Option Addr} {n c : Nat} {ns : List Nd} (h : Nds w (.slice a n c) ns) (k : Nat) (hk : k < ns.length) :
    ∃ b off, a = some ⟨b, off, none⟩ ∧ b < w.heap.size ∧ w.cell? ⟨b, off + k * 2, none⟩ = some (.string (mkB (ns.getD k ([], [])).1)) ∧ w.cell? ⟨b, off + k * 2 + 1, none⟩ = some (.string (mkB (ns.getD k ([], [])).2)) := by
  obtain ⟨a', c', hv, _, _, _, h3⟩ := h.ex
  injection hv with e1 e2 e3
  subst e1
  obtain ⟨b, off, ha, hlt, hc⟩ := h3 (by omega)
  exact ⟨b, off, ha, hlt, (hc k hk).1, (hc k hk).2⟩
/-- Nodes that are not too long to be looked at. -/
def smallN (n : Nd) : Prop := n.1.length ≤ 1000000000 ∧ n.2.length ≤ 1000000000
theorem nd_fields : Tryz.prog.underlying 26 = some (.struct (Tryz.prog.fieldsOf 26)) := by kernel_rfl
theorem nd_held : Tryz.prog.stoodInHeld 26 = false := by kernel_rfl
theorem eqin_nd (p v p' v' : List UInt8) (w : World) : Sem.run Tryz.prog (Op.equalIn 10000 26 (.agg #[.string (mkB p), .string (mkB v)]) (.agg #[.string (mkB p'), .string (mkB v')])) w = .ok (decide ((p, v) = (p', v'))) w := by
  have hs := fun a b w => str_eq 9998 a b w
  have ha : ∀ w, Sem.run Tryz.prog (isAgg 9) w = .ok false w := by intro w; kernel_rfl
  have hz : ∀ w, Sem.run Tryz.prog (sizeOf 9) w = .ok 1 w := by intro w; kernel_rfl
  rw [show (10000 : Nat) = 9999 + 1 from rfl, run_equalIn_agg w 9999 26 _ _ nd_fields nd_held]
  simp only [Program.fieldsOf, Tryz.underlying26]
  go_simp
  simp only [mkB_beq]
  by_cases h1 : p = p' <;> by_cases h2 : v = v' <;> simp [h1, h2]
theorem eq_nd (p v p' v' : List UInt8) (w : World) : Sem.run Tryz.prog (binOp .eql 26 (.agg #[.string (mkB p), .string (mkB v)]) (.agg #[.string (mkB p'), .string (mkB v')])) w = .ok (.bool (decide ((p, v) = (p', v')))) w := by
  rw [run_eql_struct, eqin_nd]; rfl
theorem neq_nd (p v p' v' : List UInt8) (w : World) : Sem.run Tryz.prog (binOp .neq 26 (.agg #[.string (mkB p), .string (mkB v)]) (.agg #[.string (mkB p'), .string (mkB v')])) w = .ok (.bool (!decide ((p, v) = (p', v')))) w := by
  rw [run_neq_struct, eqin_nd]; rfl
theorem guard_nd (op : BinOp) (a b : Operand) (xs ys : Array Value) (w : World) : Sem.run Tryz.prog (eqGuard op 26 a b (.agg xs) (.agg ys)) w = .ok () w := run_eqGuard_agg w op _ a b xs ys (by kernel_rfl)

theorem hasN_drop (ns : List Nd) (k : Nat) (x : Nd) (h : k < ns.length) : hasN (ns.drop k) x = (decide (x = ns.getD k ([], [])) || hasN (ns.drop (k + 1)) x) := by
  unfold hasN
  rw [nd_getD h, List.drop_eq_getElem_cons h]
  simp only [List.mem_cons]
  by_cases hx : x = ns[k] <;> simp [hx]
theorem hasN_end (ns : List Nd) (k : Nat) (x : Nd) (h : ns.length ≤ k) : hasN (ns.drop k) x = false := by
  unfold hasN; rw [List.drop_eq_nil_of_le h]; simp

end Go.Proofs.YtglhjdbnpdoinaaGreat
