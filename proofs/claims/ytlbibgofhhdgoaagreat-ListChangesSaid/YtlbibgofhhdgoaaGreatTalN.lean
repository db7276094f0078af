/- THE TEXTS OF TalK TalN: The rows of nodes: of the program and of the document. Rows' nodes, a path's last version: of the document. -/
import Derived.Test.YtlbibgofhhdgoaaGreatTalJ
import Derived.Test.YtlbibgofhhdgoaaGreatNodP
namespace Go.Proofs.YtlbibgofhhdgoaaGreat
open Go.RowKit
set_option linter.unusedVariables false
set_option maxRecDepth 100000

/-- Rows that are being made: the last one's versions lie in a block of their own. -/
def OfI (w : World) (N : Nat) (X : Value) (T : List Rw) : Prop := (T = [] ∧ X = .slice none 0 0) ∨ ∃ T0 p vs zs Y, T = T0 ++ [(p, vs)] ∧ w.ownsRow N 63 2 X (T0.length + 1) (rwC T0 zs ++ [.string (mkB p), Y]) ∧ RwI w N zs T0 ∧ w.ownsRow N 9 1 Y vs.length (strC vs) ∧ ∀ j, j < T0.length → ∀ b, (zs.getD j undef).ownBlock = some b → Y.ownBlock ≠ some b
theorem rwC_one' (r : Rw) (y : Value) : rwC [r] [y] = [.string (mkB r.1), y] := rfl
theorem OfI.own {w : World} {N : Nat} {X : Value} {T : List Rw} (h : OfI w N X T) : RwO w N X T := by
  rcases h with ⟨rfl, rfl⟩ | ⟨T0, p, vs, zs, Y, rfl, h1, h2, h3, -⟩
  · exact RwO.nil _ _
  · refine ⟨zs ++ [Y], ?_, h2.snoc (r := (p, vs)) h3⟩
    rw [rwC_app [(p, vs)] [Y] h2.1, rwC_one', List.length_append]; exact h1
theorem OfI.len {w : World} {N : Nat} {X : Value} {T : List Rw} (h : OfI w N X T) : ∃ a c, X = .slice a T.length c := by
  obtain ⟨ys, h1, -⟩ := h.own
  exact own_form h1
/-! ### What operations leave -/
section
variable {ops : Array Oper} {Q : Exit → Act → World → Prop} {a : Act} {w w0 : World} {who : Nat → Nat} {i B r ro : Nat} {o : Oper}
end
end Go.Proofs.YtlbibgofhhdgoaaGreat

namespace Go.Proofs.YtlbibgofhhdgoaaGreat
open Go.RowKit
set_option linter.unusedVariables false
set_option maxRecDepth 100000

theorem build_ndT {w : World} {x y : ByteArray} : Sem.run Tryz.prog (Instr.build 55 #[(0, .string x), (1, .string y)]) w = .ok (.agg #[.string x, .string y]) w := by go_simp
theorem run_app_ndU {w : World} {base n : Nat} {v : Value} {K : List Nd} (hown : w.ownsRow base 55 2 v n (ndsC K)) {ad : Addr} {m c : Nat} {L : List Nd} (hN : Nds w (.slice (some ad) m c) L) (hlen : n + m ≤ 200000000) (hbase : base ≤ w.heap.size) (t : TypeId) :
    ∃ v' w', (Builtin.append_ #[22, 22] t #[v, .slice (some ad) m c]).run Tryz.prog w = .ok v' w' ∧ w'.ownsRow base 55 2 v' (n + m) (ndsC (K ++ L)) ∧ w.grownBy w' v.ownBlock ∧ (v'.ownBlock = v.ownBlock ∨ v'.ownBlock = some w.heap.size ∧ w.heap.size < w'.heap.size) := by
  obtain ⟨i, hi, hz, hsize, hby⟩ := info_parts Tryz.info_node
  obtain ⟨v', w', hr, h2, h3, _, h5⟩ := run_append_own_at (P := Tryz.prog) w base 22 t 55 i (.agg #[.string ByteArray.empty, .string ByteArray.empty]) 2 32 Tryz.underlying22 hi hz hsize hby rfl (by decide) v n _ hown ad m c (ndsC L) (by rw [ndsC_len, hN.lenE.1]) (hN.src ad rfl) (fun u hu => List.all_eq_true.1 (ndsC_one L) u hu) (by unfold maxLen; omega) (by omega) hbase
  rw [← ndsC_app] at h2
  exact ⟨v', w', hr, h2, h3, h5.imp id fun e => ⟨e, (h2.lt _ e).2⟩⟩
section
variable {ops : Array Oper} {Q : Exit → Act → World → Prop} {a : Act} {w w0 : World} {who : Nat → Nat} {i B r ro : Nat} {o : Oper}
/-- 'append(l, n)', l nodes of the region's own. -/
theorem rol_pushN (ho : ops[i]? = some o) (hw : Region.wanted o (yielded ops a.tmps) = true) {s : Nat} (hd : o.dst = some s) (hs : s < a.tmps.size) {y : Operand} {q : Nat} (hop : o.op = .call { callee := .builtin .append, args := #[y, .tmp q], argTypes := #[22, 22] })
    {N t n : Nat} {K : List Nd} {Y : Value} (h : (RLeaf.mem t (rowX Y N 55 2 n (ndsC K))).holds r a w who) (hy : a.eval y = Y) {p v : List UInt8} {r2 : Nat} (hq : (RLeaf.mem q (blkG 55 #[.string (mkB p), .string (mkB v)] 1)).holds r2 a w who) (hlen : n ≤ 100000000) (hb : Below B w0 w) (hB : B ≤ N) (hNw : N ≤ w.heap.size) {n' : Nat} (hn : n' = n + 1) {K' : List Nd} (hv : K' = K ++ [(p, v)]) :
    wpOp Tryz.prog ops Q i (RPost ops i r r (.mem s (rowG N 55 2 n' (ndsC K'))) B w0 a w who) a w := by
  subst hn hv
  obtain ⟨_, ob, -, hob, hrow, rfl⟩ := h
  obtain ⟨u, ob2, hu, -, b, rfl, rfl, hh⟩ := hq
  obtain ⟨v', w', hr, h2, h3, h5⟩ := run_app_ndU hrow (blk_nds hh) (m := 1) (c := 1) (by omega) hNw o.type
  exact rol_grow ho hw hd hs (ex_append hop hy (eval_slot hu) hr) h3 hob h5 ⟨h2, rfl⟩ hb (Nat.le_trans hB hNw) (fun b e => Nat.le_trans hB (own_lt hrow e).1)
end

/-! ### The last version -/
end Go.Proofs.YtlbibgofhhdgoaaGreat
