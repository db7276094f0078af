/- What each kind of operation comes to, told by its operands. -/
import Derived.Test.YtdefphacdcbljaaRolA
namespace Go.Proofs.Ytdefphacdcbljaa
open Go.RowKit
set_option maxRecDepth 100000

section
variable {P : Program} {ops : Array Oper} {a : Act} {w : World} {o : Oper}
theorem want_yes {j s : Nat} {b : Bool} (hg : o.guard = some (j, b)) (hd : dstOf ops j = some s) (hs : a.tmps[s]? = some (.bool b)) : Region.wanted o (yielded ops a.tmps) = true := by
  have h : yielded ops a.tmps j = some b := by
    unfold yielded
    have : (ops[j]?).bind (·.dst) = some s := hd
    rw [this, Option.bind_some, hs]
  unfold Region.wanted
  rw [hg]
  simp only [h]
  simp
theorem want_no {j s : Nat} {b b' : Bool} (hg : o.guard = some (j, b)) (hd : dstOf ops j = some s) (hs : a.tmps[s]? = some (.bool b')) (hne : b' ≠ b) : Region.wanted o (yielded ops a.tmps) = false := by
  have h : yielded ops a.tmps j = some b' := by
    unfold yielded
    have : (ops[j]?).bind (·.dst) = some s := hd
    rw [this, Option.bind_some, hs]
  unfold Region.wanted
  rw [hg]
  simp only [h]
  simp [hne]
/-- An operation of the region that is not wanted, for what guards it was not. -/
theorem want_undef {j s : Nat} {b : Bool} (hg : o.guard = some (j, b)) (hd : dstOf ops j = some s) (hs : a.tmps[s]? = some undef) : Region.wanted o (yielded ops a.tmps) = false := by
  have h : yielded ops a.tmps j = none := by
    unfold yielded
    have : (ops[j]?).bind (·.dst) = some s := hd
    rw [this, Option.bind_some, hs]
    rfl
  unfold Region.wanted
  rw [hg]
  simp only [h]
  rfl
/-- It is not wanted: what is told of its slot. -/
theorem rol_val_skip {Q : Exit → Act → World → Prop} {w0 : World} {who : Nat → Nat} {i B r ro : Nat} (ho : ops[i]? = some o) (hw : Region.wanted o (yielded ops a.tmps) = false) {s : Nat} (hd : o.dst = some s) (hs : s < a.tmps.size) (hb : Below B w0 w) :
    wpOp P ops Q i (RPost ops i r ro (.val s undef) B w0 a w who) a w := by
  unfold wpOp
  simp only [ho]
  rw [if_neg (by rw [hw]; simp), hd]
  exact ⟨⟨undef, by rw [dst_of ho, hd]⟩, hb, who, RKeep.same _ _ _, put_self _ hs⟩
theorem ex_move {x : Operand} {v : Value} (hop : o.op = .move x ∨ o.op = .assign x) (hx : a.eval x = v) : Sem.run P (execOp a.eval o) w = .ok (.value v) w := by
  rcases hop with hop | hop <;> simp only [execOp, hop, Sem.run_pure, hx]
theorem ex_field {t : TypeId} {x : Operand} {g k c : Nat} (hop : o.op = .fieldAddr t x k) (hx : a.eval x = .pointer (some ⟨g, c, none⟩)) {v : Value} (hr : Sem.run P (Instr.fieldAt t (.pointer (some ⟨g, c, none⟩)) k) w = .ok v w) : Sem.run P (execOp a.eval o) w = .ok (.value v) w := by
  simp only [execOp, hop, hx]
  simp [hr]
theorem ex_load {t : TypeId} {x : Operand} {q : Addr} {v : Value} (hop : o.op = .load t x) (hx : a.eval x = .pointer (some q)) (hr : Sem.run P (Instr.loadAt t (.pointer (some q))) w = .ok v w) : Sem.run P (execOp a.eval o) w = .ok (.value v) w := by
  simp only [execOp, hop, hx]
  simp [hr]
theorem ex_bin {op : BinOp} {t u : TypeId} {x y : Operand} {vx vy v : Value} (hop : o.op = .binOp op t x y u) (hx : a.eval x = vx) (hy : a.eval y = vy) (hq : Sem.run P (eqGuard op t x y vx vy) w = .ok () w) (hr : Sem.run P (binOp op t vx vy) w = .ok v w) : Sem.run P (execOp a.eval o) w = .ok (.value v) w := by
  simp only [execOp, hop, hx, hy]
  simp [hq, hr]
theorem ex_un {op : UnOp} {t : TypeId} {x : Operand} {vx v : Value} (hop : o.op = .unOp op t x) (hx : a.eval x = vx) (hr : Sem.run P (Op.unary op vx) w = .ok v w) : Sem.run P (execOp a.eval o) w = .ok (.value v) w := by
  simp only [execOp, hop, hx]
  simp [hr]
theorem ex_pick_yes {c x y : Operand} {v : Value} (hop : o.op = .pick c x y) (hc : a.eval c = .bool true) (hx : a.eval x = v) : Sem.run P (execOp a.eval o) w = .ok (.value v) w := by
  simp only [execOp, hop, hc]
  simp [hx, asBool]
theorem ex_pick_no {c x y : Operand} {v : Value} (hop : o.op = .pick c x y) (hc : a.eval c = .bool false) (hx : a.eval y = v) : Sem.run P (execOp a.eval o) w = .ok (.value v) w := by
  simp only [execOp, hop, hc]
  simp [hx, asBool]
theorem ex_extract {x : Operand} {k : Nat} {vs : Array Value} {v : Value} (hop : o.op = .extract x k) (hx : a.eval x = .tuple vs) (hv : vs[k]? = some v) : Sem.run P (execOp a.eval o) w = .ok (.value v) w := by
  simp only [execOp, hop, hx]
  simp [Instr.extract, hv]
theorem ex_len {x : Operand} {t : TypeId} {vx v : Value} (hop : o.op = .call { callee := .builtin .len, args := #[x], argTypes := #[t] }) (hx : a.eval x = vx) (hr : Sem.run P (Builtin.len_ #[t] o.type #[vx]) w = .ok v w) : Sem.run P (execOp a.eval o) w = .ok (.value v) w := by
  simp only [execOp, hop]
  simp [resolve, invoke, builtin, hx, hr]
theorem ex_call {f : Nat} {xs : Array Operand} {ts : Array TypeId} {vs : Array Value} (hop : o.op = .call { callee := .value (.func f), args := xs, argTypes := ts }) (hx : xs.map a.eval = vs) (hef : ∀ args w, (callFunc f args).run P w = .ok (.enter f args) w) : Sem.run P (execOp a.eval o) w = .ok (.enter f vs) w := by
  have := hef vs w
  subst hx
  simp only [execOp, hop]
  simp [resolve, invoke, Act.eval, Deferred.ofValue]
  simpa using this
theorem ex_append {x y : Operand} {t : TypeId} {vx vy v : Value} {w' : World} (hop : o.op = .call { callee := .builtin .append, args := #[x, y], argTypes := #[t, t] }) (hx : a.eval x = vx) (hy : a.eval y = vy) (hr : Sem.run P (Builtin.append_ #[t, t] o.type #[vx, vy]) w = .ok v w') : Sem.run P (execOp a.eval o) w = .ok (.value v) w' := by
  simp only [execOp, hop]
  simp [resolve, invoke, builtin, hx, hy, hr]
theorem ex_lookup {x y : Operand} {t : TypeId} {vx vy v : Value} {c : Bool} (hop : o.op = .lookup t x y c) (hx : a.eval x = vx) (hy : a.eval y = vy) (hr : Sem.run P (Instr.lookup t vx vy c) w = .ok v w) : Sem.run P (execOp a.eval o) w = .ok (.value v) w := by
  simp only [execOp, hop, hx, hy]
  simp [hr]
theorem ex_build {t : TypeId} {xs : Array (Nat × Operand)} {vs : Array (Nat × Value)} {v : Value} (hop : o.op = .build t xs) (hx : (xs.map fun (i, x) => (i, a.eval x)) = vs) (hr : Sem.run P (Instr.build t vs) w = .ok v w) : Sem.run P (execOp a.eval o) w = .ok (.value v) w := by
  subst hx
  simp only [execOp, hop]
  simp [hr]
theorem ex_slice {t : TypeId} {n : Nat} {xs : Array (Nat × Operand)} {vs : Array (Nat × Value)} {v : Value} {w' : World} (hop : o.op = .buildSlice t n xs) (hx : (xs.map fun (i, x) => (i, a.eval x)) = vs) (hr : Sem.run P (Instr.buildSlice t n vs) w = .ok v w') : Sem.run P (execOp a.eval o) w = .ok (.value v) w' := by
  subst hx
  simp only [execOp, hop]
  simp [hr]
theorem ex_store {t : TypeId} {x y : Operand} {vx vy : Value} {w' : World} (hop : o.op = .store t x y) (hx : a.eval x = vx) (hy : a.eval y = vy) (hr : Sem.run P (Instr.storeAt t vx vy) w = .ok () w') : Sem.run P (execOp a.eval o) w = .ok .skip w' := by
  simp only [execOp, hop, hx, hy]
  simp [hr]
theorem ex_cut {t : TypeId} {x y : Operand} {vx vy v : Value} (hop : o.op = .slice t x none (some y) none) (hx : a.eval x = vx) (hy : a.eval y = vy) (hr : Sem.run P (Instr.sliceAt t vx none (some vy) none) w = .ok v w) : Sem.run P (execOp a.eval o) w = .ok (.value v) w := by
  simp only [execOp, hop, Option.map, hx, hy]
  simp [hr]
theorem ex_index {t : TypeId} {x y : Operand} {vx vy v : Value} (hop : o.op = .indexAddr t x y) (hx : a.eval x = vx) (hy : a.eval y = vy) (hr : Sem.run P (Instr.indexAt t vx vy) w = .ok v w) : Sem.run P (execOp a.eval o) w = .ok (.value v) w := by
  simp only [execOp, hop, hx, hy]
  simp [hr]
end
end Go.Proofs.Ytdefphacdcbljaa
