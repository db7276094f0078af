/- Short forms of what regions by roles say of each operation, where there are many. -/
import Derived.Test.YtjnkjjlpkgbkiaaRolM
namespace Go.Proofs.Ytjnkjjlpkgbkiaa
open Go.RowKit
set_option linter.unusedVariables false
set_option maxRecDepth 100000

theorem lt_none {p : Nat → Prop} : ∀ i, i < 0 → p i := fun i h => absurd h (Nat.not_lt_zero i)
theorem lt_step {p : Nat → Prop} {n : Nat} (h : ∀ i, i < n → p i) (hn : p n) : ∀ i, i < n + 1 → p i := fun i hi => by
  rcases Nat.lt_succ_iff_lt_or_eq.1 hi with k | rfl
  · exact h i k
  · exact hn
section
variable {P : Program} {ops : Array Oper} {Q : Exit → Act → World → Prop} {a a0 : Act} {w w0 : World} {who : Nat → Nat} {i B M r ro Z : Nat} {o : Oper} {S pre role : List Nat} {FF : List RLeaf}
theorem rv (ho : ops[i]? = some o) (hw : Region.wanted o (yielded ops a.tmps) = true) {s : Nat} (hd : o.dst = some s) (hz : a.tmps.size = Z) (hs : decide (s < Z) = true) {v : Value} (hr : Sem.run P (execOp a.eval o) w = .ok (.value v) w) (hG : Lane a0 S B M w0 a w) :
    wpOp P ops Q i (RPost ops i r ro (.val s v) B w0 a w who) a w := rol_val ho hw hd (by rw [hz]; exact of_decide_eq_true hs) hr hG.below
theorem hat (hF : ∀ d ∈ pre, (FF.getD d .any).holds (role.getD d 0) a w who) (d : Nat) (hm : pre.contains d = true) {s : Nat} {v : Value} (hk : FF.getD d .any = .val s v) : a.tmps[s]? = some v := by
  have h := hF d (by simpa using hm)
  rw [hk] at h; exact h
theorem ev (hF : ∀ d ∈ pre, (FF.getD d .any).holds (role.getD d 0) a w who) (d : Nat) (hm : pre.contains d = true) {s : Nat} {v : Value} (hk : FF.getD d .any = .val s v) : a.eval (.tmp s) = v := eval_slot (hat hF d hm hk)
theorem ry (ho : ops[i]? = some o) (hF : ∀ d ∈ pre, (FF.getD d .any).holds (role.getD d 0) a w who) (d : Nat) (hm : pre.contains d = true) {t : Nat} {b : Bool} (hk : FF.getD d .any = .val t (.bool b)) (hg : o.guard = some (d, b)) (he : dstOf ops d = some t) {s : Nat} (hd : o.dst = some s) (hz : a.tmps.size = Z) (hs : decide (s < Z) = true) {v : Value} (hr : Sem.run P (execOp a.eval o) w = .ok (.value v) w) (hG : Lane a0 S B M w0 a w) :
    wpOp P ops Q i (RPost ops i r ro (.val s v) B w0 a w who) a w := rv ho (want_yes hg he (hat hF d hm hk)) hd hz hs hr hG
theorem rn (ho : ops[i]? = some o) (hF : ∀ d ∈ pre, (FF.getD d .any).holds (role.getD d 0) a w who) (d : Nat) (hm : pre.contains d = true) {t : Nat} {b b' : Bool} (hk : FF.getD d .any = .val t (.bool b')) (hg : o.guard = some (d, b)) (he : dstOf ops d = some t) (hn : (b' != b) = true) {s : Nat} (hd : o.dst = some s) (hz : a.tmps.size = Z) (hs : decide (s < Z) = true) (hG : Lane a0 S B M w0 a w) :
    wpOp P ops Q i (RPost ops i r ro (.val s undef) B w0 a w who) a w := rol_val_skip ho (want_no hg he (hat hF d hm hk) (by simpa using hn)) hd (by rw [hz]; exact of_decide_eq_true hs) hG.below
theorem ru (ho : ops[i]? = some o) (hF : ∀ d ∈ pre, (FF.getD d .any).holds (role.getD d 0) a w who) (d : Nat) (hm : pre.contains d = true) {t : Nat} {b : Bool} (hk : FF.getD d .any = .val t undef) (hg : o.guard = some (d, b)) (he : dstOf ops d = some t) {s : Nat} (hd : o.dst = some s) (hz : a.tmps.size = Z) (hs : decide (s < Z) = true) (hG : Lane a0 S B M w0 a w) :
    wpOp P ops Q i (RPost ops i r ro (.val s undef) B w0 a w who) a w := rol_val_skip ho (want_undef hg he (hat hF d hm hk)) hd (by rw [hz]; exact of_decide_eq_true hs) hG.below
end
end Go.Proofs.Ytjnkjjlpkgbkiaa
