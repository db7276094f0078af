/- The document's own class of an octet is the table's. -/
import Derived.Test.YtfkbpkjejnpaiaaOctA
namespace Go.Proofs.Ytfkbpkjejnpaiaa
open Go.RowKit
set_option maxRecDepth 100000

/-- The document's own class, as the tests of its text have it. -/
def refcls (c : Int) : Int :=
  if 48 ≤ c ∧ c ≤ 57 then 1 else if (65 ≤ c ∧ c ≤ 90) ∨ (97 ≤ c ∧ c ≤ 122) then 2 else if c = 45 ∨ c = 46 ∨ c = 95 ∨ c = 126 then 3
  else if c = 47 then 4 else if c = 32 ∨ c = 9 then 5 else if c = 10 then 6 else if c = 34 then 7 else if c = 40 then 8 else if c = 41 then 9 else 0

theorem refcls_eq (c : Int) (h0 : 0 ≤ c) (h1 : c < 256) : refcls c = clsI c := by
  have h : ∀ n : Fin 256, refcls (n.1 : Int) = clsI (n.1 : Int) := by decide +kernel
  have := h ⟨c.toNat, by omega⟩
  rwa [show ((c.toNat : Nat) : Int) = c from by omega] at this

end Go.Proofs.Ytfkbpkjejnpaiaa
