/- The document's order of two versions. -/
import Derived.Test.YtopcbmmnjmmoiaaVerK
namespace Go.Proofs.Ytopcbmmnjmmoiaa
open Go.RowKit
set_option maxRecDepth 100000

/-- What the walk keeps of the two versions. -/
structure TwoPre (w0 w : World) (g5 g7 : Nat) (a1 a2 : Option Addr) (c1 c2 n m : Nat) (p q : List (List UInt8)) : Prop where
  x5 : w.cell? ⟨g5, 3, none⟩ = some (.slice a1 n c1)
  x7 : w.cell? ⟨g7, 3, none⟩ = some (.slice a2 m c2)
  s1 : Strs w (.slice a1 n c1) p
  s2 : Strs w (.slice a2 m c2) q
  bl : Bel w0.heap.size w0 w
theorem TwoPre.drewN {w0 w : World} {g5 g7 : Nat} {a1 a2 : Option Addr} {c1 c2 n m : Nat} {p q : List (List UInt8)} (k : Nat) (h : TwoPre w0 w g5 g7 a1 a2 c1 c2 n m p q) : TwoPre w0 (w.drewN k) g5 g7 a1 a2 c1 c2 n m p q :=
  ⟨by simpa using h.x5, by simpa using h.x7, h.s1.drewN k, h.s2.drewN k, bel_step h.bl (bel_q ⟨k, rfl⟩)⟩

end Go.Proofs.Ytopcbmmnjmmoiaa
