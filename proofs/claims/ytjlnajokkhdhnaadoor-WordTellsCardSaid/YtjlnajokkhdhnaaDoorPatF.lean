/- The contracts of path at texts as the statements have them, and what they lean on. -/
import Derived.Test.YtjlnajokkhdhnaaDoorPatE
namespace Go.Proofs.YtjlnajokkhdhnaaDoor
open Go.RowKit
set_option maxRecDepth 100000

theorem m_size {x : List UInt8} (h : x.length ≤ 1000000000) : (mkB x).size ≤ 1000000000 := by rw [mkB_size]; exact h
theorem elements_m (x : List UInt8) (w : World) (h : x.length ≤ 1000000000) :
    Calls Tryd.prog 30 #[.string (mkB x)] w fun e w' => ∃ a c, e = .returned (.tuple #[.slice a (elsL x).length c, .int .i64 (pathE x)]) ∧ Strs w' (.slice a (elsL x).length c) (elsL x) ∧ Below w.heap.size w w' := by
  have := elements_any (mkB x) w (m_size h)
  rwa [mkB_list] at this
theorem pmay_m (x : List UInt8) (w : World) (h : x.length ≤ 1000000000) :
    Calls Tryd.prog 22 #[.string (mkB x)] w fun e w' => e = .returned (.bool (pathB x)) ∧ Below w.heap.size w w' := by
  have := pmay_any (mkB x) w (m_size h)
  rwa [mkB_list] at this
theorem refpmay_m (x : List UInt8) (w : World) (h : x.length ≤ 1000000000) :
    Calls Tryd.prog 24 #[.string (mkB x)] w fun e w' => e = .returned (.bool (pathB x)) ∧ Below w.heap.size w w' := by
  have := refpmay_any (mkB x) w (m_size h)
  rwa [mkB_list] at this
theorem refparts_m (x : List UInt8) (c : Int) (w : World) (h : x.length ≤ 1000000000) :
    Calls Tryd.prog 26 #[.string (mkB x), .int .u8 c] w fun e w' => ∃ a k, e = .returned (.slice a (splitL c x).length k) ∧ Strs w' (.slice a (splitL c x).length k) (splitL c x) ∧ Below w.heap.size w w' := by
  refine (refparts_any (mkB x) c w (m_size h)).mono ?_
  rintro e w' ⟨v, rfl, ho, hb⟩
  rw [mkB_list] at ho
  have hst := Strs.owned ho
  obtain ⟨a, k, rfl, _⟩ := hst.ex
  exact ⟨a, k, rfl, hst, hb⟩
theorem elementm_any (x : List UInt8) (w : World) (h : x.length ≤ 1000000000) :
    Calls Tryd.prog 32 #[.string (mkB x)] w fun e w' => e = .returned (.bool (elemB x)) ∧ w = w' := by
  have := refelement_any (mkB x) w (m_size h)
  rwa [mkB_list] at this
end Go.Proofs.YtjlnajokkhdhnaaDoor
