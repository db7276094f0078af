/- What elements are put together, and which path is within which: of the program and of the document; the chapter's examples hold. -/
import Derived.Test.YtjlnajokkhdhnaaDoorPatC
namespace Go.Proofs.YtjlnajokkhdhnaaDoor
open Go.RowKit
set_option maxRecDepth 100000

def joinP (ls : List (List UInt8)) : List UInt8 × Int := if okJ ls = true then (jn 47 ls, 0) else ([], 1)
theorem joinP_ok {ls : List (List UInt8)} (h : okJ ls = true) : joinP ls = (jn 47 ls, 0) := by unfold joinP; rw [if_pos h]
theorem joinP_no {ls : List (List UInt8)} (h : okJ ls = false) : joinP ls = ([], 1) := by unfold joinP; rw [if_neg (by simp [h])]

theorem Strs.cut {w : World} {a : Option Addr} {len cap : Nat} {zs : List (List UInt8)} (h : Strs w (.slice a len cap) zs) (k : Nat) (hk : k ≤ len) : Strs w (.slice a k cap) (zs.take k) := by
  obtain ⟨a', c', hv, h1, h2, hn, h3⟩ := h.ex
  injection hv with e1 e2 e3
  subst e1 e2 e3
  have e : (zs.take k).length = k := by simp; omega
  refine ⟨a, cap, by rw [e], by omega, h2, hn, fun hp => ?_⟩
  rw [e] at hp ⊢
  obtain ⟨b, off, ha, hlt, hc⟩ := h3 (by omega)
  refine ⟨b, off, ha, hlt, fun j hj => ?_⟩
  rw [hc j (by omega)]
  congr 1
  simp only [List.getD_eq_getElem?_getD, List.getElem?_take, if_pos hj]

end Go.Proofs.YtjlnajokkhdhnaaDoor
