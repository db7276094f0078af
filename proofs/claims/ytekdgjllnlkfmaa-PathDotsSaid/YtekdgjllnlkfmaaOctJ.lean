/- What strings.Join puts together. -/
import Derived.Test.YtekdgjllnlkfmaaOctP
import Derived.Test.YtekdgjllnlkfmaaOctS
namespace Go.Proofs.Ytekdgjllnlkfmaa
open Go.RowKit

theorem join_jn (x : UInt8) (pre : List (List UInt8)) : Lib.join pre [x] = jn x pre := by
  cases pre with
  | nil => rfl
  | cons p ps =>
    rw [Lib.join_cons]
    unfold Lib.joinTail
    show p ++ _ = p ++ _
    rw [List.flatMap_def]
    rfl
theorem join_l (x : UInt8) (a : Option Addr) (c : Nat) (pre : List (List UInt8)) (w : World) (hst : Strs w (.slice a pre.length c) pre) (hp : 0 < pre.length) (hn : pre.length ≤ 1000000000) (hl : (jn x pre).length ≤ 1000000000) :
    Calls Try.prog 24 #[.slice a pre.length c, .string ⟨#[x]⟩] w fun e w' => e = .returned (.string (mkB (jn x pre))) ∧ Below w.heap.size w w' := by
  obtain ⟨a', c', hv, h1, h2, _, h3⟩ := hst.ex
  injection hv with e1 e2 e3
  subst e1 e3
  obtain ⟨b, off, rfl, hlt, hc⟩ := h3 hp
  have hm : (pre.map mkB).map (·.data.toList) = pre := by
    rw [List.map_map]
    have : ((fun x : ByteArray => x.data.toList) ∘ mkB) = id := by funext l; exact mkB_list l
    rw [this, List.map_id]
  have hsep : (⟨#[x]⟩ : ByteArray).data.toList = [x] := rfl
  have hjo : Lib.join ((pre.map mkB).map (·.data.toList)) (⟨#[x]⟩ : ByteArray).data.toList = jn x pre := by rw [hm, hsep, join_jn]
  have := Try.strings_Join b off c (pre.map mkB) ⟨#[x]⟩ w (fun j x hx => by
    rw [List.getElem?_map] at hx
    cases hj : pre[j]? with
    | none => rw [hj] at hx; cases hx
    | some y =>
      rw [hj] at hx
      injection hx with hx
      subst hx
      have hjl : j < pre.length := (List.getElem?_eq_some_iff.1 hj).1
      rw [hc j hjl, List.getD_eq_getElem?_getD, hj]; rfl) hlt (by rw [List.length_map]; omega) (by rw [List.length_map]; exact h1) (by rw [hjo]; omega)
  rw [hjo, List.length_map] at this
  exact this

theorem join_n (x : UInt8) (a : Option Addr) (c n : Nat) (pre : List (List UInt8)) (w : World) (hn : pre.length = n) (hst : Strs w (.slice a pre.length c) pre) (hp : 0 < n) (hN : pre.length ≤ 1000000000) (hl : (jn x pre).length ≤ 1000000000) :
    Calls Try.prog 24 #[.slice a n c, .string ⟨#[x]⟩] w fun e w' => e = .returned (.string (mkB (jn x pre))) ∧ Below w.heap.size w w' := by
  subst hn; exact join_l x a c pre w hst hp hN hl
end Go.Proofs.Ytekdgjllnlkfmaa
