/- A set's numbers in order: slices.Sorted(maps.Keys(s)), by the library's contracts. -/
import Derived.Test.YtfkbpkjejnpaiaaOctZ
import Derived.Test.YtfkbpkjejnpaiaaReaA
import Derived.Lib.SlKeysI
namespace Go.Proofs.Ytfkbpkjejnpaiaa
open Go.RowKit Go.Maps Go.Sort Go.Shelf
set_option linter.unusedVariables false
set_option maxRecDepth 100000

theorem zmap_perm {w : World} {b nn : Nat} {S : List Int} {D : DataW Unit} (hown : w.ownsMap Try.prog 3 unitElem b nn D) (hn : S.Nodup) (hD : ∀ z : Int, fitI z → has D (.int .i64 z) = decide (z ∈ S)) (hf : ∀ z ∈ S, fitI z) : S.Perm (intKeys D) := by
  obtain ⟨es, hE, hpw, _⟩ := hown.entries int_key
  obtain ⟨es', hE', hko⟩ := hown.keysOf
  obtain rfl : es = es' := by rw [hE] at hE'; simpa using hE'
  subst hE
  have hk : ∀ p ∈ es, ∃ x, p.1 = .int .i64 x ∧ fitI x := fun p hp => by
    obtain ⟨v, hv⟩ := hko p hp
    obtain ⟨x, _, hx, hw⟩ := Maps.keyOf_i64 Try.underlying3 hv
    exact ⟨x, hx, fit_wf hw⟩
  refine perm_intKeys hpw (fun p hp => by obtain ⟨x, hx, _⟩ := hk p hp; exact ⟨x, hx⟩) hn fun x => ?_
  by_cases hx : fitI x
  · rw [hD x hx, decide_eq_true_eq]
  · refine ⟨fun h => absurd (hf x h) hx, fun h => ?_⟩
    rw [has_eq, List.any_eq_true] at h
    obtain ⟨p, hp, hs⟩ := h
    obtain ⟨y, hy, hfy⟩ := hk p hp
    rw [hy] at hs
    have : y = x := by simpa [Lit.sameKey] using hs
    exact absurd (this ▸ hfy) hx

/-- slices.Sort's two contracts, at the fence that asks nothing. -/
theorem sortsZ (m : Nat) : AnyZI.SortsIn Try.prog Try.sortedZ_ren Fence.wide m :=
  ⟨fun blk off cap ss W hH hblk hsz => callsIn_wide.2 (AnyM.slices_Sort_int Try.sortZ blk off cap ss W hH hblk hsz),
   fun p cap W => callsIn_wide.2 (AnyM.slices_Sort_int_none Try.sortZ p cap W)⟩

set_option maxHeartbeats 1000000 in
theorem rising_any (b nn : Nat) (S : List Int) (w : World) (h : ZMap w b nn S) (hf : ∀ z ∈ S, fitI z) (hnn : nn ≤ 3000000) :
    Calls Try.prog 51 #[.map (some b)] w fun e w' => ∃ v, e = .returned v ∧ w'.ownsRow w.heap.size 3 1 v (riseI S).length (intZ (riseI S)) ∧ Below w.heap.size w w' := by
  obtain ⟨hnd, D0, hown, hsz, hD⟩ := h
  have hperm := zmap_perm hown hnd hD hf
  have hsl := hown.size_le
  have hmax : Maps.size D0 ≤ maxLen := by unfold maxLen; omega
  have hbytes : Maps.size D0 * 8 ≤ 140737488355328 := by omega
  refine (callsIn_wide (n := 6)).1 ?_
  have hbl := hown.lt
  have hseq : SeqGives Fence.wide 2 Try.prog 71 #[.pointer (some ⟨w.heap.size, 0, none⟩)] encZ (fun ss => ss.Perm (intKeys D0)) (Maps.size D0) (w.alloc (.cells #[.map (some b)] 56)) :=
    AnyZI.keys_gives (ρ := Try.keysZ_ren) { Try.keysZ with } Fence.wide _ trivial rfl (by omega) w.heap.size b nn D0 _ (by simp) (by simp) (by
      obtain ⟨es, clock, hb, Ft, hs, hD⟩ := hown
      exact ⟨es, clock, (Below.heap_alloc _ _ b hbl).trans hb, Ft, hs, hD⟩)
  have cK : ∀ mb W, CallsIn Fence.wide 5 Try.prog 61 #[.map mb] W fun e w' => e = .returned (.func (.func 71) #[] #[.pointer (some ⟨W.heap.size, 0, none⟩)]) ∧ w' = W.alloc (.cells #[.map mb] 56) := fun mb W => AnyZI.keys_in Try.keysZ Fence.wide 5 trivial rfl mb W
  have cS := AnyZI.sorted_in Try.sortedZ Fence.wide 5 trivial trivial trivial trivial rfl (by omega) (sortsZ _) (enters_of Try.func70 (by kernel_rfl) rfl) 71 #[.pointer (some ⟨w.heap.size, 0, none⟩)] trivial (enters_of Try.func71 (by kernel_rfl) rfl) _ _ hmax hbytes _ hseq
  change CallsIn _ _ Try.prog 60 _ _ _ at cS
  have hfK : Fence.wide.fn 61 := trivial
  have hfS : Fence.wide.fn 60 := trivial
  refine callsIn_of_wp Try.func51 rfl trivial ?_ rfl
  simp only [Try.ntmps51, List.size_toArray, List.length_cons, List.length_nil, Nat.reduceAdd, Nat.reduceSub, Array.replicate_succ, Array.replicate_zero, List.push_toArray, List.append_toArray, List.nil_append, List.cons_append]
  gi_wp2_with (first
    | (gi_at_call 61; refine (cK _ _).mono ?_; rintro e w' ⟨rfl, rfl⟩)
    | (gi_at_call 60; refine cS.mono ?_; rintro e w' ⟨v, ss, rfl, hS, hrow, hnil, hb⟩))
  go_ret
  have e1 : riseI S = ss.mergeSort (fun x y => decide (x ≤ y)) := mergeSort_of_perm_i (hperm.trans hS.symm)
  have e2 : (riseI S).length = ss.length := by rw [e1, List.length_mergeSort]
  refine ⟨v, rfl, ?_, ((Below.refl _ w).alloc (Nat.le_refl _) _).trans (hb.mono (by simp))⟩
  rw [e2, e1]
  exact ownsRow_base_a hrow (by simp)
end Go.Proofs.Ytfkbpkjejnpaiaa
