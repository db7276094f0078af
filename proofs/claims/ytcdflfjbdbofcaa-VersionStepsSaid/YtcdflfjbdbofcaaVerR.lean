/- What comes into version's laws, and the chapter's examples. -/
import Derived.Test.YtcdflfjbdbofcaaVerP
import Derived.Test.YtcdflfjbdbofcaaVerQ
import Derived.Deep.Strs
import Derived.Lib.SmallJoins
namespace Go.Proofs.Ytcdflfjbdbofcaa
open Go.RowKit Go.ChangeShapes Go.WideShapes

theorem strs_of {w : World} {a : Addr} {len cap m : Nat} {Sx : Nat → ByteArray} (hl : len ≤ cap) (hm : cap ≤ maxLen) (hlm : len ≤ m) (hx : ∀ i, i < m → w.cell? (a.add i) = some (.string (Sx i)) ∧ (Sx i).size ≤ maxLen) :
    ∃ zs, Strs w (.slice (some a) len cap) zs ∧ ∀ l ∈ zs, l.length ≤ maxLen := by
  refine ⟨(List.range len).map fun i => (Sx i).data.toList, ?_, fun l hl => ?_⟩
  · have e : ((List.range len).map fun i => (Sx i).data.toList).length = len := by simp
    refine ⟨some a, cap, by rw [e], by rw [e]; exact hl, hm, (fun h => by cases h), fun hp => ?_⟩
    rw [e] at hp ⊢
    obtain ⟨b, off, spot⟩ := a
    have h0 := (hx 0 (by omega)).1
    have hspot : spot = none := by simpa [Addr.add] using World.cell?_spot h0
    subst hspot
    refine ⟨b, off, rfl, ?_, fun j hj => ?_⟩
    · have := World.block_lt_of_cell? w _ h0
      simpa [Addr.add] using this
    · have h1 := (hx j (by omega)).1
      have h2 : (⟨b, off, none⟩ : Addr).add j = ⟨b, off + j, none⟩ := by unfold Addr.add; split <;> simp_all
      rw [h2] at h1
      rw [h1]
      unfold strV
      congr 2
      have : ((List.range len).map fun i => (Sx i).data.toList).getD j [] = (Sx j).data.toList := by
        simp [List.getD_eq_getElem?_getD, hj]
      rw [this, Lib.mk_data]
  · obtain ⟨i, hi, rfl⟩ := List.mem_map.1 hl
    have := (hx i (by have := List.mem_range.1 hi; omega)).2
    rw [Lib.size_eq] at this
    exact this

section
variable {H : Type} {enc : TypeId × Value → H} {w : World} {base : Nat} {spare : Nat → Bool} {held : Bool}
theorem strs_open {fuel : Nat} {a : Option Addr} {len cap : Nat} {x : DataW H × List MemPlace} (h : DataW.trod enc Try.prog w base spare held fuel 22 [.slice a len cap] = some x) :
    ∃ zs, Strs w (.slice a len cap) zs ∧ ∀ l ∈ zs, l.length ≤ maxLen := by
  rcases Go.Deep.open_strs Try.underlying22 Try.underlying9 (by kernel_rfl) h with ⟨hcs, _⟩ | ⟨ad, l, c, m, Sx, hcs, _, hl, hm, hmm, _, hx⟩
  · simp only [List.cons.injEq, Value.slice.injEq, and_true] at hcs
    obtain ⟨rfl, rfl, rfl⟩ := hcs
    exact ⟨[], strs_none w, fun l hl => by cases hl⟩
  · simp only [List.cons.injEq, Value.slice.injEq, and_true] at hcs
    obtain ⟨rfl, rfl, rfl⟩ := hcs
    exact strs_of hl hm (by rw [hmm]; split <;> omega) hx
theorem ver_open {r : Reach} {b0 : Nat} {v : Value} {d : DataW H} {p : List MemPlace} (hv : Value.okWide Try.prog w r b0 24 v) (h : DataW.Trod enc Try.prog w base spare held 24 v d p) :
    ∃ u : Ver, VerIn w v u ∧ fitsV u := by
  obtain ⟨v0, v1, v2, v3, y0, y1, y2, y3, n, rfl, _, _, t0, t1, t2, t3⟩ := Go.Joins.open_agg4 Try.underlying24 (by kernel_rfl) (by kernel_rfl) hv h
  obtain ⟨s0, e0, _, z0⟩ := DataW.trod_string Try.underlying9 t0
  obtain ⟨s1, e1, _, z1⟩ := DataW.trod_string Try.underlying9 t1
  obtain ⟨s2, e2, _, z2⟩ := DataW.trod_string Try.underlying9 t2
  simp only [List.cons.injEq, and_true] at e0 e1 e2
  subst e0 e1 e2
  have h3 : ∃ a len cap, v3 = .slice a len cap := by
    rcases Go.Deep.open_strs Try.underlying22 Try.underlying9 (by kernel_rfl) t3 with ⟨hcs, _⟩ | ⟨ad, l, c, m, Sx, hcs, _⟩
    · simp only [List.cons.injEq, and_true] at hcs; exact ⟨_, _, _, hcs⟩
    · simp only [List.cons.injEq, and_true] at hcs; exact ⟨_, _, _, hcs⟩
  obtain ⟨a, len, cap, rfl⟩ := h3
  obtain ⟨zs, hst, hz⟩ := strs_open t3
  obtain ⟨a', c', hq, _⟩ := hst.ex
  injection hq with q1 q2 q3
  subst q2
  refine ⟨(s0.data.toList, s1.data.toList, s2.data.toList, zs), ⟨⟨a, cap, ?_, hst⟩⟩, ?_, ?_, ?_, hz⟩
  · simp only [mkB, Lib.mk_data]
  · rw [Lib.size_eq] at z0; exact z0
  · rw [Lib.size_eq] at z1; exact z1
  · rw [Lib.size_eq] at z2; exact z2
end

/-! ### The chapter's examples -/
set_option maxHeartbeats 1600000 in
set_option maxRecDepth 100000 in
theorem awake3_any (w : World) :
    Calls Try.prog 18 #[] w fun e w' => e = .returned (.bool true) ∧ Below w.heap.size w w' := by
  have h1 : Hid (vcmpE [118, 49, 46, 48, 46, 48, 45, 50] [118, 49, 46, 48, 46, 48, 45, 49, 48] = (-1, 0)) := Lib.hid (by decide +kernel)
  have h2 : Hid (vcmpE [118, 49, 46, 48, 46, 48, 45, 49, 48] [118, 49, 46, 48, 46, 48, 45, 97] = (-1, 0)) := Lib.hid (by decide +kernel)
  have h3 : Hid (vcmpE [118, 49, 46, 48, 46, 48, 45, 97] [118, 49, 46, 48, 46, 48] = (-1, 0)) := Lib.hid (by decide +kernel)
  have h4 : Hid (okV [118, 49, 46, 48, 46, 48, 45, 48, 49] = false) := Lib.hid (by decide +kernel)
  have h5 : Hid (okV [118, 49, 46, 48, 46, 48, 45, 48, 49, 97] = true) := Lib.hid (by decide +kernel)
  have B0 := Below.refl w.heap.size w
  go_enter Try.func18, Try.ntmps18
  go_wp2_with (first
    | (go_at_call 19; refine (vcmp_any _ _ _ (by decide) (by decide)).mono ?_; rintro e w1 ⟨rfl, hb1⟩; have B1 := below_step (by assumption) hb1; clear hb1; simp only; first | rw [h1.out] | rw [h2.out] | rw [h3.out])
    | (go_at_call 16; refine (vmay_any _ _ (by decide)).mono ?_; rintro e w1 ⟨rfl, hb1⟩; have B1 := below_step (by assumption) hb1; clear hb1; simp only; first | rw [h4.out] | rw [h5.out]))
  go_ret
  exact ⟨rfl, by assumption⟩
end Go.Proofs.Ytcdflfjbdbofcaa
