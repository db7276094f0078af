/- The chapter's examples; and what the laws on edges have in common. -/
import Derived.Test.YtpbhngneciiaaaaEdgK
namespace Go.Proofs.Ytpbhngneciiaaaa
open Go.RowKit
set_option maxRecDepth 100000

set_option maxHeartbeats 1600000 in
theorem eawake_any (w : World) :
    Calls Try.prog 16 #[] w fun e w' => e = .returned (.bool true) ∧ Below w.heap.size w w' := by
  have k1 := fun w => add_any (.slice none 0 0) [] (-1) 3 w (eds_none w) (by simp)
  have k2 := fun V w h => add_any V [(-1, 3, 1)] (-1) 3 w h (by simp)
  have k3 := fun V w h => drop_any V [(-1, 3, 2)] (-1) 3 w h (by simp)
  have k4 := fun V w h => next_any V [(-1, 3, 1)] (-1) w h (by simp)
  have k5 := fun V w h => drop_any V [(-1, 3, 1)] 0 3 w h (by simp)
  rw [show addK [] (-1) 3 = 0 by decide +kernel, show addL [] (-1) 3 = [(-1, 3, 1)] by decide +kernel] at k1
  rw [show addK [(-1, 3, 1)] (-1) 3 = 0 by decide +kernel, show addL [(-1, 3, 1)] (-1) 3 = [(-1, 3, 2)] by decide +kernel] at k2
  rw [show dropK [(-1, 3, 2)] (-1) 3 = 0 by decide +kernel, show dropL [(-1, 3, 2)] (-1) 3 = [(-1, 3, 1)] by decide +kernel] at k3
  rw [show nextK [(-1, 3, 1)] (-1) = 0 by decide +kernel, show nextL [(-1, 3, 1)] (-1) = [3] by decide +kernel] at k4
  rw [show dropK [(-1, 3, 1)] 0 3 = 2 by decide +kernel, show dropL [(-1, 3, 1)] 0 3 = [] by decide +kernel] at k5
  simp only [List.length_cons, List.length_nil, Nat.zero_add] at k1 k2 k3 k4 k5
  have B := Lib.hid (Below.refl w.heap.size w)
  go_enter Try.func16, Try.ntmps16
  go_upto_region 2 with (go_at_call 22; refine (k1 _).mono ?_; rintro e w1 ⟨v1, rfl, hown, hb1⟩; obtain ⟨a1, c1, rfl, hE⟩ := edsO (es := [(-1, 3, 1)]) hown; have S1 := Lib.hid hE; replace B := Lib.hid (below_step B.out hb1); clear hown hb1 hE k1)
  go_upto_region 3 with (go_at_call 22; refine (k2 _ _ S1.out).mono ?_; rintro e w2 ⟨v2, rfl, hown, hb1⟩; obtain ⟨a2, c2, rfl, hE⟩ := edsO (es := [(-1, 3, 2)]) hown; have S2 := Lib.hid hE; replace B := Lib.hid (below_step B.out hb1); clear hown hb1 hE k2 S1)
  go_upto_region 4 with (go_at_call 23; refine (k3 _ _ S2.out).mono ?_; rintro e w3 ⟨v3, rfl, hown, hb1⟩; obtain ⟨a3, c3, rfl, hE⟩ := edsO (es := [(-1, 3, 1)]) hown; have S3 := Lib.hid hE; replace B := Lib.hid (below_step B.out hb1); clear hown hb1 hE k3 S2)
  go_upto_region 5 with (go_at_call 11; refine (k4 _ _ S3.out).mono ?_; rintro e w4 ⟨v4, rfl, hown, hb1⟩; obtain ⟨a4, c4, rfl, hE⟩ := intsZ (l := [3]) hown; have S4 := Lib.hid hE; replace S3 := Lib.hid (S3.out.below hb1); replace B := Lib.hid (below_step B.out hb1); clear hown hb1 hE k4)
  go_upto_region 6 with (go_at_call 23; refine (k5 _ _ S3.out).mono ?_; rintro e w5 ⟨v5, rfl, hown, hb1⟩; replace S4 := Lib.hid (S4.out.belowB hb1); replace B := Lib.hid (below_step B.out hb1); clear hown hb1 k5 S3)
  obtain ⟨b, off, rfl⟩ := S4.out.some (by simp)
  have hc : w5.cell? ⟨b, off, none⟩ = some (.int .i64 3) := S4.out.cell 0 (by simp)
  go_wp2
  go_ret
  exact ⟨rfl, B.out⟩

/-! ### Numbers of 16 bits that come in -/
def fitU16 (z : Int) : Prop := 0 ≤ z ∧ z ≤ 65535
structure U16s (w : World) (v : Value) (zs : List Int) : Prop where
  ex : ∃ a c, v = .slice a zs.length c ∧ zs.length ≤ c ∧ c ≤ maxLen ∧ (0 < zs.length → ∃ b off, a = some ⟨b, off, none⟩ ∧ b < w.heap.size ∧ ∀ j, j < zs.length → w.cell? ⟨b, off + j, none⟩ = some (.int .u16 (zs.getD j 0)))
theorem U16s.below {w w' : World} {v : Value} {zs : List Int} (h : U16s w v zs) (hb : Below w.heap.size w w') : U16s w' v zs := by
  obtain ⟨a, c, hv, h1, h2, h3⟩ := h.ex
  refine ⟨a, c, hv, h1, h2, fun hp => ?_⟩
  obtain ⟨b, off, ha, hlt, hc⟩ := h3 hp
  exact ⟨b, off, ha, Nat.lt_of_lt_of_le hlt hb.size, fun j hj => by rw [hb.cell (by exact hlt)]; exact hc j hj⟩
theorem U16s.at {w : World} {a : Option Addr} {n c : Nat} {zs : List Int} (h : U16s w (.slice a n c) zs) (k : Nat) (hk : k < zs.length) : ∃ b off, a = some ⟨b, off, none⟩ ∧ b < w.heap.size ∧ ∀ j, j < zs.length → w.cell? ⟨b, off + j, none⟩ = some (.int .u16 (zs.getD j 0)) := by
  obtain ⟨a', c', hv, _, _, h3⟩ := h.ex
  injection hv with e1 e2 e3
  subst e1
  exact h3 (by omega)
section
open Go.ChangeShapes Go.WideShapes
variable {H : Type} {enc : TypeId × Value → H} {w : World} {base : Nat} {spare : Nat → Bool} {held : Bool}
theorem u16s_open {fuel : Nat} {a : Option Addr} {len cap : Nat} {x : DataW H × List MemPlace} (h : DataW.trod enc Try.prog w base spare held fuel 45 [.slice a len cap] = some x) :
    ∃ l, U16s w (.slice a len cap) l ∧ ∀ e ∈ l, fitU16 e := by
  rcases open_ints Try.underlying45 Try.underlying46 (by kernel_rfl) h with ⟨hcs, _⟩ | ⟨ad, l, c, zs, hcs, _, hl, hm, hz, _, hcell, hwf⟩
  · simp only [List.cons.injEq, Value.slice.injEq, and_true] at hcs
    obtain ⟨rfl, rfl, rfl⟩ := hcs
    exact ⟨[], ⟨none, 0, rfl, Nat.le_refl _, by unfold maxLen; omega, fun h => absurd h (by simp)⟩, fun e he => by cases he⟩
  · simp only [List.cons.injEq, Value.slice.injEq, and_true] at hcs
    obtain ⟨rfl, rfl, rfl⟩ := hcs
    have hlz : len ≤ zs.length := by rw [hz]; split <;> omega
    have e : (zs.take len).length = len := by rw [List.length_take]; omega
    refine ⟨zs.take len, ⟨some ad, cap, by rw [e], by rw [e]; exact hl, hm, fun hp => ?_⟩, fun z hz => ?_⟩
    · rw [e] at hp ⊢
      obtain ⟨b, off, spot⟩ := ad
      have h0 := hcell 0 (by omega)
      have hspot : spot = none := by simpa [Addr.add] using World.cell?_spot h0
      subst hspot
      refine ⟨b, off, rfl, ?_, fun j hj => ?_⟩
      · have := World.block_lt_of_cell? w _ h0
        simpa [Addr.add] using this
      · have h1 := hcell j (by omega)
        rw [addr_add] at h1
        rw [h1]
        congr 2
        simp only [List.getD_eq_getElem?_getD, List.getElem?_take, if_pos hj]
    · have h1 := hwf z (List.mem_of_mem_take hz)
      have h2 : (decide (IntKind.u16.min ≤ z) && decide (z ≤ IntKind.u16.max)) = true := h1
      rw [Bool.and_eq_true, decide_eq_true_eq, decide_eq_true_eq] at h2
      exact h2
end
end Go.Proofs.Ytpbhngneciiaaaa
