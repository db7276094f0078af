/- Is an octet of one of some classes; are all of a text: of the program and of the document. -/
import Derived.Test.YtjlnajokkhdhnaaDoorOctC
import Derived.Test.YtjlnajokkhdhnaaDoorOctB
namespace Go.Proofs.YtjlnajokkhdhnaaDoor
open Go.RowKit
set_option maxRecDepth 100000

/-- A slice of numbers, in memory: nil, empty, or cells that hold them. -/
structure Ints (w : World) (v : Value) (zs : List Int) : Prop where
  ex : ∃ a c, v = .slice a zs.length c ∧ zs.length ≤ c ∧ c ≤ maxLen ∧ (a = none → c = 0) ∧ (0 < zs.length → ∃ b off, a = some ⟨b, off, none⟩ ∧ b < w.heap.size ∧ ∀ j, j < zs.length → w.cell? ⟨b, off + j, none⟩ = some (.int .i64 (zs.getD j 0)))

theorem Ints.below {w w' : World} {v : Value} {zs : List Int} (h : Ints w v zs) (hb : Below w.heap.size w w') : Ints w' v zs := by
  obtain ⟨a, c, hv, h1, h2, hn, h3⟩ := h.ex
  refine ⟨a, c, hv, h1, h2, hn, fun hp => ?_⟩
  obtain ⟨b, off, ha, hlt, hc⟩ := h3 hp
  exact ⟨b, off, ha, Nat.lt_of_lt_of_le hlt hb.size, fun j hj => by rw [hb.cell (by exact hlt)]; exact hc j hj⟩
theorem Ints.drewN {w : World} {v : Value} {zs : List Int} (n : Nat) (h : Ints w v zs) : Ints (w.drewN n) v zs := by
  obtain ⟨a, c, hv, h1, h2, hn, h3⟩ := h.ex
  refine ⟨a, c, hv, h1, h2, hn, fun hp => ?_⟩
  obtain ⟨b, off, ha, hlt, hc⟩ := h3 hp
  exact ⟨b, off, ha, by simpa using hlt, fun j hj => by have := hc j hj; simpa using this⟩

def hasB (zs : List Int) (x : Int) : Bool := decide (x ∈ zs)

theorem hasB_drop (zs : List Int) (k : Nat) (x : Int) (h : k < zs.length) : hasB (zs.drop k) x = (decide (zs.getD k 0 = x) || hasB (zs.drop (k + 1)) x) := by
  unfold hasB
  have e : zs.getD k 0 = zs[k] := by simp [List.getD_eq_getElem?_getD, List.getElem?_eq_getElem h]
  rw [e, List.drop_eq_getElem_cons h]
  simp only [List.mem_cons]
  by_cases hx : zs[k] = x
  · simp [hx]
  · have hx' : ¬ x = zs[k] := fun e => hx e.symm
    simp only [hx, hx', false_or, decide_false, Bool.false_or]
theorem hasB_end (zs : List Int) (k : Nat) (x : Int) (h : zs.length ≤ k) : hasB (zs.drop k) x = false := by
  unfold hasB; rw [List.drop_eq_nil_of_le h]; simp

set_option maxHeartbeats 400000 in
theorem index_any (v : Value) (zs : List Int) (x : Int) (w : World) (h : Ints w v zs) :
    Calls Tryd.prog 70 #[v, .int .i64 x] w fun e w' => (∃ i : Int, e = .returned (.int .i64 i) ∧ decide (0 ≤ i) = hasB zs x) ∧ w = w' := by
  obtain ⟨a, c, rfl, h1, h2, _, h3⟩ := h.ex
  clear h
  unfold maxLen at h2
  have H3 := Lib.hid h3; clear h3
  go_enter Tryd.func70, Tryd.ntmps70
  go_wp2
  go_loop [8] (fun i => ∃ k : Nat, k ≤ zs.length ∧ i = .int .i64 k ∧ Hid (hasB (zs.drop k) x = hasB zs x)) (fun i => zs.length - (intOf i).toNat)
  case atStart => exact ⟨0, Nat.zero_le _, rfl, Lib.hid (by simp)⟩
  case round =>
    obtain ⟨k, hk, rfl, H⟩ := hrel
    by_cases hlt : k < zs.length
    · obtain ⟨b, off, rfl, _, hc⟩ := H3.out (by omega)
      have hcell := hc k hlt
      clear hc
      obtain ⟨y, hy⟩ : ∃ y, y = zs.getD k 0 := ⟨_, rfl⟩
      rw [← hy] at hcell
      have HY := Lib.hid hy; clear hy
      have hd := hasB_drop zs k x hlt
      rw [← HY.out] at hd
      have HD := Lib.hid hd; clear hd
      by_cases hyx : y = x
      · have hb : (x == y) = true := by simpa using hyx.symm
        have HE := Lib.hid hyx; clear hyx
        go_wp2
        go_ret
        exact ⟨⟨k, rfl, by rw [← H.out, HD.out]; simp [HE.out]⟩, rfl⟩
      · have hb : (x == y) = false := by simp; exact fun e => hyx e.symm
        have h5 : hasB (zs.drop (k + 1)) x = hasB zs x := by rw [← H.out, HD.out]; simp [hyx]
        have H5 := Lib.hid h5; clear h5 HD HY hyx
        go_wp2
        go_round
        case rel => exact ⟨k + 1, by omega, by go_num, H5⟩
        case measure => simp [intOf]; omega
    · go_wp2
      go_ret
      exact ⟨⟨-1, rfl, by rw [← H.out, hasB_end zs k x (by omega)]; rfl⟩, rfl⟩

set_option maxHeartbeats 400000 in
theorem contains_any (v : Value) (zs : List Int) (x : Int) (w : World) (h : Ints w v zs) :
    Calls Tryd.prog 64 #[v, .int .i64 x] w fun e w' => e = .returned (.bool (hasB zs x)) ∧ w = w' := by
  go_enter Tryd.func64, Tryd.ntmps64
  go_wp2_with (go_at_call 70; refine (index_any _ _ _ _ h).mono ?_; rintro e w' ⟨⟨i, rfl, hi⟩, rfl⟩)
  go_ret
  exact ⟨rfl, rfl⟩

set_option maxHeartbeats 400000 in
theorem in_any (c : Int) (h0 : 0 ≤ c) (h1 : c < 256) (v : Value) (zs : List Int) (w : World) (h : Ints w v zs) :
    Calls Tryd.prog 57 #[.int .u8 c, v] w fun e w' => e = .returned (.bool (hasB zs (clsI c))) ∧ Below w.heap.size w w' := by
  go_enter Tryd.func57, Tryd.ntmps57
  go_wp2_with (first
    | (go_at_call 65; refine (class_any c h0 h1 _).mono ?_; rintro e w1 ⟨rfl, hb1⟩)
    | (go_at_call 64; refine (contains_any _ zs _ _ (h.below (by assumption))).mono ?_; rintro e w2 ⟨rfl, rfl⟩))
  go_ret
  exact ⟨rfl, by assumption⟩
end Go.Proofs.YtjlnajokkhdhnaaDoor
