/- The contract of version's words. -/
import Derived.Test.YthmnoepdedjhjaaOctQ
import Derived.Test.YthmnoepdedjhjaaVerA
namespace Go.Proofs.Ythmnoepdedjhjaa
open Go.RowKit
set_option maxRecDepth 100000

set_option maxHeartbeats 800000 in
theorem isword_any (s : ByteArray) (w : World) (hs : s.size ≤ 1000000000) :
    Calls Try.prog 59 #[.string s] w fun e w' => e = .returned (.bool (wordL s.data.toList)) ∧ Bel w.heap.size w w' := by
  have HS : Hid (s.size ≤ maxLen) := Lib.hid (by unfold maxLen; omega)
  have HS4 : Hid (s.size < 4294967281) := Lib.hid (by omega)
  have hac : ∀ (j : Nat) b, (⟨#[46, 95, 126]⟩ : ByteArray).data.toList[j]? = some b → b.toNat < 128 := by
    intro j b hb
    have : b ∈ ([46, 95, 126] : List UInt8) := List.mem_of_getElem? hb
    simp only [List.mem_cons, List.not_mem_nil, or_false] at this
    rcases this with rfl | rfl | rfl <;> decide
  have HAC := Lib.hid hac
  clear hac hs
  obtain ⟨d, hd⟩ : ∃ d, s.data.toList.all isD = d := ⟨_, rfl⟩
  have hw : wordL s.data.toList = if d = true then mayL s.data.toList else s.data.toList.all wordOct := by unfold wordL; rw [hd]
  obtain ⟨a, ha⟩ : ∃ a, allB s.data.toList [1, 2, 3] = a := ⟨_, rfl⟩
  have hwa := word_all s.data.toList
  rw [ha] at hwa
  have HD := Lib.hid hd; have HW := Lib.hid hw; have HA := Lib.hid ha; have HWA := Lib.hid hwa; clear hd hw ha hwa
  have B0 := Bel.refl w.heap.size w
  cases d
  · cases a
    all_goals
      go_enter Try.func59, Try.ntmps59
      go_wp2_with (first
        | (go_at_call 63; refine (all_any s HS.out _ _ _ (by first | exact Ints.lit1 _ _ _ | exact ints_lit3 _ _ _ _ _)).mono ?_; rintro e w1 ⟨rfl, hb1⟩; have B1 := bel_step (Bel.alloc (by assumption) (bel_size (by assumption)) _) hb1; clear hb1; first | rw [all_dig, HD.out] | rw [HA.out])
        | (go_at_call 64; refine (containsany_bel s ⟨#[46, 95, 126]⟩ _ (by decide) HS4.out (by decide) (all_ascii HA.out) HAC.out).mono ?_; rintro e w3 ⟨rfl, hb3⟩; have B3 := bel_step (by assumption) hb3; clear hb3))
      go_ret
      exact ⟨ret_bool (by rw [HW.out, ← HWA.out]; simp), by assumption⟩
  · go_enter Try.func59, Try.ntmps59
    go_wp2_with (first
      | (go_at_call 63; refine (all_any s HS.out _ [1] _ (Ints.lit1 _ _ _)).mono ?_; rintro e w1 ⟨rfl, hb1⟩; have B1 := bel_step (Bel.alloc (by assumption) (bel_size (by assumption)) _) hb1; clear hb1; rw [all_dig, HD.out])
      | (go_at_call 58; refine (may_any s _ HS.out).mono ?_; rintro e w2 ⟨rfl, hb2⟩; have B2 := bel_step (by assumption) hb2; clear hb2))
    go_ret
    exact ⟨ret_bool (by rw [HW.out]; simp), by assumption⟩
end Go.Proofs.Ythmnoepdedjhjaa
