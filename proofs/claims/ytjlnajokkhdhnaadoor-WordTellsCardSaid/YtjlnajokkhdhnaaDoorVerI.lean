/- Version's May, Cmp and Join, and the document's May. -/
import Derived.Test.YtjlnajokkhdhnaaDoorVerH
import Derived.Test.YtjlnajokkhdhnaaDoorVerF
namespace Go.Proofs.YtjlnajokkhdhnaaDoor
open Go.RowKit
set_option maxRecDepth 100000

def okE (l : List UInt8) : Int := if okV l = true then 0 else 1
theorem split_e (s : ByteArray) (w : World) (hs : s.size ≤ 1000000000) :
    Calls Tryd.prog 31 #[.string s] w fun e w' => ∃ a c, e = .returned (.tuple #[.agg #[.string (mkB (verOf s.data.toList).1), .string (mkB (verOf s.data.toList).2.1), .string (mkB (verOf s.data.toList).2.2.1), .slice a (verOf s.data.toList).2.2.2.length c], .int .i64 (okE s.data.toList)]) ∧ Strs w' (.slice a (verOf s.data.toList).2.2.2.length c) (verOf s.data.toList).2.2.2 ∧ Below w.heap.size w w' := by
  refine (split_any s w hs).mono ?_
  rintro e w' ⟨V, rfl, hV, _, hb⟩
  obtain ⟨a, c, rfl, hst⟩ := hV.ex
  exact ⟨a, c, rfl, hst, hb⟩
theorem split_f (s : ByteArray) (w : World) (hs : s.size ≤ 1000000000) :
    Calls Tryd.prog 31 #[.string s] w fun e w' => ∃ a c, e = .returned (.tuple #[.agg #[.string (mkB (verOf s.data.toList).1), .string (mkB (verOf s.data.toList).2.1), .string (mkB (verOf s.data.toList).2.2.1), .slice a (verOf s.data.toList).2.2.2.length c], .int .i64 (okE s.data.toList)]) ∧ Strs w' (.slice a (verOf s.data.toList).2.2.2.length c) (verOf s.data.toList).2.2.2 ∧ (∀ ad, a = some ad → w.heap.size ≤ ad.block) ∧ Below w.heap.size w w' := by
  refine (split_any s w hs).mono ?_
  rintro e w' ⟨V, rfl, hV, hf, hb⟩
  obtain ⟨a, c, rfl, hst⟩ := hV.ex
  exact ⟨a, c, rfl, hst, hf.at, hb⟩
theorem refsplit_e (s : ByteArray) (w : World) (hs : s.size ≤ 1000000000) :
    Calls Tryd.prog 33 #[.string s] w fun e w' => ∃ a c, e = .returned (.tuple #[.agg #[.string (mkB (verOf s.data.toList).1), .string (mkB (verOf s.data.toList).2.1), .string (mkB (verOf s.data.toList).2.2.1), .slice a (verOf s.data.toList).2.2.2.length c], .bool (okV s.data.toList)]) ∧ Strs w' (.slice a (verOf s.data.toList).2.2.2.length c) (verOf s.data.toList).2.2.2 ∧ Below w.heap.size w w' := by
  refine (refsplit_any s w hs).mono ?_
  rintro e w' ⟨V, rfl, hV, _, hb⟩
  obtain ⟨a, c, rfl, hst⟩ := hV.ex
  exact ⟨a, c, rfl, hst, hb⟩

set_option maxHeartbeats 800000 in
theorem vmay_any (s : ByteArray) (w : World) (hs : s.size ≤ 1000000000) :
    Calls Tryd.prog 23 #[.string s] w fun e w' => e = .returned (.bool (okV s.data.toList)) ∧ Below w.heap.size w w' := by
  have HS := Lib.hid hs; clear hs
  obtain ⟨o, ho⟩ : ∃ o, okV s.data.toList = o := ⟨_, rfl⟩
  have he : okE s.data.toList = if o = true then 0 else 1 := by unfold okE; rw [ho]
  have HE := Lib.hid he; have HO := Lib.hid ho; clear he ho
  cases o
  all_goals
    go_enter Tryd.func23, Tryd.ntmps23
    go_wp2_with (go_at_call 31; refine (split_e s _ HS.out).mono ?_; rintro e w1 ⟨a, c, rfl, _, hb1⟩; rw [HE.out])
    go_ret
    exact ⟨ret_bool HO.out.symm, below_step hb1 ((Below.refl _ _).alloc (Nat.le_refl _) _)⟩

set_option maxHeartbeats 800000 in
theorem refvmay_any (s : ByteArray) (w : World) (hs : s.size ≤ 1000000000) :
    Calls Tryd.prog 25 #[.string s] w fun e w' => e = .returned (.bool (okV s.data.toList)) ∧ Below w.heap.size w w' := by
  have HS := Lib.hid hs; clear hs
  obtain ⟨o, ho⟩ : ∃ o, okV s.data.toList = o := ⟨_, rfl⟩
  have HO := Lib.hid ho; clear ho
  go_enter Tryd.func25, Tryd.ntmps25
  go_wp2_with (go_at_call 33; refine (refsplit_e s _ HS.out).mono ?_; rintro e w1 ⟨a, c, rfl, _, hb1⟩; rw [HO.out])
  go_ret
  exact ⟨ret_bool HO.out.symm, below_step hb1 ((Below.refl _ _).alloc (Nat.le_refl _) _)⟩

/-! ### Cmp -/
def vcmpE (a b : List UInt8) : Int × Int := if okV a = true ∧ okV b = true then (cmpT a b, 0) else (0, 1)
theorem small_verOf (l : List UInt8) (h : l.length ≤ 1000000000) : smallV 1000000000 (verOf l) := by
  cases ho : okV l
  · rw [verOf_no ho]; exact ⟨by simp, by simp, by simp, by simp, fun l hl => by cases hl⟩
  · obtain ⟨hj, hf⟩ := join_ok ho
    obtain ⟨v, hv⟩ : ∃ v, verOf l = v := ⟨_, rfl⟩
    rw [hv] at hj hf ⊢
    obtain ⟨ma, mi, pa, pre⟩ := v
    have hl : (joinL (ma, mi, pa, pre)).length ≤ 1000000000 := by rw [hj]; exact h
    unfold joinL at hl
    simp only [List.length_append, List.length_cons] at hl
    refine ⟨by show ma.length ≤ _; omega, by show mi.length ≤ _; omega, by show pa.length ≤ _; omega, ?_, ?_⟩
    · show pre.length ≤ _
      by_cases hp : pre = []
      · rw [hp]; simp
      · rw [if_neg hp] at hl
        simp only [List.length_cons] at hl
        have := splitL_len 46 (jn 46 pre)
        have hw : ∀ l ∈ pre, ∀ y ∈ l, ¬ (y.toNat : Int) = 46 := fun l hl => word_no46 (List.all_eq_true.1 (fit_parts hf).2.2.2 l hl)
        rw [split_jn 46 46 (by decide) pre hp hw] at this
        omega
    · intro q hq
      have hq' : q ∈ pre := hq
      have hp : pre ≠ [] := by intro e; rw [e] at hq'; cases hq'
      rw [if_neg hp] at hl
      simp only [List.length_cons] at hl
      have hw : ∀ l ∈ pre, ∀ y ∈ l, ¬ (y.toNat : Int) = 46 := fun l hl => word_no46 (List.all_eq_true.1 (fit_parts hf).2.2.2 l hl)
      have := split_le 46 (jn 46 pre) q (by rw [split_jn 46 46 (by decide) pre hp hw]; exact hq')
      omega

end Go.Proofs.YtjlnajokkhdhnaaDoor
