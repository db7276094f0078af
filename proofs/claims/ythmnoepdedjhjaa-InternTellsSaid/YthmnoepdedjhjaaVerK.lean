/- THE TEXTS OF VerI VerJ VerK: Version's May, Cmp and Join, and the document's May. Version's Join, the document's Join, and whether two versions are the same. The document's Join. -/
import Derived.Test.YthmnoepdedjhjaaVerH
import Derived.Test.YthmnoepdedjhjaaVerF
import Derived.Lib.Join
namespace Go.Proofs.Ythmnoepdedjhjaa
open Go.RowKit
set_option maxRecDepth 100000

def okE (l : List UInt8) : Int := if okV l = true then 0 else 1
theorem split_e (s : ByteArray) (w : World) (hs : s.size ≤ 1000000000) :
    Calls Try.prog 44 #[.string s] w fun e w' => ∃ a c, e = .returned (.tuple #[.agg #[.string (mkB (verOf s.data.toList).1), .string (mkB (verOf s.data.toList).2.1), .string (mkB (verOf s.data.toList).2.2.1), .slice a (verOf s.data.toList).2.2.2.length c], .int .i64 (okE s.data.toList)]) ∧ Strs w' (.slice a (verOf s.data.toList).2.2.2.length c) (verOf s.data.toList).2.2.2 ∧ Bel w.heap.size w w' := by
  refine (split_any s w hs).mono ?_
  rintro e w' ⟨V, rfl, hV, _, hb⟩
  obtain ⟨a, c, rfl, hst⟩ := hV.ex
  exact ⟨a, c, rfl, hst, hb⟩
theorem split_f (s : ByteArray) (w : World) (hs : s.size ≤ 1000000000) :
    Calls Try.prog 44 #[.string s] w fun e w' => ∃ a c, e = .returned (.tuple #[.agg #[.string (mkB (verOf s.data.toList).1), .string (mkB (verOf s.data.toList).2.1), .string (mkB (verOf s.data.toList).2.2.1), .slice a (verOf s.data.toList).2.2.2.length c], .int .i64 (okE s.data.toList)]) ∧ Strs w' (.slice a (verOf s.data.toList).2.2.2.length c) (verOf s.data.toList).2.2.2 ∧ (∀ ad, a = some ad → w.heap.size ≤ ad.block) ∧ Bel w.heap.size w w' := by
  refine (split_any s w hs).mono ?_
  rintro e w' ⟨V, rfl, hV, hf, hb⟩
  obtain ⟨a, c, rfl, hst⟩ := hV.ex
  exact ⟨a, c, rfl, hst, hf.at, hb⟩
theorem refsplit_e (s : ByteArray) (w : World) (hs : s.size ≤ 1000000000) :
    Calls Try.prog 34 #[.string s] w fun e w' => ∃ a c, e = .returned (.tuple #[.agg #[.string (mkB (verOf s.data.toList).1), .string (mkB (verOf s.data.toList).2.1), .string (mkB (verOf s.data.toList).2.2.1), .slice a (verOf s.data.toList).2.2.2.length c], .bool (okV s.data.toList)]) ∧ Strs w' (.slice a (verOf s.data.toList).2.2.2.length c) (verOf s.data.toList).2.2.2 ∧ Bel w.heap.size w w' := by
  refine (refsplit_any s w hs).mono ?_
  rintro e w' ⟨V, rfl, hV, _, hb⟩
  obtain ⟨a, c, rfl, hst⟩ := hV.ex
  exact ⟨a, c, rfl, hst, hb⟩

set_option maxHeartbeats 800000 in
theorem vmay_any (s : ByteArray) (w : World) (hs : s.size ≤ 1000000000) :
    Calls Try.prog 37 #[.string s] w fun e w' => e = .returned (.bool (okV s.data.toList)) ∧ Bel w.heap.size w w' := by
  have HS := Lib.hid hs; clear hs
  obtain ⟨o, ho⟩ : ∃ o, okV s.data.toList = o := ⟨_, rfl⟩
  have he : okE s.data.toList = if o = true then 0 else 1 := by unfold okE; rw [ho]
  have HE := Lib.hid he; have HO := Lib.hid ho; clear he ho
  cases o
  all_goals
    go_enter Try.func37, Try.ntmps37
    go_wp2_with (go_at_call 44; refine (split_e s _ HS.out).mono ?_; rintro e w1 ⟨a, c, rfl, _, hb1⟩; rw [HE.out])
    go_ret
    exact ⟨ret_bool HO.out.symm, bel_step hb1 ((Bel.refl _ _).alloc (Nat.le_refl _) _)⟩

set_option maxHeartbeats 800000 in
theorem refvmay_any (s : ByteArray) (w : World) (hs : s.size ≤ 1000000000) :
    Calls Try.prog 29 #[.string s] w fun e w' => e = .returned (.bool (okV s.data.toList)) ∧ Bel w.heap.size w w' := by
  have HS := Lib.hid hs; clear hs
  obtain ⟨o, ho⟩ : ∃ o, okV s.data.toList = o := ⟨_, rfl⟩
  have HO := Lib.hid ho; clear ho
  go_enter Try.func29, Try.ntmps29
  go_wp2_with (go_at_call 34; refine (refsplit_e s _ HS.out).mono ?_; rintro e w1 ⟨a, c, rfl, _, hb1⟩; rw [HO.out])
  go_ret
  exact ⟨ret_bool HO.out.symm, bel_step hb1 ((Bel.refl _ _).alloc (Nat.le_refl _) _)⟩

/-! ### Cmp -/
def vcmpE (a b : List UInt8) : Int × Int := if okV a = true ∧ okV b = true then (cmpT a b, 0) else (0, 1)
theorem small_verOf (l : List UInt8) (h : l.length ≤ 1000000000) : smallV 1000000000 (verOf l) := by
  cases ho : okV l
  · rw [verOf_no ho]; exact ⟨by simp, by simp, by simp, by simp, fun l hl => by cases hl⟩
  · obtain ⟨hj, hf⟩ := join_ok ho
    obtain ⟨v, hv⟩ : ∃ v, verOf l = v := ⟨_, rfl⟩
    rw [hv] at hj hf ⊢
    obtain ⟨ma, mi, pa, pre⟩ := v
    have hl : (joinL (ma, mi, pa, pre)).length ≤ 1000000000 := by rw [hj]; exact h
    unfold joinL at hl
    simp only [List.length_append, List.length_cons] at hl
    refine ⟨by show ma.length ≤ _; omega, by show mi.length ≤ _; omega, by show pa.length ≤ _; omega, ?_, ?_⟩
    · show pre.length ≤ _
      by_cases hp : pre = []
      · rw [hp]; simp
      · rw [if_neg hp] at hl
        simp only [List.length_cons] at hl
        have := splitL_len 46 (jn 46 pre)
        have hw : ∀ l ∈ pre, ∀ y ∈ l, ¬ (y.toNat : Int) = 46 := fun l hl => word_no46 (List.all_eq_true.1 (fit_parts hf).2.2.2 l hl)
        rw [split_jn 46 46 (by decide) pre hp hw] at this
        omega
    · intro q hq
      have hq' : q ∈ pre := hq
      have hp : pre ≠ [] := by intro e; rw [e] at hq'; cases hq'
      rw [if_neg hp] at hl
      simp only [List.length_cons] at hl
      have hw : ∀ l ∈ pre, ∀ y ∈ l, ¬ (y.toNat : Int) = 46 := fun l hl => word_no46 (List.all_eq_true.1 (fit_parts hf).2.2.2 l hl)
      have := split_le 46 (jn 46 pre) q (by rw [split_jn 46 46 (by decide) pre hp hw]; exact hq')
      omega

end Go.Proofs.Ythmnoepdedjhjaa

namespace Go.Proofs.Ythmnoepdedjhjaa
open Go.RowKit
set_option maxRecDepth 100000

theorem ver_eq (v u : Ver) : decide (v = u) = (decide (v.1 = u.1) && (decide (v.2.1 = u.2.1) && (decide (v.2.2.1 = u.2.2.1) && sameB v.2.2.2 u.2.2.2))) := by
  obtain ⟨a, b, c, d⟩ := v
  obtain ⟨a', b', c', d'⟩ := u
  unfold sameB
  rw [Bool.eq_iff_iff]
  simp

def joinE (v : Ver) : List UInt8 × Int := if fitL v = true then (joinL v, 0) else ([], 1)
theorem base_txt (ma mi pa : List UInt8) : (⟨#[118]⟩ : ByteArray) ++ mkB ma ++ ⟨#[46]⟩ ++ mkB mi ++ ⟨#[46]⟩ ++ mkB pa = mkB (118 :: (ma ++ 46 :: (mi ++ 46 :: pa))) := mkB_of' (by simp only [cat_list, mkB_list]; simp)
theorem tail_txt (l q : List UInt8) (c : UInt8) : mkB l ++ ((⟨#[c]⟩ : ByteArray) ++ mkB q) = mkB (l ++ c :: q) := mkB_of' (by simp only [cat_list, mkB_list]; simp)
theorem joinL_none (ma mi pa : List UInt8) : joinL (ma, mi, pa, []) = 118 :: (ma ++ 46 :: (mi ++ 46 :: pa)) := by simp [joinL]
theorem joinL_some (ma mi pa : List UInt8) (pre : List (List UInt8)) (h : pre ≠ []) : joinL (ma, mi, pa, pre) = (118 :: (ma ++ 46 :: (mi ++ 46 :: pa))) ++ 45 :: jn 46 pre := by simp [joinL, h]
end Go.Proofs.Ythmnoepdedjhjaa

namespace Go.Proofs.Ythmnoepdedjhjaa
open Go.RowKit
set_option maxRecDepth 100000

theorem joinL_step (ma mi pa : List UInt8) (pre : List (List UInt8)) (k : Nat) (h : k < pre.length) :
    joinL (ma, mi, pa, pre.take (k + 1)) = joinL (ma, mi, pa, pre.take k) ++ (if k = 0 then 45 else 46) :: pre.getD k [] := by
  have hne : pre.take (k + 1) ≠ [] := by
    intro e
    have := congrArg List.length e
    rw [List.length_take] at this
    simp only [List.length_nil] at this
    omega
  by_cases h0 : k = 0
  · subst h0
    rw [joinL_some _ _ _ _ hne, jn_zero 46 pre h, List.take_zero, joinL_none, if_pos rfl]
  · have hne' : pre.take k ≠ [] := by
      intro e
      have := congrArg List.length e
      rw [List.length_take] at this
      simp only [List.length_nil] at this
      omega
    rw [joinL_some _ _ _ _ hne, joinL_some _ _ _ _ hne', jn_succ 46 pre k (by omega) h, if_neg h0]
    simp
theorem joinL_take_le (ma mi pa : List UInt8) (pre : List (List UInt8)) (k : Nat) : (joinL (ma, mi, pa, pre.take k)).length ≤ (joinL (ma, mi, pa, pre)).length := by
  by_cases h0 : pre.take k = []
  · rw [h0, joinL_none]
    by_cases h1 : pre = []
    · rw [h1, joinL_none]; exact Nat.le_refl _
    · rw [joinL_some _ _ _ _ h1]; simp
  · have h1 : pre ≠ [] := fun e => h0 (by rw [e]; simp)
    rw [joinL_some _ _ _ _ h0, joinL_some _ _ _ _ h1]
    have := jn_le 46 pre k
    simp; omega
theorem put_txt (l q : List UInt8) (c : UInt8) : mkB l ++ (⟨#[c]⟩ : ByteArray) ++ mkB q = mkB (l ++ c :: q) := mkB_of' (by simp only [cat_list, mkB_list]; simp)

end Go.Proofs.Ythmnoepdedjhjaa
