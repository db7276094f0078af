/- THE TEXTS OF VerI VerJ VerK: Version's May, Cmp and Join, and the document's May. Version's Join, the document's Join, and whether two versions are the same. The document's Join. -/
import Derived.Test.YtglhjdbnpdoinaaGreatVerH
import Derived.Test.YtglhjdbnpdoinaaGreatVerF
import Derived.Lib.Join
namespace Go.Proofs.YtglhjdbnpdoinaaGreat
open Go.RowKit
set_option maxRecDepth 100000

def okE (l : List UInt8) : Int := if okV l = true then 0 else 1
theorem split_e (s : ByteArray) (w : World) (hs : s.size ≤ 1000000000) :
    Calls Tryz.prog 82 #[.string s] w fun e w' => ∃ a c, e = .returned (.tuple #[.agg #[.string (mkB (verOf s.data.toList).1), .string (mkB (verOf s.data.toList).2.1), .string (mkB (verOf s.data.toList).2.2.1), .slice a (verOf s.data.toList).2.2.2.length c], .int .i64 (okE s.data.toList)]) ∧ Strs w' (.slice a (verOf s.data.toList).2.2.2.length c) (verOf s.data.toList).2.2.2 ∧ Bel w.heap.size w w' := by
  refine (split_any s w hs).mono ?_
  rintro e w' ⟨V, rfl, hV, _, hb⟩
  obtain ⟨a, c, rfl, hst⟩ := hV.ex
  exact ⟨a, c, rfl, hst, hb⟩
theorem split_f (s : ByteArray) (w : World) (hs : s.size ≤ 1000000000) :
    Calls Tryz.prog 82 #[.string s] w fun e w' => ∃ a c, e = .returned (.tuple #[.agg #[.string (mkB (verOf s.data.toList).1), .string (mkB (verOf s.data.toList).2.1), .string (mkB (verOf s.data.toList).2.2.1), .slice a (verOf s.data.toList).2.2.2.length c], .int .i64 (okE s.data.toList)]) ∧ Strs w' (.slice a (verOf s.data.toList).2.2.2.length c) (verOf s.data.toList).2.2.2 ∧ (∀ ad, a = some ad → w.heap.size ≤ ad.block) ∧ Bel w.heap.size w w' := by
  refine (split_any s w hs).mono ?_
  rintro e w' ⟨V, rfl, hV, hf, hb⟩
  obtain ⟨a, c, rfl, hst⟩ := hV.ex
  exact ⟨a, c, rfl, hst, hf.at, hb⟩
theorem refsplit_e (s : ByteArray) (w : World) (hs : s.size ≤ 1000000000) :
    Calls Tryz.prog 57 #[.string s] w fun e w' => ∃ a c, e = .returned (.tuple #[.agg #[.string (mkB (verOf s.data.toList).1), .string (mkB (verOf s.data.toList).2.1), .string (mkB (verOf s.data.toList).2.2.1), .slice a (verOf s.data.toList).2.2.2.length c], .bool (okV s.data.toList)]) ∧ Strs w' (.slice a (verOf s.data.toList).2.2.2.length c) (verOf s.data.toList).2.2.2 ∧ Bel w.heap.size w w' := by
  refine (refsplit_any s w hs).mono ?_
  rintro e w' ⟨V, rfl, hV, _, hb⟩
  obtain ⟨a, c, rfl, hst⟩ := hV.ex
  exact ⟨a, c, rfl, hst, hb⟩

set_option maxHeartbeats 800000 in
theorem vmay_any (s : ByteArray) (w : World) (hs : s.size ≤ 1000000000) :
    Calls Tryz.prog 71 #[.string s] w fun e w' => e = .returned (.bool (okV s.data.toList)) ∧ Bel w.heap.size w w' := by
  have HS := Lib.hid hs; clear hs
  obtain ⟨o, ho⟩ : ∃ o, okV s.data.toList = o := ⟨_, rfl⟩
  have he : okE s.data.toList = if o = true then 0 else 1 := by unfold okE; rw [ho]
  have HE := Lib.hid he; have HO := Lib.hid ho; clear he ho
  cases o
  all_goals
    go_enter Tryz.func71, Tryz.ntmps71
    go_wp2_with (go_at_call 82; refine (split_e s _ HS.out).mono ?_; rintro e w1 ⟨a, c, rfl, _, hb1⟩; rw [HE.out])
    go_ret
    exact ⟨ret_bool HO.out.symm, bel_step hb1 ((Bel.refl _ _).alloc (Nat.le_refl _) _)⟩

set_option maxHeartbeats 800000 in
theorem refvmay_any (s : ByteArray) (w : World) (hs : s.size ≤ 1000000000) :
    Calls Tryz.prog 43 #[.string s] w fun e w' => e = .returned (.bool (okV s.data.toList)) ∧ Bel w.heap.size w w' := by
  have HS := Lib.hid hs; clear hs
  obtain ⟨o, ho⟩ : ∃ o, okV s.data.toList = o := ⟨_, rfl⟩
  have HO := Lib.hid ho; clear ho
  go_enter Tryz.func43, Tryz.ntmps43
  go_wp2_with (go_at_call 57; refine (refsplit_e s _ HS.out).mono ?_; rintro e w1 ⟨a, c, rfl, _, hb1⟩; rw [HO.out])
  go_ret
  exact ⟨ret_bool HO.out.symm, bel_step hb1 ((Bel.refl _ _).alloc (Nat.le_refl _) _)⟩

/-! ### Cmp -/
def vcmpE (a b : List UInt8) : Int × Int := if okV a = true ∧ okV b = true then (cmpT a b, 0) else (0, 1)
theorem small_verOf (l : List UInt8) (h : l.length ≤ 1000000000) : smallV 1000000000 (verOf l) := by
  cases ho : okV l
  · rw [verOf_no ho]; exact ⟨by simp, by simp, by simp, by simp, fun l hl => by cases hl⟩
  · obtain ⟨hj, hf⟩ := join_ok ho
    obtain ⟨v, hv⟩ : ∃ v, verOf l = v := ⟨_, rfl⟩
    rw [hv] at hj hf ⊢
    obtain ⟨ma, mi, pa, pre⟩ := v
    have hl : (joinL (ma, mi, pa, pre)).length ≤ 1000000000 := by rw [hj]; exact h
    unfold joinL at hl
    simp only [List.length_append, List.length_cons] at hl
    refine ⟨by show ma.length ≤ _; omega, by show mi.length ≤ _; omega, by show pa.length ≤ _; omega, ?_, ?_⟩
    · show pre.length ≤ _
      by_cases hp : pre = []
      · rw [hp]; simp
      · rw [if_neg hp] at hl
        simp only [List.length_cons] at hl
        have := splitL_len 46 (jn 46 pre)
        have hw : ∀ l ∈ pre, ∀ y ∈ l, ¬ (y.toNat : Int) = 46 := fun l hl => word_no46 (List.all_eq_true.1 (fit_parts hf).2.2.2 l hl)
        rw [split_jn 46 46 (by decide) pre hp hw] at this
        omega
    · intro q hq
      have hq' : q ∈ pre := hq
      have hp : pre ≠ [] := by intro e; rw [e] at hq'; cases hq'
      rw [if_neg hp] at hl
      simp only [List.length_cons] at hl
      have hw : ∀ l ∈ pre, ∀ y ∈ l, ¬ (y.toNat : Int) = 46 := fun l hl => word_no46 (List.all_eq_true.1 (fit_parts hf).2.2.2 l hl)
      have := split_le 46 (jn 46 pre) q (by rw [split_jn 46 46 (by decide) pre hp hw]; exact hq')
      omega

set_option maxHeartbeats 1600000 in
set_option maxRecDepth 100000 in
theorem vcmp_any (s t : ByteArray) (w : World) (hs : s.size ≤ 1000000000) (ht : t.size ≤ 1000000000) :
    Calls Tryz.prog 77 #[.string s, .string t] w fun e w' => e = .returned (.tuple #[.int .i64 (vcmpE s.data.toList t.data.toList).1, .int .i64 (vcmpE s.data.toList t.data.toList).2]) ∧ Bel w.heap.size w w' := by
  have SS := small_verOf s.data.toList (by rw [← Lib.size_eq]; exact hs)
  have ST := small_verOf t.data.toList (by rw [← Lib.size_eq]; exact ht)
  have HS := Lib.hid hs; have HT := Lib.hid ht; clear hs ht
  obtain ⟨o, ho⟩ : ∃ o, okV s.data.toList = o := ⟨_, rfl⟩
  obtain ⟨p, hp⟩ : ∃ p, okV t.data.toList = p := ⟨_, rfl⟩
  have he : okE s.data.toList = if o = true then 0 else 1 := by unfold okE; rw [ho]
  have hf : okE t.data.toList = if p = true then 0 else 1 := by unfold okE; rw [hp]
  have hfs : fitL (verOf s.data.toList) = o := by rw [fit_verOf]; exact ho
  have hft : fitL (verOf t.data.toList) = p := by rw [fit_verOf]; exact hp
  have hr : vcmpE s.data.toList t.data.toList = if o = true ∧ p = true then (cmpV (verOf s.data.toList) (verOf t.data.toList), 0) else (0, 1) := by unfold vcmpE; rw [ho, hp]; rfl
  obtain ⟨v, hv⟩ : ∃ v, verOf s.data.toList = v := ⟨_, rfl⟩
  obtain ⟨u, hu⟩ : ∃ u, verOf t.data.toList = u := ⟨_, rfl⟩
  rw [hv] at hfs hr SS; rw [hu] at hft hr ST
  have HE := Lib.hid he; have HF := Lib.hid hf; have HR := Lib.hid hr; have FS := Lib.hid hfs; have FT := Lib.hid hft; have HV := Lib.hid hv; have HU := Lib.hid hu; have SSH := Lib.hid SS; have STH := Lib.hid ST
  clear he hf hr hfs hft ho hp hv hu SS ST
  cases o <;> cases p
  all_goals
    go_enter Tryz.func77, Tryz.ntmps77
    go_upto_region 2 with (go_at_call 82; refine (split_e _ _ HS.out).mono ?_; rintro e w1 ⟨a1, c1, rfl, hst1, hb1⟩; rw [HV.out] at hst1 ⊢; rw [HE.out]; have ST1 := Lib.hid hst1; have B1 := Lib.hid hb1; clear hst1 hb1)
    go_wp2_with (first
      | (go_at_call 82; refine (split_e _ _ HT.out).mono ?_; rintro e w2 ⟨a2, c2, rfl, hst2, hb2⟩; rw [HU.out] at hst2 ⊢; rw [HF.out]; obtain ⟨d0, d1, d2, d3, _, _, _, _⟩ := row4 (row_keep (heap_alloc_new w1 (.cells #[.string (mkB v.1), .string (mkB v.2.1), .string (mkB v.2.2.1), .slice a1 v.2.2.2.length c1] 81)) hb2);
          have d0' := fun o => cell_alloc d0 o; have d1' := fun o => cell_alloc d1 o; have d2' := fun o => cell_alloc d2 o; have d3' := fun o => cell_alloc d3 o;
          have ST2 := Lib.hid hst2; have STA := Lib.hid ((ST1.out.below ((Bel.refl _ _).alloc (Nat.le_refl _) (.cells #[.string (mkB v.1), .string (mkB v.2.1), .string (mkB v.2.2.1), .slice a1 v.2.2.2.length c1] 81))).below hb2); have B2 := Lib.hid (bel_step (B1.out.alloc B1.out.size (.cells #[.string (mkB v.1), .string (mkB v.2.1), .string (mkB v.2.2.1), .slice a1 v.2.2.2.length c1] 81)) hb2); clear hst2 hb2)
      | (go_at_call 89; refine (order_any _ _ v u _ ⟨⟨_, _, rfl, STA.out.below ((Bel.refl _ _).alloc (Nat.le_refl _) _)⟩⟩ ⟨⟨_, _, rfl, ST2.out.below ((Bel.refl _ _).alloc (Nat.le_refl _) _)⟩⟩ FS.out FT.out SSH.out STH.out).mono ?_; rintro e w3 ⟨rfl, hb3⟩; have B3 := Lib.hid (bel_step (B2.out.alloc B2.out.size _) hb3); clear hb3))
    go_ret2
    first
      | exact ⟨by rw [HR.out]; rfl, B3.out⟩
      | exact ⟨by rw [HR.out]; rfl, B2.out.alloc B2.out.size _⟩
end Go.Proofs.YtglhjdbnpdoinaaGreat

namespace Go.Proofs.YtglhjdbnpdoinaaGreat
open Go.RowKit
set_option maxRecDepth 100000

theorem ver_eq (v u : Ver) : decide (v = u) = (decide (v.1 = u.1) && (decide (v.2.1 = u.2.1) && (decide (v.2.2.1 = u.2.2.1) && sameB v.2.2.2 u.2.2.2))) := by
  obtain ⟨a, b, c, d⟩ := v
  obtain ⟨a', b', c', d'⟩ := u
  unfold sameB
  rw [Bool.eq_iff_iff]
  simp

def joinE (v : Ver) : List UInt8 × Int := if fitL v = true then (joinL v, 0) else ([], 1)
theorem base_txt (ma mi pa : List UInt8) : (⟨#[118]⟩ : ByteArray) ++ mkB ma ++ ⟨#[46]⟩ ++ mkB mi ++ ⟨#[46]⟩ ++ mkB pa = mkB (118 :: (ma ++ 46 :: (mi ++ 46 :: pa))) := mkB_of' (by simp only [cat_list, mkB_list]; simp)
theorem tail_txt (l q : List UInt8) (c : UInt8) : mkB l ++ ((⟨#[c]⟩ : ByteArray) ++ mkB q) = mkB (l ++ c :: q) := mkB_of' (by simp only [cat_list, mkB_list]; simp)
theorem joinL_none (ma mi pa : List UInt8) : joinL (ma, mi, pa, []) = 118 :: (ma ++ 46 :: (mi ++ 46 :: pa)) := by simp [joinL]
theorem joinL_some (ma mi pa : List UInt8) (pre : List (List UInt8)) (h : pre ≠ []) : joinL (ma, mi, pa, pre) = (118 :: (ma ++ 46 :: (mi ++ 46 :: pa))) ++ 45 :: jn 46 pre := by simp [joinL, h]
end Go.Proofs.YtglhjdbnpdoinaaGreat

namespace Go.Proofs.YtglhjdbnpdoinaaGreat
open Go.RowKit
set_option maxRecDepth 100000

theorem joinL_step (ma mi pa : List UInt8) (pre : List (List UInt8)) (k : Nat) (h : k < pre.length) :
    joinL (ma, mi, pa, pre.take (k + 1)) = joinL (ma, mi, pa, pre.take k) ++ (if k = 0 then 45 else 46) :: pre.getD k [] := by
  have hne : pre.take (k + 1) ≠ [] := by
    intro e
    have := congrArg List.length e
    rw [List.length_take] at this
    simp only [List.length_nil] at this
    omega
  by_cases h0 : k = 0
  · subst h0
    rw [joinL_some _ _ _ _ hne, jn_zero 46 pre h, List.take_zero, joinL_none, if_pos rfl]
  · have hne' : pre.take k ≠ [] := by
      intro e
      have := congrArg List.length e
      rw [List.length_take] at this
      simp only [List.length_nil] at this
      omega
    rw [joinL_some _ _ _ _ hne, joinL_some _ _ _ _ hne', jn_succ 46 pre k (by omega) h, if_neg h0]
    simp
theorem joinL_take_le (ma mi pa : List UInt8) (pre : List (List UInt8)) (k : Nat) : (joinL (ma, mi, pa, pre.take k)).length ≤ (joinL (ma, mi, pa, pre)).length := by
  by_cases h0 : pre.take k = []
  · rw [h0, joinL_none]
    by_cases h1 : pre = []
    · rw [h1, joinL_none]; exact Nat.le_refl _
    · rw [joinL_some _ _ _ _ h1]; simp
  · have h1 : pre ≠ [] := fun e => h0 (by rw [e]; simp)
    rw [joinL_some _ _ _ _ h0, joinL_some _ _ _ _ h1]
    have := jn_le 46 pre k
    simp; omega
theorem put_txt (l q : List UInt8) (c : UInt8) : mkB l ++ (⟨#[c]⟩ : ByteArray) ++ mkB q = mkB (l ++ c :: q) := mkB_of' (by simp only [cat_list, mkB_list]; simp)

end Go.Proofs.YtglhjdbnpdoinaaGreat
