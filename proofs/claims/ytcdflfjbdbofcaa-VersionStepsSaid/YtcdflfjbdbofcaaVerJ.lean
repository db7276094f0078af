/- Version's Join, the document's Join, and whether two versions are the same. -/
import Derived.Test.YtcdflfjbdbofcaaVerI
import Derived.Lib.Join
namespace Go.Proofs.Ytcdflfjbdbofcaa
open Go.RowKit

theorem mk_beq (a b : List UInt8) : ((mkB a).toList == (mkB b).toList) = decide (a = b) := by
  rw [Lib.toList_data, Lib.toList_data, mkB_list, mkB_list, Bool.eq_iff_iff, beq_iff_eq, decide_eq_true_eq]
theorem ver_eq (v u : Ver) : decide (v = u) = (decide (v.1 = u.1) && (decide (v.2.1 = u.2.1) && (decide (v.2.2.1 = u.2.2.1) && sameB v.2.2.2 u.2.2.2))) := by
  obtain ⟨a, b, c, d⟩ := v
  obtain ⟨a', b', c', d'⟩ := u
  unfold sameB
  rw [Bool.eq_iff_iff]
  simp

set_option maxHeartbeats 1600000 in
set_option maxRecDepth 100000 in
theorem vsame_any (V U : Value) (v u : Ver) (w : World) (hV : VerIn w V v) (hU : VerIn w U u) :
    Calls Try.prog 17 #[V, U] w fun e w' => e = .returned (.bool (decide (v = u))) ∧ Below w.heap.size w w' := by
  obtain ⟨a, c, rfl, hst⟩ := hV.ex
  obtain ⟨a', c', rfl, hst'⟩ := hU.ex
  rw [ver_eq]
  have e1 := mk_beq v.1 u.1
  have e2 := mk_beq v.2.1 u.2.1
  have e3 := mk_beq v.2.2.1 u.2.2.1
  obtain ⟨b1, h1⟩ : ∃ b, decide (v.1 = u.1) = b := ⟨_, rfl⟩
  obtain ⟨b2, h2⟩ : ∃ b, decide (v.2.1 = u.2.1) = b := ⟨_, rfl⟩
  obtain ⟨b3, h3⟩ : ∃ b, decide (v.2.2.1 = u.2.2.1) = b := ⟨_, rfl⟩
  obtain ⟨b4, h4⟩ : ∃ b, sameB v.2.2.2 u.2.2.2 = b := ⟨_, rfl⟩
  rw [h1] at e1 ⊢; rw [h2] at e2 ⊢; rw [h3] at e3 ⊢; rw [h4]
  have H4 := Lib.hid h4; have HS := Lib.hid hst; have HS' := Lib.hid hst'
  clear h1 h2 h3 h4 hst hst' hV hU
  cases b1
  · go_enter Try.func17, Try.ntmps17
    go_wp2
    go_ret
    exact ⟨rfl, ((Below.refl _ _).alloc (Nat.le_refl _) _).alloc (by simp) _⟩
  · cases b2
    · go_enter Try.func17, Try.ntmps17
      go_wp2
      go_ret
      exact ⟨rfl, ((Below.refl _ _).alloc (Nat.le_refl _) _).alloc (by simp) _⟩
    · cases b3
      · go_enter Try.func17, Try.ntmps17
        go_wp2
        go_ret
        exact ⟨rfl, ((Below.refl _ _).alloc (Nat.le_refl _) _).alloc (by simp) _⟩
      · go_enter Try.func17, Try.ntmps17
        go_wp2_with (go_at_call 31; refine (same_any _ _ v.2.2.2 u.2.2.2 _ (HS.out.below (((Below.refl _ _).alloc (Nat.le_refl _) _).alloc (by simp) _)) (HS'.out.below (((Below.refl _ _).alloc (Nat.le_refl _) _).alloc (by simp) _))).mono ?_; rintro e w1 ⟨rfl, hq⟩; have B1 := below_step (((Below.refl w.heap.size w).alloc (Nat.le_refl _) _).alloc (by simp) _) (below_q hq); clear hq; rw [H4.out])
        go_ret
        exact ⟨rfl, B1⟩

theorem join_jn (pre : List (List UInt8)) : Lib.join pre [46] = jn 46 pre := by
  cases pre with
  | nil => rfl
  | cons p ps =>
    rw [Lib.join_cons]
    unfold Lib.joinTail
    show p ++ _ = p ++ _
    rw [List.flatMap_def]
    rfl
theorem join_l (a : Option Addr) (c : Nat) (pre : List (List UInt8)) (w : World) (hst : Strs w (.slice a pre.length c) pre) (hp : 0 < pre.length) (hn : pre.length ≤ 1000000000) (hl : (jn 46 pre).length ≤ 1000000000) :
    Calls Try.prog 30 #[.slice a pre.length c, .string ⟨#[46]⟩] w fun e w' => e = .returned (.string (mkB (jn 46 pre))) ∧ Below w.heap.size w w' := by
  obtain ⟨a', c', hv, h1, h2, _, h3⟩ := hst.ex
  injection hv with e1 e2 e3
  subst e1 e3
  obtain ⟨b, off, rfl, hlt, hc⟩ := h3 hp
  have hm : (pre.map mkB).map (·.data.toList) = pre := by
    rw [List.map_map]
    have : ((fun x : ByteArray => x.data.toList) ∘ mkB) = id := by funext l; exact mkB_list l
    rw [this, List.map_id]
  have hsep : (⟨#[46]⟩ : ByteArray).data.toList = [46] := rfl
  have hjo : Lib.join ((pre.map mkB).map (·.data.toList)) (⟨#[46]⟩ : ByteArray).data.toList = jn 46 pre := by rw [hm, hsep, join_jn]
  have := Try.strings_Join b off c (pre.map mkB) ⟨#[46]⟩ w (fun j x hx => by
    rw [List.getElem?_map] at hx
    cases hj : pre[j]? with
    | none => rw [hj] at hx; cases hx
    | some y =>
      rw [hj] at hx
      injection hx with hx
      subst hx
      have hjl : j < pre.length := (List.getElem?_eq_some_iff.1 hj).1
      rw [hc j hjl, List.getD_eq_getElem?_getD, hj]; rfl) hlt (by rw [List.length_map]; omega) (by rw [List.length_map]; exact h1) (by rw [hjo]; omega)
  rw [hjo, List.length_map] at this
  exact this

theorem join_n (a : Option Addr) (c n : Nat) (pre : List (List UInt8)) (w : World) (hn : pre.length = n) (hst : Strs w (.slice a pre.length c) pre) (hp : 0 < n) (hN : pre.length ≤ 1000000000) (hl : (jn 46 pre).length ≤ 1000000000) :
    Calls Try.prog 30 #[.slice a n c, .string ⟨#[46]⟩] w fun e w' => e = .returned (.string (mkB (jn 46 pre))) ∧ Below w.heap.size w w' := by
  subst hn; exact join_l a c pre w hst hp hN hl
def joinE (v : Ver) : List UInt8 × Int := if fitL v = true then (joinL v, 0) else ([], 1)
theorem mkB_of' {x : ByteArray} {l : List UInt8} (h : x.data.toList = l) : x = mkB l := by unfold mkB; rw [← h]
theorem base_txt (ma mi pa : List UInt8) : (⟨#[118]⟩ : ByteArray) ++ mkB ma ++ ⟨#[46]⟩ ++ mkB mi ++ ⟨#[46]⟩ ++ mkB pa = mkB (118 :: (ma ++ 46 :: (mi ++ 46 :: pa))) := mkB_of' (by simp only [cat_list, mkB_list]; simp)
theorem tail_txt (l q : List UInt8) (c : UInt8) : mkB l ++ ((⟨#[c]⟩ : ByteArray) ++ mkB q) = mkB (l ++ c :: q) := mkB_of' (by simp only [cat_list, mkB_list]; simp)
theorem tup2 {x y : ByteArray} {i j : Int} (h : x = y) (k : i = j) : Ending.returned (.tuple #[.string x, .int .i64 i]) = .returned (.tuple #[.string y, .int .i64 j]) := by rw [h, k]
theorem joinL_none (ma mi pa : List UInt8) : joinL (ma, mi, pa, []) = 118 :: (ma ++ 46 :: (mi ++ 46 :: pa)) := by simp [joinL]
theorem joinL_some (ma mi pa : List UInt8) (pre : List (List UInt8)) (h : pre ≠ []) : joinL (ma, mi, pa, pre) = (118 :: (ma ++ 46 :: (mi ++ 46 :: pa))) ++ 45 :: jn 46 pre := by simp [joinL, h]
theorem mkB_of {x : ByteArray} {l : List UInt8} (h : x.data.toList = l) : x = mkB l := by unfold mkB; rw [← h]

set_option maxHeartbeats 1600000 in
set_option maxRecDepth 100000 in
theorem join_any2 (V : Value) (v : Ver) (w : World) (hV : VerIn w V v) (hs : smallV 1000000000 v) (hl : (joinL v).length ≤ 1000000000) :
    Calls Try.prog 14 #[V] w fun e w' => e = .returned (.tuple #[.string (mkB (joinE v).1), .int .i64 (joinE v).2]) ∧ Below w.heap.size w w' := by
  obtain ⟨a, c, rfl, hst⟩ := hV.ex
  obtain ⟨f, hf⟩ : ∃ f, fitL v = f := ⟨_, rfl⟩
  have hr : joinE v = if f = true then (joinL v, 0) else ([], 1) := by unfold joinE; rw [hf]
  obtain ⟨R, hR⟩ : ∃ R, joinE v = R := ⟨_, rfl⟩
  rw [hR] at hr ⊢
  obtain ⟨ma, mi, pa, pre⟩ := v
  simp only at hst ⊢
  have hsl : ∀ k : Nat, k ≤ 1000000000 → k ≤ 1000000000 := fun k h => h
  have HF := Lib.hid hf; have HR := Lib.hid hr; have HS := Lib.hid hs; have HL := Lib.hid hl; have HST := Lib.hid hst
  clear hf hr hs hl hst hV hsl hR
  obtain ⟨n, hn⟩ : ∃ n, pre.length = n := ⟨_, rfl⟩
  rw [hn]
  have HN := Lib.hid hn
  have hF : Hid (VerIn (w.alloc (.cells #[.string (mkB ma), .string (mkB mi), .string (mkB pa), .slice a n c] 24)) (.agg #[.string (mkB ma), .string (mkB mi), .string (mkB pa), .slice a n c]) (ma, mi, pa, pre)) :=
    Lib.hid ⟨⟨a, c, by rw [← hn], HST.out.below ((Below.refl _ _).alloc (Nat.le_refl _) _)⟩⟩
  clear hn
  have s1 : (mkB ma).size ≤ 1000000000 := by rw [mkB_size]; exact HS.out.1
  have s2 : (mkB mi).size ≤ 1000000000 := by rw [mkB_size]; exact HS.out.2.1
  have s3 : (mkB pa).size ≤ 1000000000 := by rw [mkB_size]; exact HS.out.2.2.1
  cases f
  · go_enter Try.func14, Try.ntmps14
    go_wp2_with (go_at_call 26; refine (fit_any _ (ma, mi, pa, pre) _ hF.out HS.out).mono ?_; rintro e w1 ⟨rfl, hb1⟩; rw [HF.out]; have B1 := Lib.hid (below_step ((Below.refl w.heap.size w).alloc (Nat.le_refl _) _) hb1); clear hb1)
    go_ret2
    exact ⟨by rw [HR.out]; rfl, B1.out⟩
  · by_cases h0 : n = 0
    · have hn0 : ((0 : Nat) < n) = False := by rw [h0]; simp
      have hnI : decide (0 < n) = false := by rw [h0]; rfl
      have hnJ : ¬ 0 < n := by omega
      have hN0 : pre = [] := List.eq_nil_of_length_eq_zero (by rw [HN.out, h0])
      have HP := Lib.hid hN0; clear hN0 h0
      go_enter Try.func14, Try.ntmps14
      go_wp2_with (go_at_call 26; refine (fit_any _ (ma, mi, pa, pre) _ hF.out HS.out).mono ?_; rintro e w1 ⟨rfl, hb1⟩; rw [HF.out]; obtain ⟨c0, c1, c2, c3, _, _, _, _⟩ := row4 (row_keep (heap_alloc_new w (.cells #[.string (mkB ma), .string (mkB mi), .string (mkB pa), .slice a n c] 24)) hb1); have B1 := Lib.hid (below_step ((Below.refl w.heap.size w).alloc (Nat.le_refl _) _) hb1); clear hb1)
      go_ret2
      have hR : R = (joinL (ma, mi, pa, pre), 0) := by simpa using HR.out
      rw [HP.out, joinL_none] at hR
      exact ⟨tup2 (by rw [hR]; exact base_txt ma mi pa) (by rw [hR]), B1.out⟩
    · have hnI : decide (0 < n) = true := by simp; omega
      have hnJ : 0 < n := by omega
      have hne : pre ≠ [] := fun e => h0 (by rw [← HN.out, e]; rfl)
      have hj := joinL_some ma mi pa pre hne
      have hjl : (jn 46 pre).length ≤ 1000000000 := by have := HL.out; rw [hj] at this; simp only [List.length_append, List.length_cons] at this; omega
      have sj : (mkB (jn 46 pre)).size ≤ 1000000000 := by rw [mkB_size]; exact hjl
      have HJ := Lib.hid hj; have HJL := Lib.hid hjl; have H0 : Hid (0 < n) := Lib.hid hnJ
      clear hj hjl hne h0
      go_enter Try.func14, Try.ntmps14
      go_wp2_with (first
        | (go_at_call 26; refine (fit_any _ (ma, mi, pa, pre) _ hF.out HS.out).mono ?_; rintro e w1 ⟨rfl, hb1⟩; rw [HF.out]; obtain ⟨c0, c1, c2, c3, _, _, _, _⟩ := row4 (row_keep (heap_alloc_new w (.cells #[.string (mkB ma), .string (mkB mi), .string (mkB pa), .slice a n c] 24)) hb1); have B1 := Lib.hid (below_step ((Below.refl w.heap.size w).alloc (Nat.le_refl _) _) hb1); clear hb1)
        | (go_at_call 30; refine (join_n a c n pre _ HN.out (HST.out.below B1.out) H0.out (by rw [HN.out]; have := HS.out.2.2.2.1; have h2 := HN.out; simp only at this; omega) HJL.out).mono ?_; rintro e w2 ⟨rfl, hb2⟩; have B2 := Lib.hid (below_step B1.out hb2); clear hb2))
      go_ret2
      have hR : R = (joinL (ma, mi, pa, pre), 0) := by simpa using HR.out
      rw [HJ.out] at hR
      exact ⟨tup2 (by rw [hR, base_txt]; exact tail_txt _ _ 45) (by rw [hR]), B2.out⟩
end Go.Proofs.Ytcdflfjbdbofcaa
