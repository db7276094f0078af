/- How often a pair is there; edges with a pair once more, and once less: of the program. -/
import Derived.Test.YtfkbpkjejnpaiaaEdgF
namespace Go.Proofs.Ytfkbpkjejnpaiaa
open Go.RowKit
set_option maxRecDepth 100000

/-! ### What each call tells -/
def manyK (l : List Ed) (f t : Int) : Int := if mayE l f t then 0 else 1
def manyV (l : List Ed) (f t : Int) : Int := if mayE l f t then manyE l f t else 0
def addK (l : List Ed) (f t : Int) : Int := if mayE l f t then (if manyE l f t = topE then 4 else 0) else 1
def addL (l : List Ed) (f t : Int) : List Ed := if addK l f t = 0 then withE l (f, t, manyE l f t + 1) else []
def dropK (l : List Ed) (f t : Int) : Int := if mayE l f t then (if manyE l f t = 0 then 2 else 0) else 1
def dropL (l : List Ed) (f t : Int) : List Ed := if dropK l f t = 0 then withE l (f, t, manyE l f t - 1) else []
theorem mayE_ok {l : List Ed} {f t : Int} (h : mayE l f t = true) : okE l = true ∧ -1 ≤ f ∧ 0 ≤ t := by
  unfold mayE ableE at h
  simp only [Bool.and_eq_true, decide_eq_true_eq] at h
  exact ⟨h.2, h.1.1, h.1.2⟩
theorem mayE_of {l : List Ed} {f t : Int} (h : okE l = true) (h1 : -1 ≤ f) (h2 : 0 ≤ t) : mayE l f t = true := by
  unfold mayE ableE
  simp [h, h1, h2]
theorem addL_len (l : List Ed) (f t : Int) : (addL l f t).length ≤ 2 * l.length + 1 := by
  unfold addL; split
  · exact withE_len _ _
  · simp
theorem dropL_len (l : List Ed) (f t : Int) : (dropL l f t).length ≤ 2 * l.length + 1 := by
  unfold dropL; split
  · exact withE_len _ _
  · simp

/-- Two numbers' boxes, just laid; the world named. -/
theorem boxII (w : World) (x y : Value) (t : TypeId) : ∃ W p q, (w.alloc (.cells #[x] t)).alloc (.cells #[y] t) = W ∧ w.heap.size = p ∧ w.heap.size + 1 = q ∧ W.cell? ⟨p, 0, none⟩ = some x ∧ W.cell? ⟨q, 0, none⟩ = some y ∧ Below w.heap.size w W :=
  ⟨_, _, _, rfl, rfl, rfl, cell_alloc (cell_new rfl rfl) _, cell_new (by simp) rfl, ((Below.refl _ _).alloc (Nat.le_refl _) _).alloc (by simp) _⟩

set_option maxHeartbeats 1600000 in
theorem many_any (V : Value) (l : List Ed) (f t : Int) (w : World) (h : Eds w V l) (hl : l.length ≤ 1000000) :
    Calls Try.prog 53 #[V, .int .i64 f, .int .i64 t] w fun e w' => e = .returned (.tuple #[.int .i64 (manyV l f t), .int .i64 (manyK l f t)]) ∧ Below w.heap.size w w' := by
  obtain ⟨a, c, rfl, -⟩ := h.ex
  have hmf := makef
  have kw := fun V g1 g2 w h => wmany_any V l f t g1 g2 w h hl
  have km := fun V w h => pmay_any V l f t w h
  unfold manyV manyK
  obtain ⟨n, hn⟩ : ∃ n, l.length = n := ⟨_, rfl⟩
  rw [hn] at h hl ⊢
  have hF := List.length_filter_le (isP f t) l
  rw [hn] at hF
  obtain ⟨W, g1, g2, hW, hg1, hg2, d1, d2, hb⟩ := boxII w (.int .i64 f) (.int .i64 t) 3
  have ST := Lib.hid (h.below hb); have B := Lib.hid hb; have HW := Lib.hid hW; have HG1 := Lib.hid hg1; have HG2 := Lib.hid hg2
  clear h hb hW hg1 hg2 hn
  obtain ⟨o, ho⟩ : ∃ o, mayE l f t = o := ⟨_, rfl⟩
  rw [ho] at km ⊢
  cases o
  · simp only [Bool.false_eq_true, if_false]
    clear ho hF
    go_enter Try.func53, Try.ntmps53
    go_upto_region 1 with fail
    rw [HW.out, HG2.out, HG1.out]
    go_wp2_with (go_at_call 62; refine (km _ _ ST.out).mono ?_; rintro e w1 ⟨rfl, hb1⟩; replace B := Lib.hid (below_step B.out hb1); clear hb1)
    go_ret2
    exact ⟨rfl, B.out⟩
  · simp only [if_true]
    have hok := (mayE_ok ho).1
    have hbd := fun k => sum_take_bd hok f t k
    have hM : manyE l f t = sumE (l.filter (isP f t)) := rfl
    obtain ⟨M, hM0⟩ : ∃ M, manyE l f t = M := ⟨_, rfl⟩
    rw [hM0] at hM ⊢
    obtain ⟨F, hf⟩ : ∃ F, l.filter (isP f t) = F := ⟨_, rfl⟩
    rw [hf] at kw hF hbd hM
    obtain ⟨m, hm⟩ : ∃ m, F.length = m := ⟨_, rfl⟩
    rw [hm] at kw hF
    have HM := Lib.hid hm; have HBD := Lib.hid hbd; have HMS := Lib.hid hM
    clear ho hok hbd hM hM0 hf hm
    go_enter Try.func53, Try.ntmps53
    go_upto_region 1 with fail
    rw [HW.out, HG2.out, HG1.out]
    go_wp2_with (first
      | (go_at_call 62; refine (km _ _ ST.out).mono ?_; rintro e w1 ⟨rfl, hb1⟩; replace ST := Lib.hid (ST.out.below hb1); replace d1 := cell_keep d1 hb1; replace d2 := cell_keep d2 hb1; replace B := Lib.hid (below_step B.out hb1); clear hb1 km)
      | (go_at_call 63; refine (kw _ _ _ _ ST.out d1 d2).mono ?_; rintro e w2 ⟨v2, rfl, hown, hb2⟩; obtain ⟨a2, c2, rfl, hE2⟩ := edsO (by rw [HM.out]; exact hown); rw [HM.out] at hE2 ⊢; have SE := Lib.hid hE2; replace B := Lib.hid (below_step B.out hb2); clear hown hb2 hE2 kw))
    go_loopw [8, 20] (fun s i wr => ∃ (k : Nat) (S : Int), k ≤ m ∧ s = .int .i64 S ∧ i = .int .i64 k ∧ Hid (sumE (F.take k) = S) ∧ Hid (Below w2.heap.size w2 wr)) (fun _ i _ => m - (intOf i).toNat)
    case atStart => exact ⟨0, 0, Nat.zero_le _, rfl, rfl, Lib.hid rfl, Lib.hid (Below.refl _ _)⟩
    case round =>
      obtain ⟨k, S, hk, rfl, rfl, HS, HB⟩ := hrel
      by_cases hlt : k < m
      · have hkl : k < F.length := by rw [HM.out]; exact hlt
        obtain ⟨b, off, rfl, -, hc0, hc1, hc2⟩ := (SE.out.below HB.out).at k hkl
        have htk := ed_take hkl
        obtain ⟨y, hy⟩ : ∃ y, y = F.getD k zE := ⟨_, rfl⟩
        rw [← hy] at hc0 hc1 hc2 htk
        obtain ⟨y1, y2, y3⟩ := y
        simp only at hc0 hc1 hc2
        have hs := sumE_app (F.take k) [(y1, y2, y3)]
        rw [← htk, HS.out] at hs
        have hs2 : sumE (F.take (k + 1)) = S + y3 := by rw [hs]; simp [sumE]
        have b1 := HBD.out k
        have b2 := HBD.out (k + 1)
        rw [HS.out] at b1
        rw [hs2] at b2
        have HS2 := Lib.hid hs2
        clear hy htk hs hs2
        have hkb : (k : Int) < (m : Int) := by omega
        have hbd1 : 0 ≤ S + y3 := b2.1
        have hbd2 : S + y3 ≤ 1099511627776 := b2.2
        clear b1 b2
        go_wp2
        go_roundw
        case rel => exact ⟨k + 1, S + y3, by omega, rfl, by go_num, HS2, Lib.hid (HB.out.alloc HB.out.size _)⟩
        case measure => simp [intOf]; omega
      · go_wp2
        go_ret2
        have e : k = m := by omega
        subst e
        have h5 := HS.out
        rw [List.take_of_length_le (by rw [HM.out]; exact Nat.le_refl _), ← HMS.out] at h5
        exact ⟨by rw [h5]; rfl, below_step B.out HB.out⟩

set_option maxHeartbeats 1600000 in
theorem add_any (V : Value) (l : List Ed) (f t : Int) (w : World) (h : Eds w V l) (hl : l.length ≤ 1000000) :
    Calls Try.prog 40 #[V, .int .i64 f, .int .i64 t] w fun e w' => ∃ v, e = .returned (.tuple #[v, .int .i64 (addK l f t)]) ∧ w'.ownsRow w.heap.size 43 3 v (addL l f t).length (edC (addL l f t)) ∧ Below w.heap.size w w' := by
  obtain ⟨a, c, rfl, -⟩ := h.ex
  have km := fun V w h => many_any V l f t w h hl
  unfold manyV manyK at km
  unfold addL addK
  obtain ⟨o, ho⟩ : ∃ o, mayE l f t = o := ⟨_, rfl⟩
  rw [ho] at km ⊢
  cases o
  · simp only [Bool.false_eq_true, if_false] at km ⊢
    rw [if_neg (by decide)]
    obtain ⟨n, hn⟩ : ∃ n, l.length = n := ⟨_, rfl⟩
    rw [hn] at h ⊢
    have ST := Lib.hid h
    clear h ho hn hl
    go_enter Try.func40, Try.ntmps40
    go_wp2_with (go_at_call 53; refine (km _ _ ST.out).mono ?_; rintro e w1 ⟨rfl, hb1⟩; have B1 := Lib.hid hb1; clear hb1)
    go_ret2
    exact ⟨_, rfl, World.ownsRow_nil _ _ _ _, B1.out⟩
  · simp only [if_true] at km ⊢
    have hbd := many_bd (mayE_ok ho).1 f t
    have ks := fun V w h => set_any V l f t (manyE l f t + 1) w h hl
    obtain ⟨M, hM⟩ : ∃ M, manyE l f t = M := ⟨_, rfl⟩
    rw [hM] at km hbd ks ⊢
    obtain ⟨n, hn⟩ : ∃ n, l.length = n := ⟨_, rfl⟩
    rw [hn] at h ⊢
    have ST := Lib.hid h
    clear h ho hn hl hM
    by_cases hT : M = 1099511627776
    · have e1 : M = topE := hT
      rw [if_pos e1, if_neg (by decide)]
      have hd : (M == 1099511627776) = true := by simp [hT]
      clear e1 hT ks
      go_enter Try.func40, Try.ntmps40
      go_wp2_with (go_at_call 53; refine (km _ _ ST.out).mono ?_; rintro e w1 ⟨rfl, hb1⟩; have B1 := Lib.hid hb1; clear hb1)
      go_ret2
      exact ⟨_, rfl, World.ownsRow_nil _ _ _ _, B1.out⟩
    · have e1 : ¬ M = topE := hT
      rw [if_neg e1, if_pos rfl]
      have hd : (M == 1099511627776) = false := by simp [hT]
      have hb0 : 0 ≤ M := hbd.1
      have hb1 : M ≤ 1099511627776 := hbd.2
      clear e1 hT hbd
      go_enter Try.func40, Try.ntmps40
      go_wp2_with (first
        | (go_at_call 53; refine (km _ _ ST.out).mono ?_; rintro e w1 ⟨rfl, hb1⟩; replace ST := Lib.hid (ST.out.below hb1); have B1 := Lib.hid hb1; clear hb1 km)
        | (go_at_call 54; refine (ks _ _ ST.out).mono ?_; rintro e w2 ⟨v2, rfl, hown, hb2⟩; have HOWN := Lib.hid (row_base hown B1.out.size); replace B1 := Lib.hid (below_step B1.out hb2); clear hown hb2 ks))
      go_ret2
      exact ⟨_, rfl, HOWN.out, B1.out⟩

set_option maxHeartbeats 1600000 in
theorem drop_any (V : Value) (l : List Ed) (f t : Int) (w : World) (h : Eds w V l) (hl : l.length ≤ 1000000) :
    Calls Try.prog 45 #[V, .int .i64 f, .int .i64 t] w fun e w' => ∃ v, e = .returned (.tuple #[v, .int .i64 (dropK l f t)]) ∧ w'.ownsRow w.heap.size 43 3 v (dropL l f t).length (edC (dropL l f t)) ∧ Below w.heap.size w w' := by
  obtain ⟨a, c, rfl, -⟩ := h.ex
  have km := fun V w h => many_any V l f t w h hl
  unfold manyV manyK at km
  unfold dropL dropK
  obtain ⟨o, ho⟩ : ∃ o, mayE l f t = o := ⟨_, rfl⟩
  rw [ho] at km ⊢
  cases o
  · simp only [Bool.false_eq_true, if_false] at km ⊢
    rw [if_neg (by decide)]
    obtain ⟨n, hn⟩ : ∃ n, l.length = n := ⟨_, rfl⟩
    rw [hn] at h ⊢
    have ST := Lib.hid h
    clear h ho hn hl
    go_enter Try.func45, Try.ntmps45
    go_wp2_with (go_at_call 53; refine (km _ _ ST.out).mono ?_; rintro e w1 ⟨rfl, hb1⟩; have B1 := Lib.hid hb1; clear hb1)
    go_ret2
    exact ⟨_, rfl, World.ownsRow_nil _ _ _ _, B1.out⟩
  · simp only [if_true] at km ⊢
    have hbd := many_bd (mayE_ok ho).1 f t
    have ks := fun V w h => set_any V l f t (manyE l f t - 1) w h hl
    obtain ⟨M, hM⟩ : ∃ M, manyE l f t = M := ⟨_, rfl⟩
    rw [hM] at km hbd ks ⊢
    obtain ⟨n, hn⟩ : ∃ n, l.length = n := ⟨_, rfl⟩
    rw [hn] at h ⊢
    have ST := Lib.hid h
    clear h ho hn hl hM
    by_cases hT : M = 0
    · rw [if_pos hT, if_neg (by decide)]
      have hd : (M == 0) = true := by simp [hT]
      clear hT ks
      go_enter Try.func45, Try.ntmps45
      go_wp2_with (go_at_call 53; refine (km _ _ ST.out).mono ?_; rintro e w1 ⟨rfl, hb1⟩; have B1 := Lib.hid hb1; clear hb1)
      go_ret2
      exact ⟨_, rfl, World.ownsRow_nil _ _ _ _, B1.out⟩
    · rw [if_neg hT, if_pos rfl]
      have hd : (M == 0) = false := by simp [hT]
      have hb0 : 0 ≤ M := hbd.1
      have hb1 : M ≤ 1099511627776 := hbd.2
      clear hT hbd
      go_enter Try.func45, Try.ntmps45
      go_wp2_with (first
        | (go_at_call 53; refine (km _ _ ST.out).mono ?_; rintro e w1 ⟨rfl, hb1⟩; replace ST := Lib.hid (ST.out.below hb1); have B1 := Lib.hid hb1; clear hb1 km)
        | (go_at_call 54; refine (ks _ _ ST.out).mono ?_; rintro e w2 ⟨v2, rfl, hown, hb2⟩; have HOWN := Lib.hid (row_base hown B1.out.size); replace B1 := Lib.hid (below_step B1.out hb2); clear hown hb2 ks))
      go_ret2
      exact ⟨_, rfl, HOWN.out, B1.out⟩
end Go.Proofs.Ytfkbpkjejnpaiaa
