/- Closures that tell which edges are wanted, and the edges that are, by each of them. -/
import Derived.Test.YtfkbpkjejnpaiaaEdgD
namespace Go.Proofs.Ytfkbpkjejnpaiaa
open Go.RowKit
set_option maxRecDepth 100000

theorem makef (fn : Fn) (first cap : Array Value) (w : World) : (Instr.makeFunc fn first cap).run Try.prog w = .ok (.func fn first cap) w := rfl
theorem filter_snoc (p : Ed → Bool) (l : List Ed) (y : Ed) : (l ++ [y]).filter p = l.filter p ++ (if p y then [y] else []) := by
  rw [List.filter_append]; cases h : p y <;> simp [h]

set_option maxHeartbeats 800000 in
theorem cmany_any (x y z f t : Int) (g1 g2 : Nat) (w : World) (h1 : w.cell? ⟨g1, 0, none⟩ = some (.int .i64 f)) (h2 : w.cell? ⟨g2, 0, none⟩ = some (.int .i64 t)) :
    Calls Try.prog 64 #[.agg #[.int .i64 x, .int .i64 y, .int .i64 z], .pointer (some ⟨g1, 0, none⟩), .pointer (some ⟨g2, 0, none⟩)] w fun e w' => e = .returned (.bool (isP f t (x, y, z))) ∧ Below w.heap.size w w' := by
  obtain ⟨T, hT⟩ : ∃ T, isP f t (x, y, z) = T := ⟨_, rfl⟩
  rw [hT]
  have hT2 : (decide (x = f) && decide (y = t)) = T := hT
  obtain ⟨W, g, hW, hg, c0, c1, c2, hb⟩ := boxE1 w (.int .i64 x) (.int .i64 y) (.int .i64 z) 43
  replace h1 := cell_keep h1 hb
  replace h2 := cell_keep h2 hb
  have B := Lib.hid hb; have HW := Lib.hid hW; have HG := Lib.hid hg; clear hb hW hg hT
  by_cases hx : x = f
  · have hb1 : (x == f) = true := by simp [hx]
    by_cases hy : y = t
    · have hb2 : (y == t) = true := by simp [hy]
      have e : true = T := by rw [← hT2]; simp [hx, hy]
      subst e
      clear hx hy hT2
      go_enter Try.func64, Try.ntmps64
      go_upto_region 1 with fail
      rw [HW.out, HG.out]
      go_wp2
      go_ret
      exact ⟨rfl, B.out⟩
    · have hb2 : (y == t) = false := by simp [hy]
      have e : false = T := by rw [← hT2]; simp [hy]
      subst e
      clear hx hy hT2
      go_enter Try.func64, Try.ntmps64
      go_upto_region 1 with fail
      rw [HW.out, HG.out]
      go_wp2
      go_ret
      exact ⟨rfl, B.out⟩
  · have hb1 : (x == f) = false := by simp [hx]
    have e : false = T := by rw [← hT2]; simp [hx]
    subst e
    clear hx hT2
    go_enter Try.func64, Try.ntmps64
    go_upto_region 1 with fail
    rw [HW.out, HG.out]
    go_wp2
    go_ret
    exact ⟨rfl, B.out⟩

set_option maxHeartbeats 800000 in
theorem cahead_any (x y z x' y' z' : Int) (g1 : Nat) (w : World) (h1 : w.cell? ⟨g1, 0, none⟩ = some (.int .i64 x')) (h2 : w.cell? ⟨g1, 1, none⟩ = some (.int .i64 y')) (h3 : w.cell? ⟨g1, 2, none⟩ = some (.int .i64 z')) :
    Calls Try.prog 65 #[.agg #[.int .i64 x, .int .i64 y, .int .i64 z], .pointer (some ⟨g1, 0, none⟩)] w fun e w' => e = .returned (.bool (ltE (x, y, z) (x', y', z'))) ∧ Below w.heap.size w w' := by
  have hl := ord_lt (x, y, z) (x', y', z')
  have kor := fun w => order_any x y z x' y' z' w
  obtain ⟨T, hT⟩ : ∃ T, ordE (x, y, z) (x', y', z') = T := ⟨_, rfl⟩
  rw [hT] at hl kor
  rw [← hl]
  clear hT hl
  obtain ⟨W, g, hW, hg, c0, c1, c2, hb⟩ := boxE1 w (.int .i64 x) (.int .i64 y) (.int .i64 z) 43
  replace h1 := cell_keep h1 hb
  replace h2 := cell_keep h2 hb
  replace h3 := cell_keep h3 hb
  have B := Lib.hid hb; have HW := Lib.hid hW; have HG := Lib.hid hg; clear hb hW hg
  go_enter Try.func65, Try.ntmps65
  go_upto_region 1 with fail
  rw [HW.out, HG.out]
  go_wp2_with (go_at_call 48; refine (kor _).mono ?_; rintro e w1 ⟨rfl, hb1⟩; replace B := Lib.hid (below_step B.out hb1); clear hb1)
  go_ret
  exact ⟨rfl, B.out⟩

set_option maxHeartbeats 800000 in
theorem cbehind_any (x y z x' y' z' : Int) (g1 : Nat) (w : World) (h1 : w.cell? ⟨g1, 0, none⟩ = some (.int .i64 x')) (h2 : w.cell? ⟨g1, 1, none⟩ = some (.int .i64 y')) (h3 : w.cell? ⟨g1, 2, none⟩ = some (.int .i64 z')) :
    Calls Try.prog 66 #[.agg #[.int .i64 x, .int .i64 y, .int .i64 z], .pointer (some ⟨g1, 0, none⟩)] w fun e w' => e = .returned (.bool (ltE (x', y', z') (x, y, z))) ∧ Below w.heap.size w w' := by
  have hl := ord_gt (x, y, z) (x', y', z')
  have kor := fun w => order_any x y z x' y' z' w
  obtain ⟨T, hT⟩ : ∃ T, ordE (x, y, z) (x', y', z') = T := ⟨_, rfl⟩
  rw [hT] at hl kor
  rw [← hl]
  clear hT hl
  obtain ⟨W, g, hW, hg, c0, c1, c2, hb⟩ := boxE1 w (.int .i64 x) (.int .i64 y) (.int .i64 z) 43
  replace h1 := cell_keep h1 hb
  replace h2 := cell_keep h2 hb
  replace h3 := cell_keep h3 hb
  have B := Lib.hid hb; have HW := Lib.hid hW; have HG := Lib.hid hg; clear hb hW hg
  go_enter Try.func66, Try.ntmps66
  go_upto_region 1 with fail
  rw [HW.out, HG.out]
  go_wp2_with (go_at_call 48; refine (kor _).mono ?_; rintro e w1 ⟨rfl, hb1⟩; replace B := Lib.hid (below_step B.out hb1); clear hb1)
  go_ret
  exact ⟨rfl, B.out⟩

set_option maxHeartbeats 1600000 in
theorem wmany_any (V : Value) (l : List Ed) (f t : Int) (g1 g2 : Nat) (w : World) (h : Eds w V l) (hl : l.length ≤ 1000000) (ha : w.cell? ⟨g1, 0, none⟩ = some (.int .i64 f)) (hb : w.cell? ⟨g2, 0, none⟩ = some (.int .i64 t)) :
    Calls Try.prog 63 #[V, .func (.func 64) #[] #[.pointer (some ⟨g1, 0, none⟩), .pointer (some ⟨g2, 0, none⟩)]] w fun e w' => ∃ v, e = .returned v ∧ w'.ownsRow w.heap.size 43 3 v (l.filter (isP f t)).length (edC (l.filter (isP f t))) ∧ Below w.heap.size w w' := by
  obtain ⟨a, c, rfl, h1, h2, -, -⟩ := h.ex
  unfold maxLen at h2
  obtain ⟨p, hp⟩ : ∃ p : Ed → Bool, (isP f t) = p := ⟨_, rfl⟩
  rw [hp]
  obtain ⟨n, hn⟩ : ∃ n, l.length = n := ⟨_, rfl⟩
  rw [hn] at h1 h hl ⊢
  have HN := Lib.hid hn; have ST := Lib.hid h; have HP := Lib.hid hp
  clear h hn hp
  go_enter Try.func63, Try.ntmps63
  go_wp2
  go_loopw [5, 10] (fun v i wr => ∃ k m : Nat, k ≤ n ∧ m ≤ k ∧ i = .int .i64 k ∧ Hid (((l.take k).filter p).length = m) ∧ Hid (wr.ownsRow w.heap.size 43 3 v m (edC ((l.take k).filter p))) ∧ Hid (Below w.heap.size w wr)) (fun _ i _ => n - (intOf i).toNat)
  case atStart => exact ⟨0, 0, Nat.zero_le _, Nat.le_refl _, rfl, Lib.hid (by simp), Lib.hid (World.ownsRow_nil _ _ _ _), Lib.hid (Below.refl _ _)⟩
  case round =>
    obtain ⟨k, m, hk, hmk, rfl, HM, HOWN, HB⟩ := hrel
    by_cases hlt : k < n
    · have hkl : k < l.length := by rw [HN.out]; exact hlt
      obtain ⟨b, off, rfl, -, hc0, hc1, hc2⟩ := (ST.out.below HB.out).at k hkl
      have htk := ed_take hkl
      obtain ⟨y, hy⟩ : ∃ y, y = l.getD k zE := ⟨_, rfl⟩
      rw [← hy] at hc0 hc1 hc2 htk
      obtain ⟨y1, y2, y3⟩ := y
      simp only at hc0 hc1 hc2
      have hf := filter_snoc p (l.take k) (y1, y2, y3)
      rw [← htk] at hf
      obtain ⟨o, ho⟩ : ∃ o, p (y1, y2, y3) = o := ⟨_, rfl⟩
      rw [ho] at hf
      have ho2 : (isP f t) (y1, y2, y3) = o := by rw [HP.out]; exact ho
      have HF := Lib.hid hf; have HO := Lib.hid ho2
      clear hy htk hf ho ho2
      have hkb : (k : Int) < (n : Int) := by omega
      obtain ⟨W, g, hW, hg, d0, d1, d2, hbx⟩ := boxE1 wr (.int .i64 y1) (.int .i64 y2) (.int .i64 y3) 43
      replace HOWN := Lib.hid (ownsRow_belowB HOWN.out hbx)
      have B := Lib.hid (below_step HB.out hbx)
      have G0 := cell_keep (cell_keep ha HB.out) hbx
      have G1 := cell_keep (cell_keep hb HB.out) hbx
      have HW := Lib.hid hW; have HG := Lib.hid hg
      clear hW hg hbx
      cases o
      · go_upto_region 5 with fail
        rw [HW.out, HG.out]
        go_wp2_with (go_at_call 64; refine (cmany_any _ _ _ f t _ _ _ G0 G1).mono ?_; rintro e w1 ⟨rfl, hb1⟩; rw [HO.out]; replace HOWN := Lib.hid (ownsRow_belowB HOWN.out hb1); replace B := Lib.hid (below_step B.out hb1); clear hb1)
        go_roundw
        case rel => exact ⟨k + 1, m, by omega, by omega, by go_num, Lib.hid (by rw [HF.out]; simp; exact HM.out), Lib.hid (by rw [HF.out]; simp only [Bool.false_eq_true, if_false, List.append_nil]; exact HOWN.out), B⟩
        case measure => simp [intOf]; omega
      · go_upto_region 5 with fail
        rw [HW.out, HG.out]
        go_wp2_with (first
          | (go_at_call 64; refine (cmany_any _ _ _ f t _ _ _ G0 G1).mono ?_; rintro e w1 ⟨rfl, hb1⟩; rw [HO.out]; replace d0 := cell_keep d0 hb1; replace d1 := cell_keep d1 hb1; replace d2 := cell_keep d2 hb1; replace HOWN := Lib.hid (ownsRow_belowB HOWN.out hb1); replace B := Lib.hid (below_step B.out hb1); clear hb1)
          | (at_builtin; refine wpList_append_new rfl _ _ 22 rfl w.heap.size 43 (.agg #[.int .i64 0, .int .i64 0, .int .i64 0]) 3 24 Try.underlying22 Try.info_edge rfl (by decide) _ m _ rfl HOWN.out [.int .i64 y1, .int .i64 y2, .int .i64 y3] rfl rfl rfl (by omega) (by unfold maxLen; omega) B.out.size ?_; intro v' w2 hown2 hb2; have HO2 := Lib.hid hown2; replace B := Lib.hid (B.out.trans hb2.toBelow); clear hown2 hb2))
        go_roundw
        case rel => exact ⟨k + 1, m + 1, by omega, by omega, by go_num, Lib.hid (by rw [HF.out]; simp; exact HM.out), Lib.hid (by rw [HF.out]; simp only [if_true]; rw [edC_snoc]; exact HO2.out), B⟩
        case measure => simp [intOf]; omega
    · go_wp2
      go_ret
      have e : k = n := by omega
      subst e
      have hM := HM.out
      have hO := HOWN.out
      rw [List.take_of_length_le (by rw [HN.out]; exact Nat.le_refl _)] at hM hO
      rw [← hM] at hO
      exact ⟨_, rfl, hO, HB.out⟩

set_option maxHeartbeats 1600000 in
theorem wahead_any (V : Value) (l : List Ed) (x1 x2 x3 : Int) (g1 : Nat) (w : World) (h : Eds w V l) (hl : l.length ≤ 1000000) (ha : w.cell? ⟨g1, 0, none⟩ = some (.int .i64 x1)) (hb : w.cell? ⟨g1, 1, none⟩ = some (.int .i64 x2)) (hc : w.cell? ⟨g1, 2, none⟩ = some (.int .i64 x3)) :
    Calls Try.prog 63 #[V, .func (.func 65) #[] #[.pointer (some ⟨g1, 0, none⟩)]] w fun e w' => ∃ v, e = .returned v ∧ w'.ownsRow w.heap.size 43 3 v (l.filter (fun e : Ed => ltE e (x1, x2, x3))).length (edC (l.filter (fun e : Ed => ltE e (x1, x2, x3)))) ∧ Below w.heap.size w w' := by
  obtain ⟨a, c, rfl, h1, h2, -, -⟩ := h.ex
  unfold maxLen at h2
  obtain ⟨p, hp⟩ : ∃ p : Ed → Bool, (fun e : Ed => ltE e (x1, x2, x3)) = p := ⟨_, rfl⟩
  rw [hp]
  obtain ⟨n, hn⟩ : ∃ n, l.length = n := ⟨_, rfl⟩
  rw [hn] at h1 h hl ⊢
  have HN := Lib.hid hn; have ST := Lib.hid h; have HP := Lib.hid hp
  clear h hn hp
  go_enter Try.func63, Try.ntmps63
  go_wp2
  go_loopw [5, 10] (fun v i wr => ∃ k m : Nat, k ≤ n ∧ m ≤ k ∧ i = .int .i64 k ∧ Hid (((l.take k).filter p).length = m) ∧ Hid (wr.ownsRow w.heap.size 43 3 v m (edC ((l.take k).filter p))) ∧ Hid (Below w.heap.size w wr)) (fun _ i _ => n - (intOf i).toNat)
  case atStart => exact ⟨0, 0, Nat.zero_le _, Nat.le_refl _, rfl, Lib.hid (by simp), Lib.hid (World.ownsRow_nil _ _ _ _), Lib.hid (Below.refl _ _)⟩
  case round =>
    obtain ⟨k, m, hk, hmk, rfl, HM, HOWN, HB⟩ := hrel
    by_cases hlt : k < n
    · have hkl : k < l.length := by rw [HN.out]; exact hlt
      obtain ⟨b, off, rfl, -, hc0, hc1, hc2⟩ := (ST.out.below HB.out).at k hkl
      have htk := ed_take hkl
      obtain ⟨y, hy⟩ : ∃ y, y = l.getD k zE := ⟨_, rfl⟩
      rw [← hy] at hc0 hc1 hc2 htk
      obtain ⟨y1, y2, y3⟩ := y
      simp only at hc0 hc1 hc2
      have hf := filter_snoc p (l.take k) (y1, y2, y3)
      rw [← htk] at hf
      obtain ⟨o, ho⟩ : ∃ o, p (y1, y2, y3) = o := ⟨_, rfl⟩
      rw [ho] at hf
      have ho2 : (fun e : Ed => ltE e (x1, x2, x3)) (y1, y2, y3) = o := by rw [HP.out]; exact ho
      have HF := Lib.hid hf; have HO := Lib.hid ho2
      clear hy htk hf ho ho2
      have hkb : (k : Int) < (n : Int) := by omega
      obtain ⟨W, g, hW, hg, d0, d1, d2, hbx⟩ := boxE1 wr (.int .i64 y1) (.int .i64 y2) (.int .i64 y3) 43
      replace HOWN := Lib.hid (ownsRow_belowB HOWN.out hbx)
      have B := Lib.hid (below_step HB.out hbx)
      have G0 := cell_keep (cell_keep ha HB.out) hbx
      have G1 := cell_keep (cell_keep hb HB.out) hbx
      have G2 := cell_keep (cell_keep hc HB.out) hbx
      have HW := Lib.hid hW; have HG := Lib.hid hg
      clear hW hg hbx
      cases o
      · go_upto_region 5 with fail
        rw [HW.out, HG.out]
        go_wp2_with (go_at_call 65; refine (cahead_any _ _ _ x1 x2 x3 _ _ G0 G1 G2).mono ?_; rintro e w1 ⟨rfl, hb1⟩; rw [HO.out]; replace HOWN := Lib.hid (ownsRow_belowB HOWN.out hb1); replace B := Lib.hid (below_step B.out hb1); clear hb1)
        go_roundw
        case rel => exact ⟨k + 1, m, by omega, by omega, by go_num, Lib.hid (by rw [HF.out]; simp; exact HM.out), Lib.hid (by rw [HF.out]; simp only [Bool.false_eq_true, if_false, List.append_nil]; exact HOWN.out), B⟩
        case measure => simp [intOf]; omega
      · go_upto_region 5 with fail
        rw [HW.out, HG.out]
        go_wp2_with (first
          | (go_at_call 65; refine (cahead_any _ _ _ x1 x2 x3 _ _ G0 G1 G2).mono ?_; rintro e w1 ⟨rfl, hb1⟩; rw [HO.out]; replace d0 := cell_keep d0 hb1; replace d1 := cell_keep d1 hb1; replace d2 := cell_keep d2 hb1; replace HOWN := Lib.hid (ownsRow_belowB HOWN.out hb1); replace B := Lib.hid (below_step B.out hb1); clear hb1)
          | (at_builtin; refine wpList_append_new rfl _ _ 22 rfl w.heap.size 43 (.agg #[.int .i64 0, .int .i64 0, .int .i64 0]) 3 24 Try.underlying22 Try.info_edge rfl (by decide) _ m _ rfl HOWN.out [.int .i64 y1, .int .i64 y2, .int .i64 y3] rfl rfl rfl (by omega) (by unfold maxLen; omega) B.out.size ?_; intro v' w2 hown2 hb2; have HO2 := Lib.hid hown2; replace B := Lib.hid (B.out.trans hb2.toBelow); clear hown2 hb2))
        go_roundw
        case rel => exact ⟨k + 1, m + 1, by omega, by omega, by go_num, Lib.hid (by rw [HF.out]; simp; exact HM.out), Lib.hid (by rw [HF.out]; simp only [if_true]; rw [edC_snoc]; exact HO2.out), B⟩
        case measure => simp [intOf]; omega
    · go_wp2
      go_ret
      have e : k = n := by omega
      subst e
      have hM := HM.out
      have hO := HOWN.out
      rw [List.take_of_length_le (by rw [HN.out]; exact Nat.le_refl _)] at hM hO
      rw [← hM] at hO
      exact ⟨_, rfl, hO, HB.out⟩

set_option maxHeartbeats 1600000 in
theorem wbehind_any (V : Value) (l : List Ed) (x1 x2 x3 : Int) (g1 : Nat) (w : World) (h : Eds w V l) (hl : l.length ≤ 1000000) (ha : w.cell? ⟨g1, 0, none⟩ = some (.int .i64 x1)) (hb : w.cell? ⟨g1, 1, none⟩ = some (.int .i64 x2)) (hc : w.cell? ⟨g1, 2, none⟩ = some (.int .i64 x3)) :
    Calls Try.prog 63 #[V, .func (.func 66) #[] #[.pointer (some ⟨g1, 0, none⟩)]] w fun e w' => ∃ v, e = .returned v ∧ w'.ownsRow w.heap.size 43 3 v (l.filter (fun e : Ed => ltE (x1, x2, x3) e)).length (edC (l.filter (fun e : Ed => ltE (x1, x2, x3) e))) ∧ Below w.heap.size w w' := by
  obtain ⟨a, c, rfl, h1, h2, -, -⟩ := h.ex
  unfold maxLen at h2
  obtain ⟨p, hp⟩ : ∃ p : Ed → Bool, (fun e : Ed => ltE (x1, x2, x3) e) = p := ⟨_, rfl⟩
  rw [hp]
  obtain ⟨n, hn⟩ : ∃ n, l.length = n := ⟨_, rfl⟩
  rw [hn] at h1 h hl ⊢
  have HN := Lib.hid hn; have ST := Lib.hid h; have HP := Lib.hid hp
  clear h hn hp
  go_enter Try.func63, Try.ntmps63
  go_wp2
  go_loopw [5, 10] (fun v i wr => ∃ k m : Nat, k ≤ n ∧ m ≤ k ∧ i = .int .i64 k ∧ Hid (((l.take k).filter p).length = m) ∧ Hid (wr.ownsRow w.heap.size 43 3 v m (edC ((l.take k).filter p))) ∧ Hid (Below w.heap.size w wr)) (fun _ i _ => n - (intOf i).toNat)
  case atStart => exact ⟨0, 0, Nat.zero_le _, Nat.le_refl _, rfl, Lib.hid (by simp), Lib.hid (World.ownsRow_nil _ _ _ _), Lib.hid (Below.refl _ _)⟩
  case round =>
    obtain ⟨k, m, hk, hmk, rfl, HM, HOWN, HB⟩ := hrel
    by_cases hlt : k < n
    · have hkl : k < l.length := by rw [HN.out]; exact hlt
      obtain ⟨b, off, rfl, -, hc0, hc1, hc2⟩ := (ST.out.below HB.out).at k hkl
      have htk := ed_take hkl
      obtain ⟨y, hy⟩ : ∃ y, y = l.getD k zE := ⟨_, rfl⟩
      rw [← hy] at hc0 hc1 hc2 htk
      obtain ⟨y1, y2, y3⟩ := y
      simp only at hc0 hc1 hc2
      have hf := filter_snoc p (l.take k) (y1, y2, y3)
      rw [← htk] at hf
      obtain ⟨o, ho⟩ : ∃ o, p (y1, y2, y3) = o := ⟨_, rfl⟩
      rw [ho] at hf
      have ho2 : (fun e : Ed => ltE (x1, x2, x3) e) (y1, y2, y3) = o := by rw [HP.out]; exact ho
      have HF := Lib.hid hf; have HO := Lib.hid ho2
      clear hy htk hf ho ho2
      have hkb : (k : Int) < (n : Int) := by omega
      obtain ⟨W, g, hW, hg, d0, d1, d2, hbx⟩ := boxE1 wr (.int .i64 y1) (.int .i64 y2) (.int .i64 y3) 43
      replace HOWN := Lib.hid (ownsRow_belowB HOWN.out hbx)
      have B := Lib.hid (below_step HB.out hbx)
      have G0 := cell_keep (cell_keep ha HB.out) hbx
      have G1 := cell_keep (cell_keep hb HB.out) hbx
      have G2 := cell_keep (cell_keep hc HB.out) hbx
      have HW := Lib.hid hW; have HG := Lib.hid hg
      clear hW hg hbx
      cases o
      · go_upto_region 5 with fail
        rw [HW.out, HG.out]
        go_wp2_with (go_at_call 66; refine (cbehind_any _ _ _ x1 x2 x3 _ _ G0 G1 G2).mono ?_; rintro e w1 ⟨rfl, hb1⟩; rw [HO.out]; replace HOWN := Lib.hid (ownsRow_belowB HOWN.out hb1); replace B := Lib.hid (below_step B.out hb1); clear hb1)
        go_roundw
        case rel => exact ⟨k + 1, m, by omega, by omega, by go_num, Lib.hid (by rw [HF.out]; simp; exact HM.out), Lib.hid (by rw [HF.out]; simp only [Bool.false_eq_true, if_false, List.append_nil]; exact HOWN.out), B⟩
        case measure => simp [intOf]; omega
      · go_upto_region 5 with fail
        rw [HW.out, HG.out]
        go_wp2_with (first
          | (go_at_call 66; refine (cbehind_any _ _ _ x1 x2 x3 _ _ G0 G1 G2).mono ?_; rintro e w1 ⟨rfl, hb1⟩; rw [HO.out]; replace d0 := cell_keep d0 hb1; replace d1 := cell_keep d1 hb1; replace d2 := cell_keep d2 hb1; replace HOWN := Lib.hid (ownsRow_belowB HOWN.out hb1); replace B := Lib.hid (below_step B.out hb1); clear hb1)
          | (at_builtin; refine wpList_append_new rfl _ _ 22 rfl w.heap.size 43 (.agg #[.int .i64 0, .int .i64 0, .int .i64 0]) 3 24 Try.underlying22 Try.info_edge rfl (by decide) _ m _ rfl HOWN.out [.int .i64 y1, .int .i64 y2, .int .i64 y3] rfl rfl rfl (by omega) (by unfold maxLen; omega) B.out.size ?_; intro v' w2 hown2 hb2; have HO2 := Lib.hid hown2; replace B := Lib.hid (B.out.trans hb2.toBelow); clear hown2 hb2))
        go_roundw
        case rel => exact ⟨k + 1, m + 1, by omega, by omega, by go_num, Lib.hid (by rw [HF.out]; simp; exact HM.out), Lib.hid (by rw [HF.out]; simp only [if_true]; rw [edC_snoc]; exact HO2.out), B⟩
        case measure => simp [intOf]; omega
    · go_wp2
      go_ret
      have e : k = n := by omega
      subst e
      have hM := HM.out
      have hO := HOWN.out
      rw [List.take_of_length_le (by rw [HN.out]; exact Nat.le_refl _)] at hM hO
      rw [← hM] at hO
      exact ⟨_, rfl, hO, HB.out⟩

end Go.Proofs.Ytfkbpkjejnpaiaa
