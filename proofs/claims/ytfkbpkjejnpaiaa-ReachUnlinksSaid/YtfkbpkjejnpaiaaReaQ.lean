/- The document's Minus, Same; no more of a graph than is looked at. -/
import Derived.Test.YtfkbpkjejnpaiaaReaI
import Derived.Test.YtfkbpkjejnpaiaaEdgI
import Derived.Test.YtfkbpkjejnpaiaaEdgJ
namespace Go.Proofs.Ytfkbpkjejnpaiaa
open Go.RowKit
set_option linter.unusedVariables false
set_option maxRecDepth 100000

set_option maxHeartbeats 1600000 in
theorem refminus_any (U V : Value) (zs S : List Int) (w : World) (h : Ints w U zs) (hv : Ints w V S) (hl : zs.length ≤ 1000000) :
    Calls Try.prog 24 #[U, V] w fun e w' => ∃ v, e = .returned v ∧ w'.ownsRow w.heap.size 3 1 v (minusI zs S).length (intZ (minusI zs S)) ∧ Below w.heap.size w w' := by
  obtain ⟨a, c, rfl, -⟩ := h.ex
  obtain ⟨n, hn⟩ : ∃ n, zs.length = n := ⟨_, rfl⟩
  rw [hn] at h hl ⊢
  obtain ⟨M, hM⟩ : ∃ M, minusI zs S = M := ⟨_, rfl⟩
  rw [hM]
  have ST := Lib.hid h; have HN := Lib.hid hn; have HV := Lib.hid hv; have HMS := Lib.hid hM
  clear h hn hv hM
  go_enter Try.func24, Try.ntmps24
  go_wp2
  go_loopw [5, 6] (fun v i wr => ∃ (k : Nat) (acc : List Int), k ≤ n ∧ i = .int .i64 k ∧ acc.length ≤ k ∧ Hid (acc = minusI (zs.take k) S) ∧ Hid (wr.ownsRow w.heap.size 3 1 v acc.length (intZ acc)) ∧ Hid (Below w.heap.size w wr)) (fun _ i _ => n - (numR i).toNat)
  case atStart => exact ⟨0, [], Nat.zero_le _, rfl, Nat.le_refl _, Lib.hid rfl, Lib.hid (World.ownsRow_nil _ _ _ _), Lib.hid (Below.refl _ _)⟩
  case round =>
    obtain ⟨k, acc, hk, rfl, hac, HA, HO, HB⟩ := hrel
    by_cases hlt : k < n
    · have hkl : k < zs.length := by rw [HN.out]; exact hlt
      obtain ⟨b0, off, rfl⟩ := ST.out.some (by omega)
      have hcell := (ST.out.belowB HB.out).cell k hlt
      have hs : minusI (zs.take (k + 1)) S = minusI (zs.take k) S ++ (if hasB S (zs.getD k 0) then [] else [zs.getD k 0]) := by rw [int_take hkl, minus_snoc]
      obtain ⟨y, hy⟩ : ∃ y, y = zs.getD k 0 := ⟨_, rfl⟩
      rw [← hy] at hcell hs
      have hhas := fun w h => refhasz_any V S y w h
      obtain ⟨o, ho⟩ : ∃ o, hasB S y = o := ⟨_, rfl⟩
      rw [ho] at hs hhas
      rw [← HA.out] at hs
      have HS := Lib.hid hs
      clear hy hs ho
      have hkb : (k : Int) < (n : Int) := by omega
      have hVr := HV.out.belowB HB.out
      have HVR := Lib.hid hVr
      clear hVr
      cases o
      · go_wp2_with (first
          | (go_at_call 27; refine (hhas _ HVR.out).mono ?_; rintro e w3 ⟨rfl, rfl⟩; clear hhas)
          | (at_builtin; refine wpList_append_new rfl _ _ 23 rfl w.heap.size 3 (.int .i64 0) 1 8 Try.underlying23 Try.info_int rfl (by decide) _ acc.length _ rfl HO.out [.int .i64 y] rfl rfl rfl (by omega) (by unfold maxLen; omega) HB.out.size ?_; intro v4 w4 hown4 hb4; have HO4 := Lib.hid hown4; have HB4 := Lib.hid (HB.out.trans hb4.toBelow); clear hown4 hb4))
        go_roundw
        case rel => exact ⟨k + 1, acc ++ [y], by omega, by go_num, by simp; omega, Lib.hid (by rw [HS.out]; rfl), Lib.hid (by rw [intZ_snoc]; simpa using HO4.out), HB4⟩
        case measure => simp [numR]; omega
      · go_wp2_with (go_at_call 27; refine (hhas _ HVR.out).mono ?_; rintro e w3 ⟨rfl, rfl⟩; clear hhas)
        go_roundw
        case rel => exact ⟨k + 1, acc, by omega, by go_num, by omega, Lib.hid (by rw [HS.out]; simp), HO, HB⟩
        case measure => simp [numR]; omega
    · go_wp2
      go_ret
      have e : k = n := by omega
      subst e
      have h4 := HA.out
      rw [List.take_of_length_le (by rw [HN.out]; exact Nat.le_refl _), HMS.out] at h4
      have h5 := HO.out
      rw [h4] at h5
      exact ⟨_, rfl, h5, HB.out⟩

set_option maxHeartbeats 1600000 in
theorem refgsame_any (U V : Value) (g h : Gr) (w : World) (hu : Gra w U g) (hv : Gra w V h) :
    Calls Try.prog 16 #[U, V] w fun e w' => e = .returned (.bool (decide (g = h))) ∧ Below w.heap.size w w' := by
  obtain ⟨a, c, b, d, rfl, u1, u2⟩ := hu.ex
  obtain ⟨a', c', b', d', rfl, v1, v2⟩ := hv.ex
  obtain ⟨W, p, q, hW, hp, hq, r0, r1, hb⟩ := boxR2 w (.slice a g.1.length c) (.slice b g.2.length d) (.slice a' h.1.length c') (.slice b' h.2.length d') 25 25
  obtain ⟨g1, g2⟩ := g
  obtain ⟨h1, h2⟩ := h
  simp only at u1 u2 v1 v2 hW r0 r1 ⊢
  obtain ⟨n1, hn1⟩ : ∃ n, g1.length = n := ⟨_, rfl⟩
  obtain ⟨n2, hn2⟩ : ∃ n, g2.length = n := ⟨_, rfl⟩
  obtain ⟨m1, hm1⟩ : ∃ n, h1.length = n := ⟨_, rfl⟩
  obtain ⟨m2, hm2⟩ : ∃ n, h2.length = n := ⟨_, rfl⟩
  rw [hn1, hn2, hm1, hm2] at hW ⊢
  rw [hn1, hn2] at r0
  rw [hm1, hm2] at r1
  rw [hn1] at u1
  rw [hn2] at u2
  rw [hm1] at v1
  rw [hm2] at v2
  obtain ⟨d0, d1, -, -⟩ := row2 r0
  obtain ⟨e0, e1, -, -⟩ := row2 r1
  have U1 := Lib.hid (u1.below hb); have U2 := Lib.hid (u2.belowB hb); have V1 := Lib.hid (v1.below hb); have V2 := Lib.hid (v2.belowB hb)
  have hdec : decide ((g1, g2) = (h1, h2)) = (decide (g1 = h1) && decide (g2 = h2)) := by by_cases x : g1 = h1 <;> by_cases y : g2 = h2 <;> simp [x, y]
  rw [hdec]
  have k1 := fun w h h' => refsame_any (.slice a n1 c) (.slice a' m1 c') g1 h1 w h h'
  have k2 := fun w h h' => refints_any (.slice b n2 d) (.slice b' m2 d') g2 h2 w h h'
  obtain ⟨o, ho⟩ : ∃ o, decide (g1 = h1) = o := ⟨_, rfl⟩
  obtain ⟨x, hx⟩ : ∃ x, decide (g2 = h2) = x := ⟨_, rfl⟩
  rw [ho] at k1
  rw [hx] at k2
  rw [ho, hx]
  have HW := Lib.hid hW; have HP := Lib.hid hp; have HQ := Lib.hid hq; have B := Lib.hid hb
  clear u1 u2 v1 v2 hu hv hW hp hq r0 r1 hb hdec ho hx hn1 hn2 hm1 hm2
  cases o
  · go_enter Try.func16, Try.ntmps16
    go_upto_region 1 with fail
    rw [HW.out, HQ.out, HP.out]
    go_wp2_with (go_at_call 36; refine (k1 _ U1.out V1.out).mono ?_; rintro e w1 ⟨rfl, hb1⟩; replace B := Lib.hid (below_step B.out hb1); clear hb1 k1)
    go_ret
    exact ⟨rfl, B.out⟩
  · go_enter Try.func16, Try.ntmps16
    go_upto_region 1 with fail
    rw [HW.out, HQ.out, HP.out]
    go_wp2_with (first
      | (go_at_call 36; refine (k1 _ U1.out V1.out).mono ?_; rintro e w1 ⟨rfl, hb1⟩; replace B := Lib.hid (below_step B.out hb1); replace d1 := cell_keep d1 hb1; replace e1 := cell_keep e1 hb1; replace U2 := Lib.hid (U2.out.belowB hb1); replace V2 := Lib.hid (V2.out.belowB hb1); clear hb1 k1)
      | (go_at_call 23; refine (k2 _ U2.out V2.out).mono ?_; rintro e w2 ⟨rfl, hb1⟩; replace B := Lib.hid (below_step B.out hb1); clear hb1 k2))
    go_ret
    exact ⟨rfl, B.out⟩

/-- What stands elsewhere than in a box of slices. -/
theorem eds_set {w : World} {v : Value} {l : List Ed} {p i : Nat} {a b : Option Addr} {n c m d : Nat} {t : TypeId} (h : Eds w v l) (hp : w.heap[p]? = some (.cells #[.slice a n c, .slice b m d] t (0, 0))) (u : Value) : Eds (w.setCell ⟨p, i, none⟩ u) v l := by
  obtain ⟨A, C, hv, h1, h2, hn, h3⟩ := h.ex
  refine ⟨A, C, hv, h1, h2, hn, fun hl => ?_⟩
  obtain ⟨k, off, ha, hlt, hc⟩ := h3 hl
  have hne : k ≠ p := fun e => by
    have h4 := (hc 0 hl).1
    unfold World.cell? at h4
    rw [e, hp] at h4
    simp only [Option.isSome_none, Bool.false_eq_true, if_false] at h4
    match off, h4 with
    | 0, h4 => simp at h4
    | 1, h4 => simp at h4
    | off + 2, h4 => simp at h4
  have hk : ∀ j, (w.setCell ⟨p, i, none⟩ u).cell? ⟨k, j, none⟩ = w.cell? ⟨k, j, none⟩ := fun j => World.cell?_of_block (Below.heap_setCell w ⟨p, i, none⟩ u k hne)
  exact ⟨k, off, ha, by simpa [World.setCell] using hlt, fun j hj => by rw [hk, hk, hk]; exact hc j hj⟩
theorem row2_set0 {w : World} {g : Nat} {x0 x1 : Value} {t : TypeId} (h : w.heap[g]? = some (.cells #[x0, x1] t (0, 0))) (y : Value) : (w.setCell ⟨g, 0, none⟩ y).heap[g]? = some (.cells #[y, x1] t (0, 0)) := by
  simp [World.setCell, Array.getElem?_modify, h]
theorem row2_set1 {w : World} {g : Nat} {x0 x1 : Value} {t : TypeId} (h : w.heap[g]? = some (.cells #[x0, x1] t (0, 0))) (y : Value) : (w.setCell ⟨g, 1, none⟩ y).heap[g]? = some (.cells #[x0, y] t (0, 0)) := by
  simp [World.setCell, Array.getElem?_modify, h]
theorem row_farR {w : World} {g k i : Nat} {o : Obj} (h : w.heap[k]? = some o) (hn : k ≠ g) (y : Value) : (w.setCell ⟨g, i, none⟩ y).heap[k]? = some o := by
  rw [Below.heap_setCell w ⟨g, i, none⟩ y k hn]; exact h
set_option maxHeartbeats 400000 in
theorem efewP_any (a : Option Addr) (c : Nat) (l : List Ed) (w : World) (h : Eds w (.slice a l.length c) l) :
    Calls Try.prog 10 #[.slice a l.length c] w fun e w' => e = .returned (.slice a (fewE l).length c) ∧ w' = w := by
  obtain ⟨a', c', hv, h1, h2, h3, h4⟩ := h.ex
  injection hv with x1 x2 x3
  subst x1 x3
  unfold maxLen at h2
  have hcut := fun k hk => h.cut k hk
  by_cases hl : 40 < l.length
  · have e : fewE l = l.take 40 := rfl
    have e2 : (fewE l).length = 40 := by rw [e, List.length_take]; omega
    obtain ⟨b, off, rfl, -⟩ := h4 (by omega)
    have hE := hcut 40 (by omega)
    rw [← e] at hE
    rw [e2]
    obtain ⟨n, hn⟩ : ∃ n, l.length = n := ⟨_, rfl⟩
    rw [hn] at h1 hl ⊢
    have HE := Lib.hid hE
    have hl2 : (40 : Int) < (n : Int) := by omega
    clear e e2 hE hcut h h3 h4 hn
    go_enter Try.func10, Try.ntmps10
    go_wp2
    go_ret
    exact ⟨rfl, rfl⟩
  · have e : fewE l = l := List.take_of_length_le (by omega)
    rw [e]
    have HE := Lib.hid h
    obtain ⟨n, hn⟩ : ∃ n, l.length = n := ⟨_, rfl⟩
    rw [hn] at h1 hl HE ⊢
    have hl2 : ¬ (40 : Int) < (n : Int) := by omega
    clear e hcut h h3 h4 hn
    go_enter Try.func10, Try.ntmps10
    go_wp2
    go_ret
    exact ⟨rfl, rfl⟩
theorem eds_few {w : World} {a : Option Addr} {n c : Nat} {l : List Ed} (h : Eds w (.slice a n c) l) : Eds w (.slice a (fewE l).length c) (fewE l) := by
  have hn := h.lenE.1
  by_cases hl : 40 < l.length
  · have e2 : (fewE l).length = 40 := by unfold fewE; rw [List.length_take]; omega
    rw [e2]
    exact h.cut 40 (by omega)
  · have e : fewE l = l := List.take_of_length_le (by omega)
    rw [e, hn]; exact h
/-- No more of a graph than is looked at. -/
def fewG (g : Gr) : Gr := (fewE g.1, g.2.take 60)
theorem fewG_len (g : Gr) : (fewG g).1.length ≤ 40 ∧ (fewG g).2.length ≤ 60 := ⟨fewE_len _, by unfold fewG; simp; omega⟩
set_option maxHeartbeats 1600000 in
theorem gfewP_any (a b : Option Addr) (c d : Nat) (g : Gr) (w : World) (u1 : Eds w (.slice a g.1.length c) g.1) (u2 : Ints w (.slice b g.2.length d) g.2) :
    Calls Try.prog 11 #[.agg #[.slice a g.1.length c, .slice b g.2.length d]] w fun e w' => e = .returned (.agg #[.slice a (fewG g).1.length c, .slice b (fewG g).2.length d]) ∧ Below w.heap.size w w' := by
  obtain ⟨W, p, q, hW, hp, hq, r0, r1, hb⟩ := boxR2 w (.slice a g.1.length c) (.slice b g.2.length d) (.slice none 0 0) (.slice none 0 0) 25 25
  have hwp : w.heap.size ≤ p := by omega
  have hwq : w.heap.size ≤ q := by omega
  have hpq : p ≠ q := by omega
  have kf := fun w h => efewP_any a c g.1 w h
  obtain ⟨n1, hn1⟩ : ∃ n, g.1.length = n := ⟨_, rfl⟩
  obtain ⟨n2, hn2⟩ : ∃ n, g.2.length = n := ⟨_, rfl⟩
  rw [hn1, hn2] at hW r0 ⊢
  rw [hn1] at u1 kf
  rw [hn2] at u2
  obtain ⟨d0, d1, f0, f1⟩ := row2 r0
  have hld := u2.lenE
  have hd2 : n2 ≤ d := hld.2.1
  have hdm : d ≤ maxLen := hld.2.2
  unfold maxLen at hdm
  have U1 := Lib.hid (u1.below hb); have U10 := Lib.hid u1; have U20 := Lib.hid u2; have HW := Lib.hid hW; have HP := Lib.hid hp; have HQ := Lib.hid hq; have BB := Lib.hid hb; have R0 := Lib.hid r0; have R1 := Lib.hid r1; have HN2 := Lib.hid hn2
  clear u1 u2 hb hW hp hq r0 r1 hn1 hn2 hld
  go_enter Try.func11, Try.ntmps11
  go_upto_region 1 with fail
  rw [HW.out, HQ.out, HP.out]
  go_upto_region 2 with (go_at_call 10; refine (kf _ U1.out).mono ?_; rintro e w1 ⟨rfl, rfl⟩; have HE := Lib.hid (eds_few U1.out); clear kf)
  obtain ⟨X, hX⟩ : ∃ X, w1.setCell ⟨p, 0, none⟩ (.slice a (fewE g.1).length c) = X := ⟨_, rfl⟩
  have rp := row2_set0 R0.out (.slice a (fewE g.1).length c)
  have rq := row_farR (g := p) (i := 0) R1.out (Ne.symm hpq) (.slice a (fewE g.1).length c)
  have he := eds_set (i := 0) HE.out R0.out (.slice a (fewE g.1).length c)
  have hbx := BB.out.setCell (p := ⟨p, 0, none⟩) hwp (.slice a (fewE g.1).length c)
  rw [hX] at rp rq he hbx ⊢
  have HE2 := Lib.hid he; have BX := Lib.hid hbx; have RP := Lib.hid rp; have RQ := Lib.hid rq
  clear hX he hbx d0 d1 f0 f1
  obtain ⟨k, hk⟩ : ∃ k, (fewE g.1).length = k := ⟨_, rfl⟩
  have HK : Hid ((fewG g).1.length = k) := Lib.hid hk
  rw [hk] at HE2 RP rp ⊢
  clear hk
  obtain ⟨d0, d1, f0, f1⟩ := row2 rp
  obtain ⟨e0, e1, h0, h1⟩ := row2 rq
  by_cases h60 : 60 < n2
  · have hdec : decide ((60 : Int) < (n2 : Int)) = true := by simp; omega
    have h60d : (60 : Int) ≤ (d : Int) := by omega
    go_upto_region 3 with fail
    go_upto_region 4 with fail
    obtain ⟨Y, hY⟩ : ∃ Y, X.setCell ⟨p, 1, none⟩ (.slice b 60 d) = Y := ⟨_, rfl⟩
    have rpy := row2_set1 RP.out (.slice b 60 d)
    have rqy := row_farR (g := p) (i := 1) RQ.out (Ne.symm hpq) (.slice b 60 d)
    have hey := eds_set (i := 1) HE2.out RP.out (.slice b 60 d)
    have hby := BX.out.setCell (p := ⟨p, 1, none⟩) hwp (.slice b 60 d)
    rw [hY] at rpy rqy hey hby ⊢
    have HEY := Lib.hid hey; have BY := Lib.hid hby
    clear hY hey hby d0 d1 f0 f1 e0 e1 h0 h1
    obtain ⟨d0, d1, f0, f1⟩ := row2 rpy
    obtain ⟨e0, e1, h0, h1⟩ := row2 rqy
    go_wp2
    have hbz := (BY.out.setCell (p := ⟨q, 0, none⟩) hwq (.slice a k c)).setCell (p := ⟨q, 1, none⟩) hwq (.slice b 60 d)
    have rz := row2_set rqy (.slice a k c) (.slice b 60 d)
    have hez := eds_set (i := 1) (eds_set (i := 0) HEY.out rqy (.slice a k c)) (row2_set0 rqy (.slice a k c)) (.slice b 60 d)
    refine bodyPost_ret (v := .agg #[.slice a k c, .slice b 60 d]) (results_cell_row (fn := Try.f11) (p := 2) (ty := 25) rfl _ _ q 25 #[.slice a k c, .slice b 60 d] (0, 0) _ rfl rz Try.underlying25 rfl Try.size_gra) rfl ?_
    have e2 : (fewG g).2.length = 60 := by unfold fewG; simp; rw [HN2.out]; omega
    rw [HK.out, e2]
    exact ⟨rfl, hbz⟩
  · have hdec : decide ((60 : Int) < (n2 : Int)) = false := by simp; omega
    have rqy := RQ.out
    have HEY := HE2; have BY := BX
    go_wp2
    have hbz := (BY.out.setCell (p := ⟨q, 0, none⟩) hwq (.slice a k c)).setCell (p := ⟨q, 1, none⟩) hwq (.slice b n2 d)
    have rz := row2_set rqy (.slice a k c) (.slice b n2 d)
    have hez := eds_set (i := 1) (eds_set (i := 0) HEY.out rqy (.slice a k c)) (row2_set0 rqy (.slice a k c)) (.slice b n2 d)
    refine bodyPost_ret (v := .agg #[.slice a k c, .slice b n2 d]) (results_cell_row (fn := Try.f11) (p := 2) (ty := 25) rfl _ _ q 25 #[.slice a k c, .slice b n2 d] (0, 0) _ rfl rz Try.underlying25 rfl Try.size_gra) rfl ?_
    have e2 : (fewG g).2.length = n2 := by unfold fewG; simp; rw [HN2.out]; omega
    rw [HK.out, e2]
    exact ⟨rfl, hbz⟩
theorem gra_few {w : World} {a b : Option Addr} {n c m d : Nat} {E : List Ed} {L : List Int} (h1 : Eds w (.slice a n c) E) (h2 : Ints w (.slice b m d) L) : Gra w (.agg #[.slice a (fewG (E, L)).1.length c, .slice b (fewG (E, L)).2.length d]) (fewG (E, L)) := by
  have hm := h2.lenE.1
  refine ⟨a, c, b, d, rfl, eds_few h1, ?_⟩
  by_cases hl : 60 < L.length
  · have e2 : (fewG (E, L)).2.length = 60 := by unfold fewG; simp; omega
    rw [e2]
    exact h2.cut 60 (by omega)
  · have e : L.take 60 = L := List.take_of_length_le (by omega)
    unfold fewG
    simp only
    rw [e, hm]
    exact h2
theorem gfew_any (V : Value) (g : Gr) (w : World) (h : Gra w V g) :
    Calls Try.prog 11 #[V] w fun e w' => ∃ v, e = .returned v ∧ Gra w' v (fewG g) ∧ Below w.heap.size w w' := by
  obtain ⟨a, c, b, d, rfl, u1, u2⟩ := h.ex
  exact (gfewP_any a b c d g w u1 u2).mono fun e w' ⟨he, hb⟩ => ⟨_, he, (gra_few u1 u2).below hb, hb⟩
end Go.Proofs.Ytfkbpkjejnpaiaa
