/- THE TEXTS OF LisJ LisK LisN: Which lists are build lists, a path's version, are changes the same: of the document. The paths of two lists, in order, none twice: of the document. What changes; whether a list has all of another one, no lower; which changes may be: of the document. -/
import Derived.Test.YtlbibgofhhdgoaaGreatLisI
import Derived.Test.YtlbibgofhhdgoaaGreatNodP
import Derived.Laws.CopyOwn
import Derived.BigQuiet
import Derived.Deep.QuietTactic
namespace Go.Proofs.YtlbibgofhhdgoaaGreat
open Go.RowKit Go.Maps
set_option linter.unusedVariables false
set_option maxRecDepth 100000

set_option maxHeartbeats 1600000 in
theorem reflmay_any (V : Value) (l : List Nd) (w : World) (h : Nds w V l) (hs : ∀ n ∈ l, smallN n) :
    Calls Tryz.prog 13 #[V] w fun e w' => e = .returned (.bool (okL l)) ∧ Below w.heap.size w w' := by
  obtain ⟨A, c, rfl, h1, h2, -, -⟩ := h.ex
  unfold maxLen at h2
  have kc := fun w h => refncheck_any (.slice A l.length c) l w h hs
  obtain ⟨n, hn⟩ : ∃ n, l.length = n := ⟨_, rfl⟩
  rw [hn] at h1 h kc ⊢
  have HN := Lib.hid hn; have ST := Lib.hid h; have KC := Lib.hid kc
  obtain ⟨T, hT⟩ : ∃ T, okL l = T := ⟨_, rfl⟩
  rw [hT]
  have HT := Lib.hid (show T = (checkN l && onceP l) by rw [← hT]; rfl)
  clear kc hn h hs hT
  go_enter Tryz.func13, Tryz.ntmps13
  go_wp2
  go_loopw [3] (fun i wr => ∃ k : Nat, 1 ≤ k ∧ (k ≤ n ∨ k = 1) ∧ i = .int .i64 k ∧ Hid (∀ j, j < k → chainB (fun _ => true) neP ([], []) l j = true) ∧ Hid (Below w.heap.size w wr)) (fun i _ => n - (intOf i).toNat)
  case atStart => exact ⟨1, Nat.le_refl _, .inr rfl, rfl, Lib.hid fun j hj => by rw [show j = 0 by omega]; exact once_zero, Lib.hid (Below.refl _ _)⟩
  case round =>
    obtain ⟨k, hk1, hk, rfl, HM, HB⟩ := hrel
    by_cases hlt : k < n
    · have hkl : k < l.length := by rw [HN.out]; exact hlt
      have hkb : (k : Int) < (n : Int) := by omega
      have hk0 : (1 : Int) ≤ (k : Int) := by omega
      obtain ⟨m, hm⟩ : ∃ m, k - 1 = m := ⟨_, rfl⟩
      have hkm : (k : Int) - 1 = (m : Int) := by omega
      have hmn : (m : Int) < (n : Int) := by omega
      obtain ⟨b, off, rfl, -, c0, -⟩ := (ST.out.below HB.out).at k hkl
      have d0 : wr.cell? ⟨b, off + m * 2, none⟩ = some (.string (mkB (l.getD m ([], [])).1)) := by
        obtain ⟨b', off', e, -, q, -⟩ := (ST.out.below HB.out).at m (by omega)
        cases e; exact q
      have hst := once_step (l := l) (k := k) (by omega)
      rw [hm] at hst
      obtain ⟨y, hy⟩ : ∃ y, (l.getD k ([], [])).1 = y := ⟨_, rfl⟩
      obtain ⟨x, hx⟩ : ∃ x, (l.getD m ([], [])).1 = x := ⟨_, rfl⟩
      rw [hy] at c0 hst
      rw [hx] at d0 hst
      have hpq := mk_beq y x
      obtain ⟨o, ho⟩ : ∃ o, decide (x = y) = o := ⟨_, rfl⟩
      rw [show decide (y = x) = decide (x = y) by simp only [eq_comm], ho] at hpq
      rw [ho] at hst
      have HST := Lib.hid hst; have HKL := Lib.hid hkl
      clear hst hkl hm hy hx ho
      cases o with
      | true =>
        have HNO := Lib.hid (show T = false by rw [HT.out, show onceP l = false from chain_no HKL.out HST.out]; simp)
        go_wp2_with fail
        go_quiet (fail)
        go_wp2
        go_ret
        exact ⟨by rw [HNO.out]; rfl, below_step HB.out (below_q ⟨nq, rfl⟩)⟩
      | false =>
        have HM2 : Hid (∀ j, j < k + 1 → chainB (fun _ => true) neP ([], []) l j = true) := Lib.hid fun j hj => by
          rcases Nat.lt_succ_iff_lt_or_eq.1 hj with q | rfl
          · exact HM.out j q
          · rw [HST.out]; rfl
        go_wp2_with fail
        go_quiet (fail)
        go_wp2
        go_roundw
        case rel => exact ⟨k + 1, by omega, .inl (by omega), by go_num, HM2, Lib.hid (below_step HB.out (below_q ⟨nq, rfl⟩))⟩
        case measure => simp [intOf]; omega
    · have hyes : onceP l = true := chain_yes fun j hj => HM.out j (by rw [HN.out] at hj; omega)
      have HNO := Lib.hid (show T = checkN l by rw [HT.out, hyes, Bool.and_true])
      clear hyes
      go_wp2_with (go_at_call 35; refine (KC.out _ (ST.out.below HB.out)).mono ?_; rintro e w1 ⟨rfl, hb1⟩; replace HB := Lib.hid (below_step HB.out hb1); clear hb1)
      go_ret
      exact ⟨(by rw [HNO.out]; try rfl), HB.out⟩

set_option maxHeartbeats 1600000 in
theorem refpick_any (V : Value) (l : List Nd) (p : Tx) (w : World) (h : Nds w V l) :
    Calls Tryz.prog 19 #[V, .string (mkB p)] w fun e w' => e = .returned (.string (mkB (pickL l p))) ∧ Below w.heap.size w w' := by
  obtain ⟨A, c, rfl, h1, h2, -, -⟩ := h.ex
  unfold maxLen at h2
  obtain ⟨n, hn⟩ : ∃ n, l.length = n := ⟨_, rfl⟩
  rw [hn] at h1 h ⊢
  have HN := Lib.hid hn; have ST := Lib.hid h
  obtain ⟨E, hE⟩ : ∃ E, pickL l p = E := ⟨_, rfl⟩
  rw [hE]
  have HE := Lib.hid hE
  clear hn h hE
  go_enter Tryz.func19, Tryz.ntmps19
  go_wp2
  go_loopw [5] (fun i wr => ∃ k : Nat, k ≤ n ∧ i = .int .i64 k ∧ Hid (∀ j, j < k → (l.getD j ([], [])).1 ≠ p) ∧ Hid (Below w.heap.size w wr)) (fun i _ => n - (intOf i).toNat)
  case atStart => exact ⟨0, Nat.zero_le _, rfl, Lib.hid fun j hj => absurd hj (Nat.not_lt_zero j), Lib.hid (Below.refl _ _)⟩
  case round =>
    obtain ⟨k, hk, rfl, HM, HB⟩ := hrel
    by_cases hlt : k < n
    · have hkl : k < l.length := by rw [HN.out]; exact hlt
      have hkb : (k : Int) < (n : Int) := by omega
      obtain ⟨b, off, rfl, -, c0, c1⟩ := (ST.out.below HB.out).at k hkl
      obtain ⟨y, hy⟩ : ∃ y, l.getD k ([], []) = y := ⟨_, rfl⟩
      rw [hy] at c0 c1
      obtain ⟨y1, y2⟩ := y
      simp only at c0 c1
      have hpq := mk_beq y1 p
      obtain ⟨o, hoq⟩ : ∃ o, decide (y1 = p) = o := ⟨_, rfl⟩
      rw [hoq] at hpq
      have HY := Lib.hid hy; have HKL := Lib.hid hkl; have HOQ := Lib.hid hoq
      clear hy hkl hoq
      cases o with
      | true =>
        have he : y1 = p := of_decide_eq_true HOQ.out
        have hpk : pickL l p = y2 := by
          have := pick_hit HKL.out (fun j hj => by rw [HY.out]; show _ ≠ y1; rw [he]; exact HM.out j hj)
          rw [HY.out] at this
          rw [← he]; exact this
        have HE2 := Lib.hid (show E = y2 by rw [← HE.out, hpk])
        clear he hpk
        go_wp2
        go_ret
        exact ⟨(by rw [HE2.out]; try rfl), HB.out⟩
      | false =>
        have HM2 : Hid (∀ j, j < k + 1 → (l.getD j ([], [])).1 ≠ p) := Lib.hid fun j hj => by
          rcases Nat.lt_succ_iff_lt_or_eq.1 hj with q | rfl
          · exact HM.out j q
          · rw [HY.out]; exact of_decide_eq_false HOQ.out
        go_wp2
        go_roundw
        case rel => exact ⟨k + 1, by omega, by go_num, HM2, HB⟩
        case measure => simp [intOf]; omega
    · have e : k = n := by omega
      subst e
      have hno : pickL l p = [] := pick_none fun m hm => by
        obtain ⟨j, hj, rfl⟩ := List.getElem_of_mem hm
        have := HM.out j (by rw [← HN.out]; exact hj)
        rwa [gd_at hj] at this
      have HE2 := Lib.hid (show E = [] by rw [← HE.out, hno])
      clear hno
      go_wp2
      go_ret
      exact ⟨by rw [HE2.out]; rfl, HB.out⟩

set_option maxHeartbeats 1600000 in
theorem chsame_any (U V : Value) (ns ms : List Ch) (w : World) (hu : Chs w U ns) (hv : Chs w V ms) :
    Calls Tryz.prog 25 #[U, V] w fun e w' => e = .returned (.bool (decide (ns = ms))) ∧ Below w.heap.size w w' := by
  obtain ⟨a, c, rfl, h1, h2, -, -⟩ := hu.ex
  obtain ⟨a', c', rfl, h1', h2', -, -⟩ := hv.ex
  unfold maxLen at h2 h2'
  obtain ⟨n, hn⟩ : ∃ n, ns.length = n := ⟨_, rfl⟩
  obtain ⟨m, hm⟩ : ∃ m, ms.length = m := ⟨_, rfl⟩
  rw [hn] at h1 hu ⊢
  rw [hm] at h1' hv ⊢
  obtain ⟨R, hR⟩ : ∃ R, decide (ns = ms) = R := ⟨_, rfl⟩
  rw [hR]
  have HN := Lib.hid hn; have HM := Lib.hid hm; have SU := Lib.hid hu; have SV := Lib.hid hv; have HR := Lib.hid hR
  clear hu hv hn hm hR
  by_cases hl : n = m
  · subst hl
    have h0 : ((n : Int) != (n : Int)) = false := by simp
    go_enter Tryz.func25, Tryz.ntmps25
    go_wp2
    go_loopw [5] (fun i wr => ∃ k q : Nat, k ≤ n ∧ i = .int .i64 k ∧ wr = w.drewN q ∧ Hid (ns.take k = ms.take k)) (fun i _ => n - (intOf i).toNat)
    case atStart => exact ⟨0, 0, Nat.zero_le _, rfl, rfl, Lib.hid (by simp)⟩
    case round =>
      obtain ⟨k, q, hk, rfl, rfl, H⟩ := hrel
      by_cases hlt : k < n
      · have hkl : k < ns.length := by rw [HN.out]; exact hlt
        have hkm : k < ms.length := by rw [HM.out]; exact hlt
        obtain ⟨Wq, hWq⟩ : ∃ Wq, w.drewN q = Wq := ⟨_, rfl⟩
        have hbq : Below w.heap.size w Wq := by rw [← hWq]; exact below_q ⟨q, rfl⟩
        obtain ⟨b, off, rfl, -, hc0, hc1, hc2⟩ := (SU.out.below hbq).at k hkl
        obtain ⟨b', off', rfl, -, hd0, hd1, hd2⟩ := (SV.out.below hbq).at k hkm
        obtain ⟨x, hx⟩ : ∃ x, x = ns.getD k zC := ⟨_, rfl⟩
        obtain ⟨y, hy⟩ : ∃ y, y = ms.getD k zC := ⟨_, rfl⟩
        rw [← hx] at hc0 hc1 hc2
        rw [← hy] at hd0 hd1 hd2
        have e1 : ns.take (k + 1) = ns.take k ++ [x] := by rw [List.take_succ_eq_append_getElem hkl, hx, gd_at hkl]
        have e2 : ms.take (k + 1) = ms.take k ++ [y] := by rw [List.take_succ_eq_append_getElem hkm, hy, gd_at hkm]
        obtain ⟨x1, x2, x3⟩ := x
        obtain ⟨y1, y2, y3⟩ := y
        simp only at hc0 hc1 hc2 hd0 hd1 hd2
        rw [hWq]
        have HWq := Lib.hid hWq; have E1 := Lib.hid e1; have E2 := Lib.hid e2; clear hx hy hbq hWq e1 e2
        have hgd := guard_ch
        have heq := neq_ch x1 x2 x3 y1 y2 y3
        obtain ⟨o, ho⟩ : ∃ o, decide ((x1, x2, x3) = (y1, y2, y3)) = o := ⟨_, rfl⟩
        rw [ho] at heq
        have HO := Lib.hid ho; clear ho
        have hkb : (k : Int) < (n : Int) := by omega
        cases o
        · simp only [Bool.not_false] at heq
          go_wp2_with fail
          go_quiet (fail)
          go_wp2
          go_ret
          refine ⟨?_, below_step (below_q ⟨q, HWq.out.symm⟩) (below_q ⟨nq, rfl⟩)⟩
          rw [← HR.out, decide_eq_false fun e => ?_]
          · rfl
          · have h5 := E1.out
            rw [e, E2.out] at h5
            have h6 := List.append_inj_right' h5 rfl
            simp only [List.cons.injEq, and_true] at h6
            have := of_decide_eq_false HO.out
            exact this h6.symm
        · simp only [Bool.not_true] at heq
          go_wp2_with fail
          go_quiet (fail)
          go_wp2
          have H5 : Hid (ns.take (k + 1) = ms.take (k + 1)) := Lib.hid (by rw [E1.out, E2.out, H.out, of_decide_eq_true HO.out])
          go_roundw
          case rel => exact ⟨k + 1, q + nq, by omega, by go_num, by rw [← HWq.out, World.drewN_drewN], H5⟩
          case measure => simp [intOf]; omega
      · have e : k = n := by omega
        subst e
        have h5 := H.out
        rw [List.take_of_length_le (by rw [HN.out]; exact Nat.le_refl _), List.take_of_length_le (by rw [HM.out]; exact Nat.le_refl _)] at h5
        have HS := Lib.hid h5; clear h5
        go_wp2
        go_ret
        exact ⟨by rw [← HR.out, decide_eq_true HS.out]; rfl, below_q ⟨q, rfl⟩⟩
  · have h0 : ((n : Int) != (m : Int)) = true := by simp; omega
    have HS := Lib.hid (show R = false by rw [← HR.out]; exact decide_eq_false fun e => hl (by rw [← HN.out, ← HM.out, e]))
    go_enter Tryz.func25, Tryz.ntmps25
    go_wp2
    go_ret
    exact ⟨by rw [HS.out]; rfl, by first | exact Below.refl _ _ | exact below_q ⟨1, rfl⟩⟩
end Go.Proofs.YtlbibgofhhdgoaaGreat

namespace Go.Proofs.YtlbibgofhhdgoaaGreat
open Go.RowKit Go.Maps
set_option linter.unusedVariables false
set_option maxRecDepth 100000

/-! ### Plain facts -/
theorem ins_at {K : List Tx} {y : Tx} {k : Nat} (hk : k ≤ K.length) (h1 : ∀ j, j < k → ltB (K.getD j []) y = true) (h2 : ∀ j, k ≤ j → j < K.length → ltB y (K.getD j []) = true) : insT K y = K.take k ++ y :: K.drop k := by
  have c := cut_ahead (z := ([] : Tx)) (f := fun x => ltB x y) hk h1 (fun t h3 h4 => ltB_asym (h2 t h3 h4))
  unfold insT
  rw [c.1]
  congr 2
  rw [← c.2]
  refine List.filter_congr fun x hx => ?_
  obtain ⟨j, hj, rfl⟩ := List.getElem_of_mem hx
  rcases Nat.lt_or_ge j k with q | q
  · have := h1 j q
    rw [gd_at hj] at this
    rw [this, ltB_asym this]; rfl
  · have := h2 j q hj
    rw [gd_at hj] at this
    rw [this, ltB_asym this]; rfl
theorem rise_up {K : List Tx} {y : Tx} {k : Nat} (hr : RiseT K) (hk : k < K.length) (h : ltB y (K.getD k []) = true) : ∀ j, k ≤ j → j < K.length → ltB y (K.getD j []) = true := fun j h1 h2 => by
  rcases Nat.lt_or_ge k j with q | q
  · rw [gd_at h2]
    rw [gd_at hk] at h
    exact ltB_trans _ _ _ h (List.pairwise_iff_getElem.1 hr k j hk h2 q)
  · have : j = k := by omega
    subst this; exact h
theorem put_thereT {O : List Tx} {x : Tx} {k : Nat} (hk : k ≤ O.length) : ((O ++ [[]]).take (k + 1) ++ O.drop k).set k x = O.take k ++ x :: O.drop k := by
  have h1 : ((O ++ [[]]).take (k + 1)) = O.take k ++ [(O ++ [[]]).getD k []] := by
    rw [List.take_succ_eq_append_getElem (by simp; omega), List.take_append_of_le_length hk]
    simp [List.getD_eq_getElem?_getD, List.getElem?_eq_getElem (show k < (O ++ [([] : Tx)]).length by simp; omega)]
  rw [h1, List.append_assoc, List.singleton_append, List.set_append_right _ _ (by rw [List.length_take]; omega), List.length_take, Nat.min_eq_left hk, Nat.sub_self]
  rfl
theorem nds_row0T (w : World) : (w.alloc (.cells #[] 55)).ownsRow w.heap.size 55 2 (.slice (some ⟨w.heap.size, 0, none⟩) 0 0) 0 [] :=
  ⟨rfl, .inr ⟨w.heap.size, 0, #[], rfl, Nat.le_refl _, heap_alloc_new _ _, Nat.le_refl _, Nat.zero_le _, rfl, rfl⟩⟩

/-! ### In memory -/
/-- A row of the call's own, but for its last one. -/
theorem row_shortT {w : World} {base : Nat} {e : TypeId} {v : Value} {t : Nat} {xs : List Value} {x : Value} (h : w.ownsRow base e 1 v (t + 1) (xs ++ [x])) (hx : xs.length = t) : ∃ g c, v = .slice (some ⟨g, 0, none⟩) (t + 1) c ∧ w.cell? ⟨g, t, none⟩ = some x ∧ t + 1 ≤ c ∧ w.ownsRow base e 1 (.slice (some ⟨g, 0, none⟩) t c) t xs := by
  have hcell := fun g c (e : v = .slice (some ⟨g, 0, none⟩) (t + 1) c) => (by subst e; exact h.cellAt t (by omega) : w.cell? ⟨g, t, none⟩ = (xs ++ [x])[t]?)
  obtain ⟨h1, h0 | ⟨g, c, cur, hv, h2, h3, h4, h5, h6, h7⟩⟩ := h
  · exact absurd h0.2 (by omega)
  · refine ⟨g, c, hv, ?_, h4, by omega, .inr ⟨g, c, cur, rfl, h2, h3, by omega, h5, h6, ?_⟩⟩
    · rw [hcell g c hv, ← hx]; simp
    · have : cur.toList.take (t * 1) = (cur.toList.take ((t + 1) * 1)).take (t * 1) := by rw [List.take_take]; congr 1; omega
      rw [this, h7, Nat.mul_one, ← hx]; simp
theorem add1T {i : Nat} {w : World} (h : i ≤ 2000000) : Sem.run Tryz.prog (binOp .add 3 (.int .i64 (i : Int)) (.int .i64 1)) w = .ok (.int .i64 ((i + 1 : Nat) : Int)) w := by
  have e : IntKind.i64.wrap ((i : Int) + 1) = ((i + 1 : Nat) : Int) := by rw [IntKind.wrap_i64]; omega
  go_simp
/-- A row in a block that is known. -/
def rowVT (g c N n : Nat) (xs : List Value) : World → Value → Option Nat → Prop := fun w v ob => v = .slice (some ⟨g, 0, none⟩) n c ∧ ob = some g ∧ w.ownsRow N 9 1 v n xs
theorem rowVT_near {g c N n : Nat} {xs : List Value} : ∀ (w w' : World) (v : Value) (ob : Option Nat), (∀ b, ob = some b → w'.heap[b]? = w.heap[b]?) → rowVT g c N n xs w v ob → rowVT g c N n xs w' v ob := by
  rintro w w' v ob hb ⟨rfl, rfl, h⟩
  exact ⟨rfl, rfl, row_heap h fun b e => hb b (by simpa [Value.ownBlock] using e)⟩
theorem row_setT {w : World} {N g n c k : Nat} {e : TypeId} {xs : List Value} (h : w.ownsRow N e 1 (.slice (some ⟨g, 0, none⟩) n c) n xs) (u : Value) : (w.setCell ⟨g, k, none⟩ u).ownsRow N e 1 (.slice (some ⟨g, 0, none⟩) n c) n (xs.set k u) := by
  obtain ⟨h1, h0 | ⟨g', c', cur, hv, h2, h3, h4, h5, h6, h7⟩⟩ := h
  · cases h0.1
  · cases hv
    refine ⟨by simpa using h1, .inr ⟨g, c, cur.setIfInBounds k u, rfl, h2, ?_, h4, h5, by simpa using h6, ?_⟩⟩
    · simp [World.setCell, Array.getElem?_modify, h3]
    · rw [Array.toList_setIfInBounds, List.take_set, h7]
theorem row_cellT {w : World} {N g n c k : Nat} {e : TypeId} {l : List Tx} (h : w.ownsRow N e 1 (.slice (some ⟨g, 0, none⟩) n c) n (strC l)) (hk : k < n) : w.cell? ⟨g, k, none⟩ = some (.string (mkB (l.getD k []))) ∧ w.frozen? ⟨g, k, none⟩ = false ∧ n ≤ c := by
  have hl : l.length = n := by have := h.1; rw [strC_len] at this; omega
  have h3 := h.cellAt k (by omega)
  obtain ⟨-, h0 | ⟨g', c', cur, hv, -, hh, h4, -⟩⟩ := h
  · cases h0.1
  · cases hv
    refine ⟨?_, by simp [World.frozen?, hh], h4⟩
    rw [h3, strC, List.getElem?_map, List.getD_eq_getElem?_getD, List.getElem?_eq_getElem (show k < l.length by omega)]; rfl
theorem row_headT {w : World} {N n c : Nat} {A : Option Addr} {e : TypeId} {size : Nat} {xs : List Value} (h : w.ownsRow N e size (.slice A n c) n xs) (hn : 0 < n) : ∃ g, A = some ⟨g, 0, none⟩ := by
  obtain ⟨_, h1 | ⟨g, c', cur, hv, -⟩⟩ := h
  · exact absurd h1.2 (by omega)
  · cases hv; exact ⟨g, rfl⟩
theorem bin_lssL {k n : Nat} {b : Bool} {w : World} (h : decide (k < n) = b) : Sem.run Tryz.prog (binOp .lss 3 (.int .i64 (k : Int)) (.int .i64 (n : Int))) w = .ok (.bool b) w := by
  have e : decide ((k : Int) < (n : Int)) = b := by rw [← h]; simp
  subst e; go_simp
theorem bin_ltzL {x : Int} {b : Bool} {w : World} (h : decide (x < 0) = b) : Sem.run Tryz.prog (binOp .lss 3 (.int .i64 x) (.int .i64 0)) w = .ok (.bool b) w := by
  subst h; go_simp
theorem idx_st0 {w : World} {g n c k : Nat} (h : k < n) : (Instr.indexAt 61 (.slice (some ⟨g, 0, none⟩) n c) (.int .i64 (k : Int))).run Tryz.prog w = .ok (.pointer (some ⟨g, k, none⟩)) w := by
  have h2 := idx_stsT (b := g) (off := 0) (n := n) (c := c) (k := k) (w := w) h
  rw [Nat.zero_add] at h2; exact h2
section
variable {P : Program} {a : Act} {w : World} {o : Oper}
theorem ex_backT {t : TypeId} {x y : Operand} {vx vy v : Value} (hop : o.op = .slice t x (some y) none none) (hx : a.eval x = vx) (hy : a.eval y = vy) (hr : Sem.run P (Instr.sliceAt t vx (some vy) none none) w = .ok v w) : Sem.run P (execOp a.eval o) w = .ok (.value v) w := by
  simp only [execOp, hop, Option.map, hx, hy]
  simp [hr]
end
section
variable {ops : Array Oper} {Q : Exit → Act → World → Prop} {a : Act} {w w0 : World} {who : Nat → Nat} {i B r ro : Nat} {o : Oper}
/-- 'copy(out[k+1:], out[k:])'. -/
theorem rol_copyT (ho : ops[i]? = some o) (hw : Region.wanted o (yielded ops a.tmps) = true) {s : Nat} (hd : o.dst = some s) {x y : Operand} (hop : o.op = .call { callee := .builtin .copy, args := #[x, y], argTypes := #[61, 61] }) {g n k c N t : Nat} {O : List Tx}
    (hx : a.eval x = sliced (some ⟨g, 0, none⟩) (k + 1) (n + 1) c 1) (hy : a.eval y = sliced (some ⟨g, 0, none⟩) k (n + 1) c 1) (hk : k ≤ n) (hO : O.length = n) (hne : s ≠ t) (h : (RLeaf.mem t (rowVT g c N (n + 1) (strC (O ++ [[]])))).holds r a w who) (hb : Below B w0 w) (hB : B ≤ g) :
    wpOp Tryz.prog ops Q i (RPost ops i r r (.mem t (rowVT g c N (n + 1) (strC ((O ++ [[]]).take (k + 1) ++ O.drop k)))) B w0 a w who) a w := by
  obtain ⟨v, ob, hv, hob, rfl, rfl, hrow⟩ := h
  have hg := hob g rfl
  have hrow0 := hrow
  obtain ⟨h1, h0 | ⟨g', c', cur, hvv, hN, hh, hle, hcm, hsz, htk⟩⟩ := hrow
  · cases h0.1
  cases hvv
  have hsize : ((Tryz.prog.info? 9).map (·.size)) = some 1 := by kernel_rfl
  have hl0 : (strC (O ++ [[]])).length = n + 1 := by simp [strC, hO]
  by_cases hkn : k = n
  · subst hkn
    have e : (O ++ [[]]).take (k + 1) ++ O.drop k = O ++ [[]] := by rw [List.take_of_length_le (by simp [hO]), List.drop_eq_nil_of_le (by omega), List.append_nil]
    rw [e]
    unfold sliced at hx hy
    obtain ⟨A1, hA1⟩ : ∃ A1, (if c = k + 1 then some (⟨g, 0, none⟩ : Addr) else Option.map (fun x : Addr => x.add ((k + 1) * 1)) (some ⟨g, 0, none⟩)) = A1 := ⟨_, rfl⟩
    obtain ⟨A2, hA2⟩ : ∃ A2, (if c = k then some (⟨g, 0, none⟩ : Addr) else Option.map (fun x : Addr => x.add (k * 1)) (some ⟨g, 0, none⟩)) = A2 := ⟨_, rfl⟩
    rw [hA1] at hx
    rw [hA2] at hy
    have hrun := run_copy_none (P := Tryz.prog) w 61 61 o.type 9 A1 A2 (k + 1 - (k + 1)) (c - (k + 1)) (k + 1 - k) (c - k) Tryz.underlying61 hsize (by simp)
    have hr : Sem.run Tryz.prog (execOp a.eval o) w = .ok (.value (goInt 0)) w := by
      have e1 : k + 1 - k = 1 := by omega
      simp only [Nat.sub_self, e1] at hx hy hrun
      simp [execOp, hop, resolve, invoke, builtin, hx, hy, hrun, Result.andThen]
    refine rol_wp ho hw ?_
    unfold Oper.wp
    rw [hr, Oper.upon_value, hd]
    exact ⟨⟨_, by rw [dst_of ho, hd]⟩, hb, who, RKeep.same _ _ _, _, some g, by rw [put_other (by simpa using hne)]; exact hv, hob, rfl, rfl, hrow0⟩
  · have hc1 : c ≠ k + 1 := by omega
    have hc2 : c ≠ k := by omega
    have ha1 : (⟨g, 0, none⟩ : Addr).add ((k + 1) * 1) = ⟨g, k + 1, none⟩ := by rw [addr_add]; simp
    have ha2 : (⟨g, 0, none⟩ : Addr).add (k * 1) = ⟨g, k, none⟩ := by rw [addr_add]; simp
    have hcl : (strC (O.drop k)).length = n - k := by simp [strC, hO]
    have hsrc : ∀ j u, (strC (O.drop k))[j]? = some u → w.cell? ((⟨g, k, none⟩ : Addr).add j) = some u := fun j u hu => by
      have hj : j < n - k := by have := (List.getElem?_eq_some_iff.1 hu).1; rw [hcl] at this; exact this
      rw [addr_add, hrow0.cellAt (k + j) (by omega), ← hu, strC, strC, List.getElem?_map, List.getElem?_map, List.getElem?_append_left (show k + j < O.length by omega), List.getElem?_drop]
    have hrun := run_copy_row (P := Tryz.prog) w 61 61 o.type 9 g (k + 1) (n + 1 - (k + 1)) (c - (k + 1)) ⟨g, k, none⟩ (n + 1 - k) (c - k) cur 9 (strC (O.drop k)) Tryz.underlying61 hsize hh (hcl.trans ((show n - k = n + 1 - (k + 1) by omega).trans (Nat.min_eq_right (show n + 1 - (k + 1) ≤ n + 1 - k by omega)).symm)) hsrc (by rw [hcl, hsz]; omega) (fun u hu => by obtain ⟨z, _, rfl⟩ := List.mem_map.1 hu; rfl)
    unfold sliced at hx hy
    rw [if_neg hc1, Option.map_some, ha1] at hx
    rw [if_neg hc2, Option.map_some, ha2] at hy
    obtain ⟨new, hnew⟩ : ∃ new, (cur.toList.take (k + 1) ++ strC (O.drop k) ++ cur.toList.drop (k + 1 + (strC (O.drop k)).length)).toArray = new := ⟨_, rfl⟩
    rw [hnew] at hrun
    have hr : Sem.run Tryz.prog (execOp a.eval o) w = .ok (.value (goInt (strC (O.drop k)).length)) (w.setRow g new) := by
      simp only [show n + 1 - (k + 1) = n - k by omega] at hx hrun
      simp [execOp, hop, resolve, invoke, builtin, hx, hy, hrun, Result.andThen]
    have hgl := (Array.getElem?_eq_some_iff.1 hh).1
    have hnh := setRow_heap w g cur new 9 (0, 0) hh
    have htk2 : cur.toList.take (k + 1) = strC ((O ++ [[]]).take (k + 1)) := by
      have : cur.toList.take (k + 1) = (cur.toList.take ((n + 1) * 1)).take (k + 1) := by rw [List.take_take]; congr 1; omega
      rw [this, htk, strC, strC, List.map_take]
    have hcs : cur.toList.length = c := by simpa using hsz
    refine rol_wp ho hw ?_
    unfold Oper.wp
    rw [hr, Oper.upon_value, hd]
    refine ⟨⟨_, by rw [dst_of ho, hd]⟩, below_setRow hb hB _, who, ⟨fun j _ hj => setRow_other w g j _ (fun e => hj (by rw [e]; exact hg.2)), fun _ _ => rfl, by simp [World.setRow]⟩, _, some g, by rw [put_other (by simpa using hne)]; exact hv, fun b e => ?_, rfl, rfl, ?_⟩
    · cases e; exact ⟨by simp [World.setRow]; exact hgl, hg.2⟩
    · refine ⟨by simp [strC, hO]; omega, .inr ⟨g, c, new, rfl, hN, hnh, hle, hcm, ?_, ?_⟩⟩
      · rw [← hnew]; simp [strC, hO, hcs]; omega
      · rw [← hnew, List.toList_toArray, htk2, ← strC_app, List.take_append_of_le_length (by simp [strC, hO]; omega)]
        exact List.take_of_length_le (by simp [strC, hO]; omega)
end


set_option maxHeartbeats 6400000 in
theorem refpaths_any (U V : Value) (a b : List Nd) (w : World) (hU : Nds w U a) (hV : Nds w V b) (la : a.length ≤ 100000) (lb : b.length ≤ 100000) (sa : ∀ n ∈ a, smallN n) (sb : ∀ n ∈ b, smallN n) :
    Calls Tryz.prog 48 #[U, V] w fun e w' => ∃ x, e = .returned x ∧ w'.ownsRow w.heap.size 9 1 x (pathsL a b).length (strC (pathsL a b)) ∧ Below w.heap.size w w' := by
  obtain ⟨A, c, rfl, h1, h2, -, -⟩ := hU.ex
  obtain ⟨A', c', rfl, h1', h2', -, -⟩ := hV.ex
  unfold maxLen at h2 h2'
  obtain ⟨n, hn⟩ : ∃ n, a.length = n := ⟨_, rfl⟩
  obtain ⟨m, hm⟩ : ∃ m, b.length = m := ⟨_, rfl⟩
  have hpl : pathsL a b = setT ((a ++ b).map (·.1)) := by unfold pathsL; rw [List.map_append]
  obtain ⟨D, hD⟩ : ∃ D, pathsL a b = D := ⟨_, rfl⟩
  rw [hD] at hpl ⊢
  have hab : (a ++ b).length = n + m := by rw [List.length_append, hn, hm]
  have hsab : ∀ x ∈ a ++ b, smallN x := fun x hx => (List.mem_append.1 hx).elim (sa x) (sb x)
  rw [hn] at h1 hU la ⊢
  rw [hm] at h1' hV lb ⊢
  have SU := Lib.hid hU; have SV := Lib.hid hV; have HA := Lib.hid hn; have HB0 := Lib.hid hm; have HAB := Lib.hid hab; have HD := Lib.hid hpl
  obtain ⟨L, hL⟩ : ∃ L, a ++ b = L := ⟨_, rfl⟩
  obtain ⟨s, hs⟩ : ∃ s, n + m = s := ⟨_, rfl⟩
  have HL := Lib.hid hL; have HS := Lib.hid hs; have SS := Lib.hid (show ∀ x ∈ L, smallN x by rw [← hL]; exact hsab)
  have hsb : s ≤ 200000 := by omega
  clear hU hV hn hm hab hpl hD hL sa sb hsab
  have e1 : ∀ args w, (callFunc 45 args).run Tryz.prog w = .ok (.enter 45 args) w := enters_of Tryz.func45 (by kernel_rfl) rfl
  go_enter Tryz.func48, Tryz.ntmps48
  have HO0 := Lib.hid (nds_row0T w); have BX : Hid (Below w.heap.size w (w.alloc (.cells #[] 55))) := Lib.hid ((Below.refl _ _).alloc (Nat.le_refl _) _)
  go_upto_region 3 with (first
    | (at_builtin; refine wpList_append_src rfl _ _ 22 rfl w.heap.size 55 (.agg #[.string ByteArray.empty, .string ByteArray.empty]) 2 32 Tryz.underlying22 Tryz.info_node rfl (by decide) _ 0 [] rfl HO0.out A n c (ndsC a) rfl (by rw [ndsC_len, HA.out]) (SU.out.below BX.out).nil (SU.out.below BX.out).src (ndsC_one _) (by omega) (by unfold maxLen; omega) BX.out.size ?_; intro v2 w2 ho1 hb1; rw [Nat.zero_add, List.nil_append] at ho1; have HO1 := Lib.hid ho1; have B1 := Lib.hid (BX.out.trans hb1.toBelow); clear ho1 hb1 HO0)
    | (at_builtin; refine wpList_append_src rfl _ _ 22 rfl w.heap.size 55 (.agg #[.string ByteArray.empty, .string ByteArray.empty]) 2 32 Tryz.underlying22 Tryz.info_node rfl (by decide) _ n _ rfl HO1.out A' m c' (ndsC b) rfl (by rw [ndsC_len, HB0.out]) (SV.out.below B1.out).nil (SV.out.below B1.out).src (ndsC_one _) (by omega) (by unfold maxLen; omega) B1.out.size ?_; intro v3 w3 ho2 hb2; have hq2 : w3.ownsRow w.heap.size 55 2 v3 (a ++ b).length (ndsC (a ++ b)) := (by rw [HAB.out, ndsC_app]; exact ho2); obtain ⟨a2, c2, rfl, hnd⟩ := ndsO hq2; rw [HAB.out, HS.out, HL.out] at hnd; rw [HAB.out, HS.out]; have SL := Lib.hid hnd; have B2 := Lib.hid (B1.out.trans hb2.toBelow); clear ho2 hb2 hq2 hnd B1 BX HO1))
  obtain ⟨hSl1, hSl2, hSl3⟩ := SL.out.lenE
  unfold maxLen at hSl3
  have HLS := Lib.hid hSl1
  obtain ⟨wb, hwb⟩ : ∃ v, v = w3 := ⟨_, rfl⟩
  subst hwb
  obtain ⟨NB, hNB⟩ : ∃ N, wb.heap.size = N := ⟨_, rfl⟩
  have HNB := Lib.hid hNB
  clear hSl1 hNB
  go_wp2
  go_loopw [5, 7] (fun v i wr => ∃ (k : Nat) (K : List Tx) (q : Nat), k ≤ s ∧ i = .int .i64 k ∧ Hid (K = setT ((L.take k).map (·.1))) ∧ Hid (K.length = q) ∧ q ≤ k ∧ Hid (wr.ownsRow NB 9 1 v q (strC K)) ∧ Hid (Below NB wb wr)) (fun _ i _ => s - (intOf i).toNat)
  case atStart => exact ⟨0, [], 0, Nat.zero_le _, rfl, Lib.hid rfl, Lib.hid rfl, Nat.le_refl _, Lib.hid (World.ownsRow_nil _ _ _ _), Lib.hid (Below.refl _ _)⟩
  case round =>
    obtain ⟨k, K, q, hk, rfl, HK, HQ, hqk, HO, HB⟩ := hrel
    by_cases hlt : k < s
    · have hkl : k < L.length := by rw [HLS.out]; exact hlt
      have hkb : (k : Int) < (s : Int) := by omega
      have hbw : Below wb.heap.size wb wr := by rw [HNB.out]; exact HB.out
      obtain ⟨bl, ol, rfl, -, c0, -⟩ := SL.out.at k hkl
      have htk : setT ((L.take (k + 1)).map (·.1)) = insT K (L.getD k ([], [])).1 := by rw [List.take_succ_eq_append_getElem hkl, List.map_append, gd_at hkl, HK.out]; exact setT_snoc _ _
      have hsy := (SS.out _ (gd_in (z := ([], [])) hkl)).1
      obtain ⟨y, hy⟩ : ∃ y, (L.getD k ([], [])).1 = y := ⟨_, rfl⟩
      rw [hy] at c0 htk hsy
      have hr : RiseT K := by rw [HK.out]; exact setT_rise _
      have hks : ∀ x ∈ K, x.length ≤ 1000000000 := fun x hx => by
        rw [HK.out, setT_mem] at hx
        obtain ⟨n0, hn0, rfl⟩ := List.mem_map.1 hx
        exact (SS.out _ (List.mem_of_mem_take hn0)).1
      obtain ⟨a3, c3, hv⟩ := own_form HO.out
      subst hv
      have CY0 := Lib.hid c0; have HTK := Lib.hid htk.symm; have HR := Lib.hid hr; have HKSM := Lib.hid hks; have HSY := Lib.hid hsy; have HKS := Lib.hid hlt
      have HNS := Lib.hid (show NB ≤ wr.heap.size by rw [← HNB.out]; exact hbw.size)
      have HBW := Lib.hid hbw
      clear htk hr hks hsy hy hkl c0 hbw
      go_wp2
      go_loopw [8] (fun v8 ws => ∃ at0 : Nat, at0 ≤ q ∧ v8 = .int .i64 at0 ∧ Hid (∀ j, j < at0 → ltB (K.getD j []) y = true) ∧ Hid (ws.ownsRow NB 9 1 (.slice a3 q c3) q (strC K)) ∧ Hid (Below NB wb ws)) (fun v8 _ => q - (intOf v8).toNat)
      case atStart => exact ⟨0, Nat.zero_le _, rfl, Lib.hid fun j hj => absurd hj (Nat.not_lt_zero j), HO, HB⟩
      case round =>
        obtain ⟨at0, hat, rfl, HM, HO5, HB5⟩ := hrel
        obtain ⟨w5, hw5⟩ : ∃ v, v = wr := ⟨_, rfl⟩
        subst hw5
        have hbw : Below wb.heap.size wb w5 := by rw [HNB.out]; exact HB5.out
        have CY := Lib.hid (cell_keep CY0.out hbw)
        have HNS5 := Lib.hid (show NB ≤ w5.heap.size by rw [← HNB.out]; exact hbw.size)
        have HNW := Lib.hid (Nat.le_refl w5.heap.size)
        clear hbw
        by_cases hlt2 : at0 < q
        · have HLT := Lib.hid (show decide (at0 < q) = true by simp [hlt2])
          have HAN := Lib.hid hlt2
          obtain ⟨g, rfl⟩ := row_headT HO5.out (by omega)
          have hcu := (row_cellT HO5.out hlt2).1
          obtain ⟨u, hu⟩ : ∃ u, K.getD at0 [] = u := ⟨_, rfl⟩
          rw [hu] at hcu
          have hus : u.length ≤ 1000000000 := by rw [← hu]; exact HKSM.out _ (gd_in (by rw [HQ.out]; exact hlt2))
          have kc := fun w => refcmp_l u y w hus HSY.out
          obtain ⟨C, hC⟩ : ∃ C, Lib.compareBytes u y = C := ⟨_, rfl⟩
          rw [hC] at kc
          have CU := Lib.hid hcu; have HU := Lib.hid hu; have KC := Lib.hid kc; have HCU := Lib.hid hC
          clear hcu hus kc hC hu
          by_cases hneg : C < 0
          · have HC := Lib.hid (show decide (C < 0) = true by simp [hneg])
            have HM2 : Hid (∀ j, j < at0 + 1 → ltB (K.getD j []) y = true) := Lib.hid fun j hj => by
              rcases Nat.lt_succ_iff_lt_or_eq.1 hj with h | rfl
              · exact HM.out j h
              · rw [HU.out, ltB_iff, HCU.out]; exact hneg
            clear hneg
            go_upto_region 7 with fail
            refine rol_run (by kernel_rfl) [[], [], [1], [0, 1, 2], [0, 1, 2, 3], [0, 1, 2, 3, 4], [0, 1, 2, 3, 4], [0, 1, 2, 3, 4, 5, 6], [0, 1, 2, 3, 4, 5, 6, 7], [0, 1, 2, 3, 4], [0, 1, 2, 3, 4], [0, 1, 2, 3, 4, 9, 10], [0, 1, 2, 3, 4, 9, 10, 11], [0, 1, 2, 3, 4, 9, 10, 11, 12], [0, 1, 2, 3, 4, 5, 6, 7, 8, 9, 10, 11, 12, 13], [0, 1, 2, 3, 4, 5, 6, 7, 8, 9, 10, 11, 12, 13, 14], [0, 1, 2, 3, 4, 5, 6, 7, 8, 9, 10, 11, 12, 13, 14, 15]] (by kernel_rfl) [21, 22, 23, 24, 25, 26, 27, 28, 29, 30, 31, 32, 33, 34, 35, 36, 37] [[], [], [1], [0, 2], [3], [4], [4], [4, 5, 6], [4, 7], [4], [4], [4, 9, 10], [4, 11], [4, 12], [4, 8, 13], [4, 14], [4, 15]] [0, 0, 0, 0, 0, 0, 0, 0, 0, 0, 0, 0, 0, 0, 0, 0, 0] [0, 0, 0, 0, 0, 0, 0, 0, 0, 0, 0, 0, 0, 0, 0, 0, 0] [1000, 1000, 1000, 1000, 1000, 1000, 1000, 1000, 1000, 1000, 1000, 1000, 1000, 1000, 1000, 1000, 1000] [.val 21 (.int .i64 (at0 : Int)), .val 22 (.slice (some ⟨g, 0, none⟩) q c3), .val 23 (.int .i64 (q : Int)), .val 24 (.bool true), .val 25 (.bool true), .val 26 (.slice (some ⟨g, 0, none⟩) q c3), .val 27 (.int .i64 (at0 : Int)), .val 28 (.pointer (some ⟨g, at0, none⟩)), .val 29 (.string (mkB u)), .val 30 (.slice (some ⟨bl, ol, none⟩) s c2), .val 31 (.int .i64 (k : Int)), .val 32 (.pointer (some ⟨bl, ol + k * 2, none⟩)), .val 33 (.pointer (some ⟨bl, ol + k * 2, none⟩)), .val 34 (.string (mkB y)), .val 35 (.int .i64 C), .val 36 (.bool true), .val 37 (.bool true)] (by kernel_rfl) ?_ (w5.heap.size) (w5.heap.size) rfl (Below.refl _ _) rfl (fun _ => 0) ?_ ?_ ?_
            · intro j hj
              have hj3 : j < 17 := hj
              have hj2 : j = 0 ∨ j = 1 ∨ j = 2 ∨ j = 3 ∨ j = 4 ∨ j = 5 ∨ j = 6 ∨ j = 7 ∨ j = 8 ∨ j = 9 ∨ j = 10 ∨ j = 11 ∨ j = 12 ∨ j = 13 ∨ j = 14 ∨ j = 15 ∨ j = 16 := by omega
              clear hj hj3
              rcases hj2 with rfl | rfl | rfl | rfl | rfl | rfl | rfl | rfl | rfl | rfl | rfl | rfl | rfl | rfl | rfl | rfl | rfl
              · exact trivial
              · exact trivial
              · exact trivial
              · exact trivial
              · exact trivial
              · exact trivial
              · exact trivial
              · exact trivial
              · exact trivial
              · exact trivial
              · exact trivial
              · exact trivial
              · exact trivial
              · exact trivial
              · exact trivial
              · exact trivial
              · exact trivial
            · intro j hj0 hj
              exact absurd hj (Nat.not_lt.2 hj0)
            · intro i hi a wx who hG hF
              have hz : a.tmps.size = 78 := hG.size
              have hi3 : i < 17 := hi
              have hi2 : i = 0 ∨ i = 1 ∨ i = 2 ∨ i = 3 ∨ i = 4 ∨ i = 5 ∨ i = 6 ∨ i = 7 ∨ i = 8 ∨ i = 9 ∨ i = 10 ∨ i = 11 ∨ i = 12 ∨ i = 13 ∨ i = 14 ∨ i = 15 ∨ i = 16 := by omega
              clear hi hi3
              rcases hi2 with rfl | rfl | rfl | rfl | rfl | rfl | rfl | rfl | rfl | rfl | rfl | rfl | rfl | rfl | rfl | rfl | rfl
              · exact rol_val rfl rfl rfl (by rw [hz]; decide) (ex_move (Or.inl rfl) (eval_slot ((hG.slots 8 (by decide)).trans rfl))) hG.below
              · exact rol_val rfl rfl rfl (by rw [hz]; decide) (ex_move (Or.inl rfl) (eval_slot ((hG.slots 5 (by decide)).trans rfl))) hG.below
              · exact rol_val rfl rfl rfl (by rw [hz]; decide) (ex_len rfl (eval_slot (hF 1 (by decide))) (by go_simp)) hG.below
              · exact rol_val rfl rfl rfl (by rw [hz]; decide) (ex_bin rfl (eval_slot (hF 0 (by decide))) (eval_slot (hF 2 (by decide))) (by go_simp) (bin_lssL HLT.out)) hG.below
              · exact rol_val rfl rfl rfl (by rw [hz]; decide) (ex_move (Or.inl rfl) (eval_slot (hF 3 (by decide)))) hG.below
              · exact rol_val rfl (want_yes rfl rfl (hF 4 (by decide))) rfl (by rw [hz]; decide) (ex_move (Or.inl rfl) (eval_slot ((hG.slots 5 (by decide)).trans rfl))) hG.below
              · exact rol_val rfl (want_yes rfl rfl (hF 4 (by decide))) rfl (by rw [hz]; decide) (ex_move (Or.inl rfl) (eval_slot ((hG.slots 8 (by decide)).trans rfl))) hG.below
              · exact rol_val rfl (want_yes rfl rfl (hF 4 (by decide))) rfl (by rw [hz]; decide) (ex_index rfl (eval_slot (hF 5 (by decide))) (eval_slot (hF 6 (by decide))) (idx_st0 HAN.out)) hG.below
              · exact rol_val rfl (want_yes rfl rfl (hF 4 (by decide))) rfl (by rw [hz]; decide) (ex_load rfl (eval_slot (hF 7 (by decide))) (ld_strT (cell_keep CU.out hG.below))) hG.below
              · exact rol_val rfl (want_yes rfl rfl (hF 4 (by decide))) rfl (by rw [hz]; decide) (ex_move (Or.inl rfl) (eval_slot ((hG.slots 6 (by decide)).trans rfl))) hG.below
              · exact rol_val rfl (want_yes rfl rfl (hF 4 (by decide))) rfl (by rw [hz]; decide) (ex_move (Or.inl rfl) (eval_slot ((hG.slots 7 (by decide)).trans rfl))) hG.below
              · exact rol_val rfl (want_yes rfl rfl (hF 4 (by decide))) rfl (by rw [hz]; decide) (ex_index rfl (eval_slot (hF 9 (by decide))) (eval_slot (hF 10 (by decide))) (idx_nds HKS.out)) hG.below
              · exact rol_val rfl (want_yes rfl rfl (hF 4 (by decide))) rfl (by rw [hz]; decide) (ex_field rfl (eval_slot (hF 11 (by decide))) (by go_simp)) hG.below
              · exact rol_val rfl (want_yes rfl rfl (hF 4 (by decide))) rfl (by rw [hz]; decide) (ex_load rfl (eval_slot (hF 12 (by decide))) (ld_strT (cell_keep CY.out hG.below))) hG.below
              · refine rol_call rfl (want_yes rfl rfl (hF 4 (by decide))) rfl (by rw [hz]; decide) (ex_call rfl (by simp [eval_slot (hF 8 (by decide)), eval_slot (hF 13 (by decide))]) e1) (KC.out wx) ?_ hG.below (Nat.le_trans HNW.out hG.new)
                rintro e w1 ⟨rfl, hb1⟩
                exact ⟨_, rfl, hb1, .inl rfl⟩
              · exact rol_val rfl (want_yes rfl rfl (hF 4 (by decide))) rfl (by rw [hz]; decide) (ex_bin rfl (eval_slot (hF 14 (by decide))) rfl (by go_simp) (bin_ltzL HC.out)) hG.below
              · exact rol_val rfl rfl rfl (by rw [hz]; decide) (ex_pick_yes rfl (eval_slot (hF 4 (by decide))) (eval_slot (hF 15 (by decide)))) hG.below
            · intro a wx who hG hF
              have fv37 : a.tmps.getD 37 undef = .bool true := eval_slot (s := 37) (hF 16 (of_decide_eq_true (by kernel_rfl)) (of_decide_eq_true (by kernel_rfl)))
              have hbx := hG.below
              have hnx := hG.new
              rw [hG.frame]
              simp only [List.foldl_cons, List.foldl_nil, List.setIfInBounds_toArray, List.set_cons_zero, List.set_cons_succ]
              generalize a.tmps.getD 21 undef = u21
              generalize a.tmps.getD 22 undef = u22
              generalize a.tmps.getD 23 undef = u23
              generalize a.tmps.getD 24 undef = u24
              generalize a.tmps.getD 25 undef = u25
              generalize a.tmps.getD 26 undef = u26
              generalize a.tmps.getD 27 undef = u27
              generalize a.tmps.getD 28 undef = u28
              generalize a.tmps.getD 29 undef = u29
              generalize a.tmps.getD 30 undef = u30
              generalize a.tmps.getD 31 undef = u31
              generalize a.tmps.getD 32 undef = u32
              generalize a.tmps.getD 33 undef = u33
              generalize a.tmps.getD 34 undef = u34
              generalize a.tmps.getD 35 undef = u35
              generalize a.tmps.getD 36 undef = u36
              rw [fv37]
              clear hF hG fv37
              have HO6 := Lib.hid (ownsRow_belowB HO5.out hbx); have HB6 := Lib.hid (HB5.out.trans (hbx.mono HNS5.out))
              clear hbx hnx
              go_wp2
              go_roundw
              case rel => exact ⟨at0 + 1, by omega, by go_num, HM2, HO6, HB6⟩
              case measure => simp [intOf]; omega
          · have HC := Lib.hid (show decide (C < 0) = false by simp [hneg])
            clear hneg
            go_upto_region 7 with fail
            refine rol_run (by kernel_rfl) [[], [], [1], [0, 1, 2], [0, 1, 2, 3], [0, 1, 2, 3, 4], [0, 1, 2, 3, 4], [0, 1, 2, 3, 4, 5, 6], [0, 1, 2, 3, 4, 5, 6, 7], [0, 1, 2, 3, 4], [0, 1, 2, 3, 4], [0, 1, 2, 3, 4, 9, 10], [0, 1, 2, 3, 4, 9, 10, 11], [0, 1, 2, 3, 4, 9, 10, 11, 12], [0, 1, 2, 3, 4, 5, 6, 7, 8, 9, 10, 11, 12, 13], [0, 1, 2, 3, 4, 5, 6, 7, 8, 9, 10, 11, 12, 13, 14], [0, 1, 2, 3, 4, 5, 6, 7, 8, 9, 10, 11, 12, 13, 14, 15]] (by kernel_rfl) [21, 22, 23, 24, 25, 26, 27, 28, 29, 30, 31, 32, 33, 34, 35, 36, 37] [[], [], [1], [0, 2], [3], [4], [4], [4, 5, 6], [4, 7], [4], [4], [4, 9, 10], [4, 11], [4, 12], [4, 8, 13], [4, 14], [4, 15]] [0, 0, 0, 0, 0, 0, 0, 0, 0, 0, 0, 0, 0, 0, 0, 0, 0] [0, 0, 0, 0, 0, 0, 0, 0, 0, 0, 0, 0, 0, 0, 0, 0, 0] [1000, 1000, 1000, 1000, 1000, 1000, 1000, 1000, 1000, 1000, 1000, 1000, 1000, 1000, 1000, 1000, 1000] [.val 21 (.int .i64 (at0 : Int)), .val 22 (.slice (some ⟨g, 0, none⟩) q c3), .val 23 (.int .i64 (q : Int)), .val 24 (.bool true), .val 25 (.bool true), .val 26 (.slice (some ⟨g, 0, none⟩) q c3), .val 27 (.int .i64 (at0 : Int)), .val 28 (.pointer (some ⟨g, at0, none⟩)), .val 29 (.string (mkB u)), .val 30 (.slice (some ⟨bl, ol, none⟩) s c2), .val 31 (.int .i64 (k : Int)), .val 32 (.pointer (some ⟨bl, ol + k * 2, none⟩)), .val 33 (.pointer (some ⟨bl, ol + k * 2, none⟩)), .val 34 (.string (mkB y)), .val 35 (.int .i64 C), .val 36 (.bool false), .val 37 (.bool false)] (by kernel_rfl) ?_ (w5.heap.size) (w5.heap.size) rfl (Below.refl _ _) rfl (fun _ => 0) ?_ ?_ ?_
            · intro j hj
              have hj3 : j < 17 := hj
              have hj2 : j = 0 ∨ j = 1 ∨ j = 2 ∨ j = 3 ∨ j = 4 ∨ j = 5 ∨ j = 6 ∨ j = 7 ∨ j = 8 ∨ j = 9 ∨ j = 10 ∨ j = 11 ∨ j = 12 ∨ j = 13 ∨ j = 14 ∨ j = 15 ∨ j = 16 := by omega
              clear hj hj3
              rcases hj2 with rfl | rfl | rfl | rfl | rfl | rfl | rfl | rfl | rfl | rfl | rfl | rfl | rfl | rfl | rfl | rfl | rfl
              · exact trivial
              · exact trivial
              · exact trivial
              · exact trivial
              · exact trivial
              · exact trivial
              · exact trivial
              · exact trivial
              · exact trivial
              · exact trivial
              · exact trivial
              · exact trivial
              · exact trivial
              · exact trivial
              · exact trivial
              · exact trivial
              · exact trivial
            · intro j hj0 hj
              exact absurd hj (Nat.not_lt.2 hj0)
            · intro i hi a wx who hG hF
              have hz : a.tmps.size = 78 := hG.size
              have hi3 : i < 17 := hi
              have hi2 : i = 0 ∨ i = 1 ∨ i = 2 ∨ i = 3 ∨ i = 4 ∨ i = 5 ∨ i = 6 ∨ i = 7 ∨ i = 8 ∨ i = 9 ∨ i = 10 ∨ i = 11 ∨ i = 12 ∨ i = 13 ∨ i = 14 ∨ i = 15 ∨ i = 16 := by omega
              clear hi hi3
              rcases hi2 with rfl | rfl | rfl | rfl | rfl | rfl | rfl | rfl | rfl | rfl | rfl | rfl | rfl | rfl | rfl | rfl | rfl
              · exact rol_val rfl rfl rfl (by rw [hz]; decide) (ex_move (Or.inl rfl) (eval_slot ((hG.slots 8 (by decide)).trans rfl))) hG.below
              · exact rol_val rfl rfl rfl (by rw [hz]; decide) (ex_move (Or.inl rfl) (eval_slot ((hG.slots 5 (by decide)).trans rfl))) hG.below
              · exact rol_val rfl rfl rfl (by rw [hz]; decide) (ex_len rfl (eval_slot (hF 1 (by decide))) (by go_simp)) hG.below
              · exact rol_val rfl rfl rfl (by rw [hz]; decide) (ex_bin rfl (eval_slot (hF 0 (by decide))) (eval_slot (hF 2 (by decide))) (by go_simp) (bin_lssL HLT.out)) hG.below
              · exact rol_val rfl rfl rfl (by rw [hz]; decide) (ex_move (Or.inl rfl) (eval_slot (hF 3 (by decide)))) hG.below
              · exact rol_val rfl (want_yes rfl rfl (hF 4 (by decide))) rfl (by rw [hz]; decide) (ex_move (Or.inl rfl) (eval_slot ((hG.slots 5 (by decide)).trans rfl))) hG.below
              · exact rol_val rfl (want_yes rfl rfl (hF 4 (by decide))) rfl (by rw [hz]; decide) (ex_move (Or.inl rfl) (eval_slot ((hG.slots 8 (by decide)).trans rfl))) hG.below
              · exact rol_val rfl (want_yes rfl rfl (hF 4 (by decide))) rfl (by rw [hz]; decide) (ex_index rfl (eval_slot (hF 5 (by decide))) (eval_slot (hF 6 (by decide))) (idx_st0 HAN.out)) hG.below
              · exact rol_val rfl (want_yes rfl rfl (hF 4 (by decide))) rfl (by rw [hz]; decide) (ex_load rfl (eval_slot (hF 7 (by decide))) (ld_strT (cell_keep CU.out hG.below))) hG.below
              · exact rol_val rfl (want_yes rfl rfl (hF 4 (by decide))) rfl (by rw [hz]; decide) (ex_move (Or.inl rfl) (eval_slot ((hG.slots 6 (by decide)).trans rfl))) hG.below
              · exact rol_val rfl (want_yes rfl rfl (hF 4 (by decide))) rfl (by rw [hz]; decide) (ex_move (Or.inl rfl) (eval_slot ((hG.slots 7 (by decide)).trans rfl))) hG.below
              · exact rol_val rfl (want_yes rfl rfl (hF 4 (by decide))) rfl (by rw [hz]; decide) (ex_index rfl (eval_slot (hF 9 (by decide))) (eval_slot (hF 10 (by decide))) (idx_nds HKS.out)) hG.below
              · exact rol_val rfl (want_yes rfl rfl (hF 4 (by decide))) rfl (by rw [hz]; decide) (ex_field rfl (eval_slot (hF 11 (by decide))) (by go_simp)) hG.below
              · exact rol_val rfl (want_yes rfl rfl (hF 4 (by decide))) rfl (by rw [hz]; decide) (ex_load rfl (eval_slot (hF 12 (by decide))) (ld_strT (cell_keep CY.out hG.below))) hG.below
              · refine rol_call rfl (want_yes rfl rfl (hF 4 (by decide))) rfl (by rw [hz]; decide) (ex_call rfl (by simp [eval_slot (hF 8 (by decide)), eval_slot (hF 13 (by decide))]) e1) (KC.out wx) ?_ hG.below (Nat.le_trans HNW.out hG.new)
                rintro e w1 ⟨rfl, hb1⟩
                exact ⟨_, rfl, hb1, .inl rfl⟩
              · exact rol_val rfl (want_yes rfl rfl (hF 4 (by decide))) rfl (by rw [hz]; decide) (ex_bin rfl (eval_slot (hF 14 (by decide))) rfl (by go_simp) (bin_ltzL HC.out)) hG.below
              · exact rol_val rfl rfl rfl (by rw [hz]; decide) (ex_pick_yes rfl (eval_slot (hF 4 (by decide))) (eval_slot (hF 15 (by decide)))) hG.below
            · intro a wx who hG hF
              have fv37 : a.tmps.getD 37 undef = .bool false := eval_slot (s := 37) (hF 16 (of_decide_eq_true (by kernel_rfl)) (of_decide_eq_true (by kernel_rfl)))
              have hbx := hG.below
              have hnx := hG.new
              rw [hG.frame]
              simp only [List.foldl_cons, List.foldl_nil, List.setIfInBounds_toArray, List.set_cons_zero, List.set_cons_succ]
              generalize a.tmps.getD 21 undef = u21
              generalize a.tmps.getD 22 undef = u22
              generalize a.tmps.getD 23 undef = u23
              generalize a.tmps.getD 24 undef = u24
              generalize a.tmps.getD 25 undef = u25
              generalize a.tmps.getD 26 undef = u26
              generalize a.tmps.getD 27 undef = u27
              generalize a.tmps.getD 28 undef = u28
              generalize a.tmps.getD 29 undef = u29
              generalize a.tmps.getD 30 undef = u30
              generalize a.tmps.getD 31 undef = u31
              generalize a.tmps.getD 32 undef = u32
              generalize a.tmps.getD 33 undef = u33
              generalize a.tmps.getD 34 undef = u34
              generalize a.tmps.getD 35 undef = u35
              generalize a.tmps.getD 36 undef = u36
              rw [fv37]
              clear hF hG fv37
              have hbr := hbx
              obtain ⟨w6, hw6⟩ : ∃ v, v = wx := ⟨_, rfl⟩
              subst hw6
              clear hbx hnx
              have HO6 := Lib.hid (ownsRow_belowB HO5.out hbr); have HB6 := Lib.hid (HB5.out.trans (hbr.mono HNS5.out)); have HNS6 := Lib.hid (Nat.le_trans HNS5.out hbr.size); replace CY := Lib.hid (cell_keep CY.out hbr)
              replace CU := Lib.hid (cell_keep CU.out hbr)
              clear hbr HO5 HB5 HNS5
              go_upto_region 9 with fail
              by_cases hey : u = y
              · have HEQ := Lib.hid (show decide (u = y) = true by simp [hey])
                have HMT := Lib.hid (show insT K y = K from insT_same HR.out (by rw [← hey, ← HU.out]; exact gd_in (by rw [HQ.out]; exact HAN.out)))
                refine rol_run (by kernel_rfl) [[], [], [1], [0, 1, 2], [0, 1, 2, 3], [0, 1, 2, 3, 4], [0, 1, 2, 3, 4], [0, 1, 2, 3, 4, 5, 6], [0, 1, 2, 3, 4, 5, 6, 7], [0, 1, 2, 3, 4], [0, 1, 2, 3, 4], [0, 1, 2, 3, 4, 9, 10], [0, 1, 2, 3, 4, 9, 10, 11], [0, 1, 2, 3, 4, 9, 10, 11, 12], [0, 1, 2, 3, 4, 5, 6, 7, 8, 9, 10, 11, 12, 13], [0, 1, 2, 3, 4, 5, 6, 7, 8, 9, 10, 11, 12, 13, 14], [0, 1, 2, 3, 4, 5, 6, 7, 8, 9, 10, 11, 12, 13, 14, 15]] (by kernel_rfl) [40, 41, 42, 43, 44, 45, 46, 47, 48, 49, 50, 51, 52, 53, 54, 55, 9] [[], [], [1], [0, 2], [3], [4], [4], [4, 5, 6], [4, 7], [4], [4], [4, 9, 10], [4, 11], [4, 12], [4, 8, 13], [4, 14], [15]] [0, 0, 0, 0, 0, 0, 0, 0, 0, 0, 0, 0, 0, 0, 0, 0, 0] [0, 0, 0, 0, 0, 0, 0, 0, 0, 0, 0, 0, 0, 0, 0, 0, 0] [1000, 1000, 1000, 1000, 1000, 1000, 1000, 1000, 1000, 1000, 1000, 1000, 1000, 1000, 1000, 1000, 1000] [.val 40 (.int .i64 (at0 : Int)), .val 41 (.slice (some ⟨g, 0, none⟩) q c3), .val 42 (.int .i64 (q : Int)), .val 43 (.bool true), .val 44 (.bool true), .val 45 (.slice (some ⟨g, 0, none⟩) q c3), .val 46 (.int .i64 (at0 : Int)), .val 47 (.pointer (some ⟨g, at0, none⟩)), .val 48 (.string (mkB u)), .val 49 (.slice (some ⟨bl, ol, none⟩) s c2), .val 50 (.int .i64 (k : Int)), .val 51 (.pointer (some ⟨bl, ol + k * 2, none⟩)), .val 52 (.pointer (some ⟨bl, ol + k * 2, none⟩)), .val 53 (.string (mkB y)), .val 54 (.bool true), .val 55 (.bool true), .val 9 (.bool true)] (by kernel_rfl) ?_ (w6.heap.size) (w6.heap.size) rfl (Below.refl _ _) rfl (fun _ => 0) ?_ ?_ ?_
                · intro j hj
                  have hj3 : j < 17 := hj
                  have hj2 : j = 0 ∨ j = 1 ∨ j = 2 ∨ j = 3 ∨ j = 4 ∨ j = 5 ∨ j = 6 ∨ j = 7 ∨ j = 8 ∨ j = 9 ∨ j = 10 ∨ j = 11 ∨ j = 12 ∨ j = 13 ∨ j = 14 ∨ j = 15 ∨ j = 16 := by omega
                  clear hj hj3
                  rcases hj2 with rfl | rfl | rfl | rfl | rfl | rfl | rfl | rfl | rfl | rfl | rfl | rfl | rfl | rfl | rfl | rfl | rfl
                  · exact trivial
                  · exact trivial
                  · exact trivial
                  · exact trivial
                  · exact trivial
                  · exact trivial
                  · exact trivial
                  · exact trivial
                  · exact trivial
                  · exact trivial
                  · exact trivial
                  · exact trivial
                  · exact trivial
                  · exact trivial
                  · exact trivial
                  · exact trivial
                  · exact trivial
                · intro j hj0 hj
                  exact absurd hj (Nat.not_lt.2 hj0)
                · intro i hi a wx who hG hF
                  have hz : a.tmps.size = 78 := hG.size
                  have hi3 : i < 17 := hi
                  have hi2 : i = 0 ∨ i = 1 ∨ i = 2 ∨ i = 3 ∨ i = 4 ∨ i = 5 ∨ i = 6 ∨ i = 7 ∨ i = 8 ∨ i = 9 ∨ i = 10 ∨ i = 11 ∨ i = 12 ∨ i = 13 ∨ i = 14 ∨ i = 15 ∨ i = 16 := by omega
                  clear hi hi3
                  rcases hi2 with rfl | rfl | rfl | rfl | rfl | rfl | rfl | rfl | rfl | rfl | rfl | rfl | rfl | rfl | rfl | rfl | rfl
                  · exact rol_val rfl rfl rfl (by rw [hz]; decide) (ex_move (Or.inl rfl) (eval_slot ((hG.slots 8 (by decide)).trans rfl))) hG.below
                  · exact rol_val rfl rfl rfl (by rw [hz]; decide) (ex_move (Or.inl rfl) (eval_slot ((hG.slots 5 (by decide)).trans rfl))) hG.below
                  · exact rol_val rfl rfl rfl (by rw [hz]; decide) (ex_len rfl (eval_slot (hF 1 (by decide))) (by go_simp)) hG.below
                  · exact rol_val rfl rfl rfl (by rw [hz]; decide) (ex_bin rfl (eval_slot (hF 0 (by decide))) (eval_slot (hF 2 (by decide))) (by go_simp) (bin_lssL HLT.out)) hG.below
                  · exact rol_val rfl rfl rfl (by rw [hz]; decide) (ex_move (Or.inl rfl) (eval_slot (hF 3 (by decide)))) hG.below
                  · exact rol_val rfl (want_yes rfl rfl (hF 4 (by decide))) rfl (by rw [hz]; decide) (ex_move (Or.inl rfl) (eval_slot ((hG.slots 5 (by decide)).trans rfl))) hG.below
                  · exact rol_val rfl (want_yes rfl rfl (hF 4 (by decide))) rfl (by rw [hz]; decide) (ex_move (Or.inl rfl) (eval_slot ((hG.slots 8 (by decide)).trans rfl))) hG.below
                  · exact rol_val rfl (want_yes rfl rfl (hF 4 (by decide))) rfl (by rw [hz]; decide) (ex_index rfl (eval_slot (hF 5 (by decide))) (eval_slot (hF 6 (by decide))) (idx_st0 HAN.out)) hG.below
                  · exact rol_val rfl (want_yes rfl rfl (hF 4 (by decide))) rfl (by rw [hz]; decide) (ex_load rfl (eval_slot (hF 7 (by decide))) (ld_strT (cell_keep CU.out hG.below))) hG.below
                  · exact rol_val rfl (want_yes rfl rfl (hF 4 (by decide))) rfl (by rw [hz]; decide) (ex_move (Or.inl rfl) (eval_slot ((hG.slots 6 (by decide)).trans rfl))) hG.below
                  · exact rol_val rfl (want_yes rfl rfl (hF 4 (by decide))) rfl (by rw [hz]; decide) (ex_move (Or.inl rfl) (eval_slot ((hG.slots 7 (by decide)).trans rfl))) hG.below
                  · exact rol_val rfl (want_yes rfl rfl (hF 4 (by decide))) rfl (by rw [hz]; decide) (ex_index rfl (eval_slot (hF 9 (by decide))) (eval_slot (hF 10 (by decide))) (idx_nds HKS.out)) hG.below
                  · exact rol_val rfl (want_yes rfl rfl (hF 4 (by decide))) rfl (by rw [hz]; decide) (ex_field rfl (eval_slot (hF 11 (by decide))) (by go_simp)) hG.below
                  · exact rol_val rfl (want_yes rfl rfl (hF 4 (by decide))) rfl (by rw [hz]; decide) (ex_load rfl (eval_slot (hF 12 (by decide))) (ld_strT (cell_keep CY.out hG.below))) hG.below
                  · exact rol_val rfl (want_yes rfl rfl (hF 4 (by decide))) rfl (by rw [hz]; decide) (ex_bin rfl (eval_slot (hF 8 (by decide))) (eval_slot (hF 13 (by decide))) (by go_simp) (bin_eqL HEQ.out)) hG.below
                  · exact rol_val rfl rfl rfl (by rw [hz]; decide) (ex_pick_yes rfl (eval_slot (hF 4 (by decide))) (eval_slot (hF 14 (by decide)))) hG.below
                  · exact rol_val rfl rfl rfl (by rw [hz]; decide) (ex_move (Or.inr rfl) (eval_slot (hF 15 (by decide)))) hG.below
                · intro a wx who hG hF
                  have fv9 : a.tmps.getD 9 undef = .bool true := eval_slot (s := 9) (hF 16 (of_decide_eq_true (by kernel_rfl)) (of_decide_eq_true (by kernel_rfl)))
                  have hbx := hG.below
                  have hnx := hG.new
                  rw [hG.frame]
                  simp only [List.foldl_cons, List.foldl_nil, List.setIfInBounds_toArray, List.set_cons_zero, List.set_cons_succ]
                  generalize a.tmps.getD 40 undef = u40
                  generalize a.tmps.getD 41 undef = u41
                  generalize a.tmps.getD 42 undef = u42
                  generalize a.tmps.getD 43 undef = u43
                  generalize a.tmps.getD 44 undef = u44
                  generalize a.tmps.getD 45 undef = u45
                  generalize a.tmps.getD 46 undef = u46
                  generalize a.tmps.getD 47 undef = u47
                  generalize a.tmps.getD 48 undef = u48
                  generalize a.tmps.getD 49 undef = u49
                  generalize a.tmps.getD 50 undef = u50
                  generalize a.tmps.getD 51 undef = u51
                  generalize a.tmps.getD 52 undef = u52
                  generalize a.tmps.getD 53 undef = u53
                  generalize a.tmps.getD 54 undef = u54
                  generalize a.tmps.getD 55 undef = u55
                  rw [fv9]
                  clear hF hG fv9
                  have hbr := hbx
                  obtain ⟨w9, hw9⟩ : ∃ v, v = wx := ⟨_, rfl⟩
                  subst hw9
                  clear hbx hnx
                  have HO9 := Lib.hid (ownsRow_belowB HO6.out hbr); have HB9 := Lib.hid (HB6.out.trans (hbr.mono HNS6.out)); have HNS9 := Lib.hid (Nat.le_trans HNS6.out hbr.size); have CY3 := Lib.hid CY0.out
                  clear hbr HO6 HB6 HNS6
                  go_wp2
                  go_roundw
                  case rel => exact ⟨k + 1, K, q, by omega, by go_num, Lib.hid (by rw [← HTK.out, HMT.out]), HQ, by omega, HO9, HB9⟩
                  case measure => simp [intOf]; omega
              · have HEQ := Lib.hid (show decide (u = y) = false by simp [hey])
                have hlt2 : ltB y (K.getD at0 []) = true := by
                  rw [HU.out]
                  rcases ltB_tri u y with h | h | h
                  · have h3 := of_decide_eq_false HC.out
                    rw [← HCU.out] at h3
                    exact absurd (ltB_iff.1 h) h3
                  · exact absurd h hey
                  · exact h
                have HIN := Lib.hid (ins_at (K := K) (y := y) (k := at0) (by rw [HQ.out]; omega) HM.out (rise_up HR.out (by rw [HQ.out]; exact HAN.out) hlt2))
                clear hlt2 hey
                refine rol_run (by kernel_rfl) [[], [], [1], [0, 1, 2], [0, 1, 2, 3], [0, 1, 2, 3, 4], [0, 1, 2, 3, 4], [0, 1, 2, 3, 4, 5, 6], [0, 1, 2, 3, 4, 5, 6, 7], [0, 1, 2, 3, 4], [0, 1, 2, 3, 4], [0, 1, 2, 3, 4, 9, 10], [0, 1, 2, 3, 4, 9, 10, 11], [0, 1, 2, 3, 4, 9, 10, 11, 12], [0, 1, 2, 3, 4, 5, 6, 7, 8, 9, 10, 11, 12, 13], [0, 1, 2, 3, 4, 5, 6, 7, 8, 9, 10, 11, 12, 13, 14], [0, 1, 2, 3, 4, 5, 6, 7, 8, 9, 10, 11, 12, 13, 14, 15]] (by kernel_rfl) [40, 41, 42, 43, 44, 45, 46, 47, 48, 49, 50, 51, 52, 53, 54, 55, 9] [[], [], [1], [0, 2], [3], [4], [4], [4, 5, 6], [4, 7], [4], [4], [4, 9, 10], [4, 11], [4, 12], [4, 8, 13], [4, 14], [15]] [0, 0, 0, 0, 0, 0, 0, 0, 0, 0, 0, 0, 0, 0, 0, 0, 0] [0, 0, 0, 0, 0, 0, 0, 0, 0, 0, 0, 0, 0, 0, 0, 0, 0] [1000, 1000, 1000, 1000, 1000, 1000, 1000, 1000, 1000, 1000, 1000, 1000, 1000, 1000, 1000, 1000, 1000] [.val 40 (.int .i64 (at0 : Int)), .val 41 (.slice (some ⟨g, 0, none⟩) q c3), .val 42 (.int .i64 (q : Int)), .val 43 (.bool true), .val 44 (.bool true), .val 45 (.slice (some ⟨g, 0, none⟩) q c3), .val 46 (.int .i64 (at0 : Int)), .val 47 (.pointer (some ⟨g, at0, none⟩)), .val 48 (.string (mkB u)), .val 49 (.slice (some ⟨bl, ol, none⟩) s c2), .val 50 (.int .i64 (k : Int)), .val 51 (.pointer (some ⟨bl, ol + k * 2, none⟩)), .val 52 (.pointer (some ⟨bl, ol + k * 2, none⟩)), .val 53 (.string (mkB y)), .val 54 (.bool false), .val 55 (.bool false), .val 9 (.bool false)] (by kernel_rfl) ?_ (w6.heap.size) (w6.heap.size) rfl (Below.refl _ _) rfl (fun _ => 0) ?_ ?_ ?_
                · intro j hj
                  have hj3 : j < 17 := hj
                  have hj2 : j = 0 ∨ j = 1 ∨ j = 2 ∨ j = 3 ∨ j = 4 ∨ j = 5 ∨ j = 6 ∨ j = 7 ∨ j = 8 ∨ j = 9 ∨ j = 10 ∨ j = 11 ∨ j = 12 ∨ j = 13 ∨ j = 14 ∨ j = 15 ∨ j = 16 := by omega
                  clear hj hj3
                  rcases hj2 with rfl | rfl | rfl | rfl | rfl | rfl | rfl | rfl | rfl | rfl | rfl | rfl | rfl | rfl | rfl | rfl | rfl
                  · exact trivial
                  · exact trivial
                  · exact trivial
                  · exact trivial
                  · exact trivial
                  · exact trivial
                  · exact trivial
                  · exact trivial
                  · exact trivial
                  · exact trivial
                  · exact trivial
                  · exact trivial
                  · exact trivial
                  · exact trivial
                  · exact trivial
                  · exact trivial
                  · exact trivial
                · intro j hj0 hj
                  exact absurd hj (Nat.not_lt.2 hj0)
                · intro i hi a wx who hG hF
                  have hz : a.tmps.size = 78 := hG.size
                  have hi3 : i < 17 := hi
                  have hi2 : i = 0 ∨ i = 1 ∨ i = 2 ∨ i = 3 ∨ i = 4 ∨ i = 5 ∨ i = 6 ∨ i = 7 ∨ i = 8 ∨ i = 9 ∨ i = 10 ∨ i = 11 ∨ i = 12 ∨ i = 13 ∨ i = 14 ∨ i = 15 ∨ i = 16 := by omega
                  clear hi hi3
                  rcases hi2 with rfl | rfl | rfl | rfl | rfl | rfl | rfl | rfl | rfl | rfl | rfl | rfl | rfl | rfl | rfl | rfl | rfl
                  · exact rol_val rfl rfl rfl (by rw [hz]; decide) (ex_move (Or.inl rfl) (eval_slot ((hG.slots 8 (by decide)).trans rfl))) hG.below
                  · exact rol_val rfl rfl rfl (by rw [hz]; decide) (ex_move (Or.inl rfl) (eval_slot ((hG.slots 5 (by decide)).trans rfl))) hG.below
                  · exact rol_val rfl rfl rfl (by rw [hz]; decide) (ex_len rfl (eval_slot (hF 1 (by decide))) (by go_simp)) hG.below
                  · exact rol_val rfl rfl rfl (by rw [hz]; decide) (ex_bin rfl (eval_slot (hF 0 (by decide))) (eval_slot (hF 2 (by decide))) (by go_simp) (bin_lssL HLT.out)) hG.below
                  · exact rol_val rfl rfl rfl (by rw [hz]; decide) (ex_move (Or.inl rfl) (eval_slot (hF 3 (by decide)))) hG.below
                  · exact rol_val rfl (want_yes rfl rfl (hF 4 (by decide))) rfl (by rw [hz]; decide) (ex_move (Or.inl rfl) (eval_slot ((hG.slots 5 (by decide)).trans rfl))) hG.below
                  · exact rol_val rfl (want_yes rfl rfl (hF 4 (by decide))) rfl (by rw [hz]; decide) (ex_move (Or.inl rfl) (eval_slot ((hG.slots 8 (by decide)).trans rfl))) hG.below
                  · exact rol_val rfl (want_yes rfl rfl (hF 4 (by decide))) rfl (by rw [hz]; decide) (ex_index rfl (eval_slot (hF 5 (by decide))) (eval_slot (hF 6 (by decide))) (idx_st0 HAN.out)) hG.below
                  · exact rol_val rfl (want_yes rfl rfl (hF 4 (by decide))) rfl (by rw [hz]; decide) (ex_load rfl (eval_slot (hF 7 (by decide))) (ld_strT (cell_keep CU.out hG.below))) hG.below
                  · exact rol_val rfl (want_yes rfl rfl (hF 4 (by decide))) rfl (by rw [hz]; decide) (ex_move (Or.inl rfl) (eval_slot ((hG.slots 6 (by decide)).trans rfl))) hG.below
                  · exact rol_val rfl (want_yes rfl rfl (hF 4 (by decide))) rfl (by rw [hz]; decide) (ex_move (Or.inl rfl) (eval_slot ((hG.slots 7 (by decide)).trans rfl))) hG.below
                  · exact rol_val rfl (want_yes rfl rfl (hF 4 (by decide))) rfl (by rw [hz]; decide) (ex_index rfl (eval_slot (hF 9 (by decide))) (eval_slot (hF 10 (by decide))) (idx_nds HKS.out)) hG.below
                  · exact rol_val rfl (want_yes rfl rfl (hF 4 (by decide))) rfl (by rw [hz]; decide) (ex_field rfl (eval_slot (hF 11 (by decide))) (by go_simp)) hG.below
                  · exact rol_val rfl (want_yes rfl rfl (hF 4 (by decide))) rfl (by rw [hz]; decide) (ex_load rfl (eval_slot (hF 12 (by decide))) (ld_strT (cell_keep CY.out hG.below))) hG.below
                  · exact rol_val rfl (want_yes rfl rfl (hF 4 (by decide))) rfl (by rw [hz]; decide) (ex_bin rfl (eval_slot (hF 8 (by decide))) (eval_slot (hF 13 (by decide))) (by go_simp) (bin_eqL HEQ.out)) hG.below
                  · exact rol_val rfl rfl rfl (by rw [hz]; decide) (ex_pick_yes rfl (eval_slot (hF 4 (by decide))) (eval_slot (hF 14 (by decide)))) hG.below
                  · exact rol_val rfl rfl rfl (by rw [hz]; decide) (ex_move (Or.inr rfl) (eval_slot (hF 15 (by decide)))) hG.below
                · intro a wx who hG hF
                  have fv9 : a.tmps.getD 9 undef = .bool false := eval_slot (s := 9) (hF 16 (of_decide_eq_true (by kernel_rfl)) (of_decide_eq_true (by kernel_rfl)))
                  have hbx := hG.below
                  have hnx := hG.new
                  rw [hG.frame]
                  simp only [List.foldl_cons, List.foldl_nil, List.setIfInBounds_toArray, List.set_cons_zero, List.set_cons_succ]
                  generalize a.tmps.getD 40 undef = u40
                  generalize a.tmps.getD 41 undef = u41
                  generalize a.tmps.getD 42 undef = u42
                  generalize a.tmps.getD 43 undef = u43
                  generalize a.tmps.getD 44 undef = u44
                  generalize a.tmps.getD 45 undef = u45
                  generalize a.tmps.getD 46 undef = u46
                  generalize a.tmps.getD 47 undef = u47
                  generalize a.tmps.getD 48 undef = u48
                  generalize a.tmps.getD 49 undef = u49
                  generalize a.tmps.getD 50 undef = u50
                  generalize a.tmps.getD 51 undef = u51
                  generalize a.tmps.getD 52 undef = u52
                  generalize a.tmps.getD 53 undef = u53
                  generalize a.tmps.getD 54 undef = u54
                  generalize a.tmps.getD 55 undef = u55
                  rw [fv9]
                  clear hF hG fv9
                  have hbr := hbx
                  obtain ⟨w9, hw9⟩ : ∃ v, v = wx := ⟨_, rfl⟩
                  subst hw9
                  clear hbx hnx
                  have HO9 := Lib.hid (ownsRow_belowB HO6.out hbr); have HB9 := Lib.hid (HB6.out.trans (hbr.mono HNS6.out)); have HNS9 := Lib.hid (Nat.le_trans HNS6.out hbr.size); have CY3 := Lib.hid CY0.out
                  clear hbr HO6 HB6 HNS6
                  have HAT := Lib.hid (show at0 ≤ 2000000 by omega)
                  go_upto_region 12 with (at_builtin; refine wpList_append_new rfl _ _ 61 rfl NB 9 (.string ByteArray.empty) 1 16 Tryz.underlying61 Tryz.info_str rfl (by decide) _ q _ rfl HO9.out [.string ByteArray.empty] rfl rfl rfl (by omega) (by unfold maxLen; omega) HNS9.out ?_; intro v5 w7 hown5 hb5; have H50 := Lib.hid hown5; have B7 := Lib.hid (HB9.out.trans hb5.toBelow); clear hown5 hb5)
                  obtain ⟨g2, c4, rfl, -, hcc, -⟩ := row_shortT H50.out (by have := strC_len K; rw [HQ.out] at this; omega)
                  have H5 := Lib.hid (show w7.ownsRow NB 9 1 (.slice (some ⟨g2, 0, none⟩) (q + 1) c4) (q + 1) (strC (K ++ [[]])) from by rw [strC_app]; exact H50.out)
                  have HAK := Lib.hid (show at0 + 1 ≤ q + 1 ∧ q + 1 ≤ c4 from ⟨by omega, hcc⟩); have HGB := Lib.hid (H5.out.lt g2 rfl).1; have HGL := Lib.hid (H5.out.lt g2 rfl).2
                  clear hcc
                  refine rol_run (by kernel_rfl) [[], [], [1], [0, 1, 2], [], [], [4, 5], [0, 1, 2, 3, 4, 5, 6]] (by kernel_rfl) [61, 62, 63, 64, 65, 66, 67, 68] [[], [], [1], [0, 2], [], [], [4, 5], [3, 6, 8]] [0, 0, 0, 0, 0, 0, 0, 1, 1] [0, 0, 0, 0, 0, 0, 0, 1] [1000, 1000, 1000, 1000, 1000, 1000, 1000, 1000, 7] [.val 61 (.slice (some ⟨g2, 0, none⟩) (q + 1) c4), .val 62 (.int .i64 (at0 : Int)), .val 63 (.int .i64 ((at0 + 1 : Nat) : Int)), .val 64 (sliced (some ⟨g2, 0, none⟩) (at0 + 1) (q + 1) c4 1), .val 65 (.slice (some ⟨g2, 0, none⟩) (q + 1) c4), .val 66 (.int .i64 (at0 : Int)), .val 67 (sliced (some ⟨g2, 0, none⟩) at0 (q + 1) c4 1), .mem 5 (rowVT g2 c4 NB (q + 1) (strC ((K ++ [[]]).take (at0 + 1) ++ K.drop at0))), .mem 5 (rowVT g2 c4 NB (q + 1) (strC (K ++ [[]])))] (by kernel_rfl) ?_ (NB) (w7.heap.size) rfl B7.out rfl (fun k => if k = g2 then 1 else 3) ?_ ?_ ?_
                  · intro j hj
                    have hj3 : j < 9 := hj
                    have hj2 : j = 0 ∨ j = 1 ∨ j = 2 ∨ j = 3 ∨ j = 4 ∨ j = 5 ∨ j = 6 ∨ j = 7 ∨ j = 8 := by omega
                    clear hj hj3
                    rcases hj2 with rfl | rfl | rfl | rfl | rfl | rfl | rfl | rfl | rfl
                    · exact trivial
                    · exact trivial
                    · exact trivial
                    · exact trivial
                    · exact trivial
                    · exact trivial
                    · exact trivial
                    · exact rowVT_near
                    · exact rowVT_near
                  · intro j hj0 hj
                    have hj1 : 8 ≤ j := hj0
                    have hj3 : j < 9 := hj
                    have hj2 : j = 8 := by omega
                    clear hj0 hj hj1 hj3
                    rcases hj2 with rfl
                    · exact ⟨_, some g2, rfl, fun b e => by cases e; exact ⟨HGL.out, if_pos rfl⟩, rfl, rfl, row_heap H5.out (fun _ _ => rfl)⟩
                  · intro i hi a wx who hG hF
                    have hz : a.tmps.size = 78 := hG.size
                    have hi3 : i < 8 := hi
                    have hi2 : i = 0 ∨ i = 1 ∨ i = 2 ∨ i = 3 ∨ i = 4 ∨ i = 5 ∨ i = 6 ∨ i = 7 := by omega
                    clear hi hi3
                    rcases hi2 with rfl | rfl | rfl | rfl | rfl | rfl | rfl | rfl
                    · exact rol_val rfl rfl rfl (by rw [hz]; decide) (ex_move (Or.inl rfl) (eval_slot ((hG.slots 5 (by decide)).trans rfl))) hG.below
                    · exact rol_val rfl rfl rfl (by rw [hz]; decide) (ex_move (Or.inl rfl) (eval_slot ((hG.slots 8 (by decide)).trans rfl))) hG.below
                    · exact rol_val rfl rfl rfl (by rw [hz]; decide) (ex_bin rfl (eval_slot (hF 1 (by decide))) rfl (by go_simp) (add1T HAT.out)) hG.below
                    · exact rol_val rfl rfl rfl (by rw [hz]; decide) (ex_backT rfl (eval_slot (hF 0 (by decide))) (eval_slot (hF 2 (by decide))) (st_back wx _ (q + 1) c4 (at0 + 1) HAK.out.1 HAK.out.2)) hG.below
                    · exact rol_val rfl rfl rfl (by rw [hz]; decide) (ex_move (Or.inl rfl) (eval_slot ((hG.slots 5 (by decide)).trans rfl))) hG.below
                    · exact rol_val rfl rfl rfl (by rw [hz]; decide) (ex_move (Or.inl rfl) (eval_slot ((hG.slots 8 (by decide)).trans rfl))) hG.below
                    · exact rol_val rfl rfl rfl (by rw [hz]; decide) (ex_backT rfl (eval_slot (hF 4 (by decide))) (eval_slot (hF 5 (by decide))) (st_back wx _ (q + 1) c4 at0 (Nat.le_trans (Nat.le_succ _) HAK.out.1) HAK.out.2)) hG.below
                    · exact rol_copyT rfl rfl rfl rfl (eval_slot (hF 3 (by decide))) (eval_slot (hF 6 (by decide))) (Nat.le_of_succ_le_succ HAK.out.1) HQ.out (by decide) (hF 8 (by decide)) hG.below HGB.out
                  · intro a wx who hG hF
                    have hrow := hF 7 (of_decide_eq_true (by kernel_rfl)) (of_decide_eq_true (by kernel_rfl))
                    have hbx := hG.below
                    have hnx := hG.new
                    rw [hG.frame]
                    simp only [List.foldl_cons, List.foldl_nil, List.setIfInBounds_toArray, List.set_cons_zero, List.set_cons_succ]
                    generalize a.tmps.getD 61 undef = u61
                    generalize a.tmps.getD 62 undef = u62
                    generalize a.tmps.getD 63 undef = u63
                    generalize a.tmps.getD 64 undef = u64
                    generalize a.tmps.getD 65 undef = u65
                    generalize a.tmps.getD 66 undef = u66
                    generalize a.tmps.getD 67 undef = u67
                    generalize a.tmps.getD 68 undef = u68
                    clear hF hG
                    obtain ⟨_, _, _, _, rfl, -, hT⟩ := hrow
                    have hTl : at0 < q + 1 := by omega
                    obtain ⟨hc3, hf3, hkc⟩ := row_cellT hT hTl
                    have hbw3 : Below wb.heap.size wb wx := by rw [HNB.out]; exact hbx
                    have hsrc := cell_keep CY3.out hbw3
                    have hbz := hbx.setCell (p := ⟨g2, at0, none⟩) HGB.out (.string (mkB y))
                    have hrz := row_setT (k := at0) hT (.string (mkB y))
                    have hat3 : (at0 : Int) < ((q + 1 : Nat) : Int) := by omega
                    have hks3 : (k : Int) < (s : Int) := by omega
                    have hfin : strC (insT K y) = (strC ((K ++ [[]]).take (at0 + 1) ++ K.drop at0)).set at0 (.string (mkB y)) := by
                      rw [HIN.out, ← put_thereT (by rw [HQ.out]; omega)]
                      simp only [strC, List.map_set]
                      rfl
                    have hln : (insT K y).length = q + 1 := by rw [HIN.out, List.length_append, List.length_cons, List.length_take, List.length_drop, HQ.out]; omega
                    have HFIN := Lib.hid hfin; have HRZ := Lib.hid hrz; have HBZ := Lib.hid hbz; have HLN := Lib.hid hln
                    clear hT hfin hrz hbz hbx hnx H50 H5 B7 hln hbw3
                    go_wp2
                    go_roundw
                    case rel => exact ⟨k + 1, insT K y, q + 1, by omega, by go_num, HTK, HLN, by omega, Lib.hid (by rw [HFIN.out]; exact HRZ.out), HBZ⟩
                    case measure => simp [intOf]; omega
        · have HLT := Lib.hid (show decide (at0 < q) = false by simp [hlt2])
          have HAE := Lib.hid (show at0 = q by omega)
          clear hlt2
          go_upto_region 7 with fail
          refine rol_run (by kernel_rfl) [[], [], [1], [0, 1, 2], [0, 1, 2, 3], [0, 1, 2, 3, 4], [0, 1, 2, 3, 4], [0, 1, 2, 3, 4, 5, 6], [0, 1, 2, 3, 4, 5, 6, 7], [0, 1, 2, 3, 4], [0, 1, 2, 3, 4], [0, 1, 2, 3, 4, 9, 10], [0, 1, 2, 3, 4, 9, 10, 11], [0, 1, 2, 3, 4, 9, 10, 11, 12], [0, 1, 2, 3, 4, 5, 6, 7, 8, 9, 10, 11, 12, 13], [0, 1, 2, 3, 4, 5, 6, 7, 8, 9, 10, 11, 12, 13, 14], [0, 1, 2, 3, 4, 5, 6, 7, 8, 9, 10, 11, 12, 13, 14, 15]] (by kernel_rfl) [21, 22, 23, 24, 25, 26, 27, 28, 29, 30, 31, 32, 33, 34, 35, 36, 37] [[], [], [1], [0, 2], [3], [4], [4], [4], [4], [4], [4], [4], [4], [4], [4], [4], [4]] [0, 0, 0, 0, 0, 0, 0, 0, 0, 0, 0, 0, 0, 0, 0, 0, 0] [0, 0, 0, 0, 0, 0, 0, 0, 0, 0, 0, 0, 0, 0, 0, 0, 0] [1000, 1000, 1000, 1000, 1000, 1000, 1000, 1000, 1000, 1000, 1000, 1000, 1000, 1000, 1000, 1000, 1000] [.val 21 (.int .i64 (at0 : Int)), .val 22 (.slice a3 q c3), .val 23 (.int .i64 (q : Int)), .val 24 (.bool false), .val 25 (.bool false), .val 26 undef, .val 27 undef, .val 28 undef, .val 29 undef, .val 30 undef, .val 31 undef, .val 32 undef, .val 33 undef, .val 34 undef, .val 35 undef, .val 36 undef, .val 37 (.bool false)] (by kernel_rfl) ?_ (w5.heap.size) (w5.heap.size) rfl (Below.refl _ _) rfl (fun _ => 0) ?_ ?_ ?_
          · intro j hj
            have hj3 : j < 17 := hj
            have hj2 : j = 0 ∨ j = 1 ∨ j = 2 ∨ j = 3 ∨ j = 4 ∨ j = 5 ∨ j = 6 ∨ j = 7 ∨ j = 8 ∨ j = 9 ∨ j = 10 ∨ j = 11 ∨ j = 12 ∨ j = 13 ∨ j = 14 ∨ j = 15 ∨ j = 16 := by omega
            clear hj hj3
            rcases hj2 with rfl | rfl | rfl | rfl | rfl | rfl | rfl | rfl | rfl | rfl | rfl | rfl | rfl | rfl | rfl | rfl | rfl
            · exact trivial
            · exact trivial
            · exact trivial
            · exact trivial
            · exact trivial
            · exact trivial
            · exact trivial
            · exact trivial
            · exact trivial
            · exact trivial
            · exact trivial
            · exact trivial
            · exact trivial
            · exact trivial
            · exact trivial
            · exact trivial
            · exact trivial
          · intro j hj0 hj
            exact absurd hj (Nat.not_lt.2 hj0)
          · intro i hi a wx who hG hF
            have hz : a.tmps.size = 78 := hG.size
            have hi3 : i < 17 := hi
            have hi2 : i = 0 ∨ i = 1 ∨ i = 2 ∨ i = 3 ∨ i = 4 ∨ i = 5 ∨ i = 6 ∨ i = 7 ∨ i = 8 ∨ i = 9 ∨ i = 10 ∨ i = 11 ∨ i = 12 ∨ i = 13 ∨ i = 14 ∨ i = 15 ∨ i = 16 := by omega
            clear hi hi3
            rcases hi2 with rfl | rfl | rfl | rfl | rfl | rfl | rfl | rfl | rfl | rfl | rfl | rfl | rfl | rfl | rfl | rfl | rfl
            · exact rol_val rfl rfl rfl (by rw [hz]; decide) (ex_move (Or.inl rfl) (eval_slot ((hG.slots 8 (by decide)).trans rfl))) hG.below
            · exact rol_val rfl rfl rfl (by rw [hz]; decide) (ex_move (Or.inl rfl) (eval_slot ((hG.slots 5 (by decide)).trans rfl))) hG.below
            · exact rol_val rfl rfl rfl (by rw [hz]; decide) (ex_len rfl (eval_slot (hF 1 (by decide))) (by go_simp)) hG.below
            · exact rol_val rfl rfl rfl (by rw [hz]; decide) (ex_bin rfl (eval_slot (hF 0 (by decide))) (eval_slot (hF 2 (by decide))) (by go_simp) (bin_lssL HLT.out)) hG.below
            · exact rol_val rfl rfl rfl (by rw [hz]; decide) (ex_move (Or.inl rfl) (eval_slot (hF 3 (by decide)))) hG.below
            · exact rol_val_skip rfl (want_no rfl rfl (hF 4 (by decide)) (by decide)) rfl (by rw [hz]; decide) hG.below
            · exact rol_val_skip rfl (want_no rfl rfl (hF 4 (by decide)) (by decide)) rfl (by rw [hz]; decide) hG.below
            · exact rol_val_skip rfl (want_no rfl rfl (hF 4 (by decide)) (by decide)) rfl (by rw [hz]; decide) hG.below
            · exact rol_val_skip rfl (want_no rfl rfl (hF 4 (by decide)) (by decide)) rfl (by rw [hz]; decide) hG.below
            · exact rol_val_skip rfl (want_no rfl rfl (hF 4 (by decide)) (by decide)) rfl (by rw [hz]; decide) hG.below
            · exact rol_val_skip rfl (want_no rfl rfl (hF 4 (by decide)) (by decide)) rfl (by rw [hz]; decide) hG.below
            · exact rol_val_skip rfl (want_no rfl rfl (hF 4 (by decide)) (by decide)) rfl (by rw [hz]; decide) hG.below
            · exact rol_val_skip rfl (want_no rfl rfl (hF 4 (by decide)) (by decide)) rfl (by rw [hz]; decide) hG.below
            · exact rol_val_skip rfl (want_no rfl rfl (hF 4 (by decide)) (by decide)) rfl (by rw [hz]; decide) hG.below
            · exact rol_val_skip rfl (want_no rfl rfl (hF 4 (by decide)) (by decide)) rfl (by rw [hz]; decide) hG.below
            · exact rol_val_skip rfl (want_no rfl rfl (hF 4 (by decide)) (by decide)) rfl (by rw [hz]; decide) hG.below
            · exact rol_val rfl rfl rfl (by rw [hz]; decide) (ex_pick_no rfl (eval_slot (hF 4 (by decide))) rfl) hG.below
          · intro a wx who hG hF
            have fv37 : a.tmps.getD 37 undef = .bool false := eval_slot (s := 37) (hF 16 (of_decide_eq_true (by kernel_rfl)) (of_decide_eq_true (by kernel_rfl)))
            have hbx := hG.below
            have hnx := hG.new
            rw [hG.frame]
            simp only [List.foldl_cons, List.foldl_nil, List.setIfInBounds_toArray, List.set_cons_zero, List.set_cons_succ]
            generalize a.tmps.getD 21 undef = u21
            generalize a.tmps.getD 22 undef = u22
            generalize a.tmps.getD 23 undef = u23
            generalize a.tmps.getD 24 undef = u24
            generalize a.tmps.getD 25 undef = u25
            generalize a.tmps.getD 26 undef = u26
            generalize a.tmps.getD 27 undef = u27
            generalize a.tmps.getD 28 undef = u28
            generalize a.tmps.getD 29 undef = u29
            generalize a.tmps.getD 30 undef = u30
            generalize a.tmps.getD 31 undef = u31
            generalize a.tmps.getD 32 undef = u32
            generalize a.tmps.getD 33 undef = u33
            generalize a.tmps.getD 34 undef = u34
            generalize a.tmps.getD 35 undef = u35
            generalize a.tmps.getD 36 undef = u36
            rw [fv37]
            clear hF hG fv37
            have hbr := hbx
            obtain ⟨w6, hw6⟩ : ∃ v, v = wx := ⟨_, rfl⟩
            subst hw6
            clear hbx hnx
            have HO6 := Lib.hid (ownsRow_belowB HO5.out hbr); have HB6 := Lib.hid (HB5.out.trans (hbr.mono HNS5.out)); have HNS6 := Lib.hid (Nat.le_trans HNS5.out hbr.size); replace CY := Lib.hid (cell_keep CY.out hbr)
            clear hbr HO5 HB5 HNS5
            go_upto_region 9 with fail
            have HIN := Lib.hid (ins_at (K := K) (y := y) (k := at0) (by rw [HQ.out]; omega) HM.out (fun j h1 h2 => by rw [HQ.out] at h2; have := HAE.out; omega))
            refine rol_run (by kernel_rfl) [[], [], [1], [0, 1, 2], [0, 1, 2, 3], [0, 1, 2, 3, 4], [0, 1, 2, 3, 4], [0, 1, 2, 3, 4, 5, 6], [0, 1, 2, 3, 4, 5, 6, 7], [0, 1, 2, 3, 4], [0, 1, 2, 3, 4], [0, 1, 2, 3, 4, 9, 10], [0, 1, 2, 3, 4, 9, 10, 11], [0, 1, 2, 3, 4, 9, 10, 11, 12], [0, 1, 2, 3, 4, 5, 6, 7, 8, 9, 10, 11, 12, 13], [0, 1, 2, 3, 4, 5, 6, 7, 8, 9, 10, 11, 12, 13, 14], [0, 1, 2, 3, 4, 5, 6, 7, 8, 9, 10, 11, 12, 13, 14, 15]] (by kernel_rfl) [40, 41, 42, 43, 44, 45, 46, 47, 48, 49, 50, 51, 52, 53, 54, 55, 9] [[], [], [1], [0, 2], [3], [4], [4], [4], [4], [4], [4], [4], [4], [4], [4], [4], [15]] [0, 0, 0, 0, 0, 0, 0, 0, 0, 0, 0, 0, 0, 0, 0, 0, 0] [0, 0, 0, 0, 0, 0, 0, 0, 0, 0, 0, 0, 0, 0, 0, 0, 0] [1000, 1000, 1000, 1000, 1000, 1000, 1000, 1000, 1000, 1000, 1000, 1000, 1000, 1000, 1000, 1000, 1000] [.val 40 (.int .i64 (at0 : Int)), .val 41 (.slice a3 q c3), .val 42 (.int .i64 (q : Int)), .val 43 (.bool false), .val 44 (.bool false), .val 45 undef, .val 46 undef, .val 47 undef, .val 48 undef, .val 49 undef, .val 50 undef, .val 51 undef, .val 52 undef, .val 53 undef, .val 54 undef, .val 55 (.bool false), .val 9 (.bool false)] (by kernel_rfl) ?_ (w6.heap.size) (w6.heap.size) rfl (Below.refl _ _) rfl (fun _ => 0) ?_ ?_ ?_
            · intro j hj
              have hj3 : j < 17 := hj
              have hj2 : j = 0 ∨ j = 1 ∨ j = 2 ∨ j = 3 ∨ j = 4 ∨ j = 5 ∨ j = 6 ∨ j = 7 ∨ j = 8 ∨ j = 9 ∨ j = 10 ∨ j = 11 ∨ j = 12 ∨ j = 13 ∨ j = 14 ∨ j = 15 ∨ j = 16 := by omega
              clear hj hj3
              rcases hj2 with rfl | rfl | rfl | rfl | rfl | rfl | rfl | rfl | rfl | rfl | rfl | rfl | rfl | rfl | rfl | rfl | rfl
              · exact trivial
              · exact trivial
              · exact trivial
              · exact trivial
              · exact trivial
              · exact trivial
              · exact trivial
              · exact trivial
              · exact trivial
              · exact trivial
              · exact trivial
              · exact trivial
              · exact trivial
              · exact trivial
              · exact trivial
              · exact trivial
              · exact trivial
            · intro j hj0 hj
              exact absurd hj (Nat.not_lt.2 hj0)
            · intro i hi a wx who hG hF
              have hz : a.tmps.size = 78 := hG.size
              have hi3 : i < 17 := hi
              have hi2 : i = 0 ∨ i = 1 ∨ i = 2 ∨ i = 3 ∨ i = 4 ∨ i = 5 ∨ i = 6 ∨ i = 7 ∨ i = 8 ∨ i = 9 ∨ i = 10 ∨ i = 11 ∨ i = 12 ∨ i = 13 ∨ i = 14 ∨ i = 15 ∨ i = 16 := by omega
              clear hi hi3
              rcases hi2 with rfl | rfl | rfl | rfl | rfl | rfl | rfl | rfl | rfl | rfl | rfl | rfl | rfl | rfl | rfl | rfl | rfl
              · exact rol_val rfl rfl rfl (by rw [hz]; decide) (ex_move (Or.inl rfl) (eval_slot ((hG.slots 8 (by decide)).trans rfl))) hG.below
              · exact rol_val rfl rfl rfl (by rw [hz]; decide) (ex_move (Or.inl rfl) (eval_slot ((hG.slots 5 (by decide)).trans rfl))) hG.below
              · exact rol_val rfl rfl rfl (by rw [hz]; decide) (ex_len rfl (eval_slot (hF 1 (by decide))) (by go_simp)) hG.below
              · exact rol_val rfl rfl rfl (by rw [hz]; decide) (ex_bin rfl (eval_slot (hF 0 (by decide))) (eval_slot (hF 2 (by decide))) (by go_simp) (bin_lssL HLT.out)) hG.below
              · exact rol_val rfl rfl rfl (by rw [hz]; decide) (ex_move (Or.inl rfl) (eval_slot (hF 3 (by decide)))) hG.below
              · exact rol_val_skip rfl (want_no rfl rfl (hF 4 (by decide)) (by decide)) rfl (by rw [hz]; decide) hG.below
              · exact rol_val_skip rfl (want_no rfl rfl (hF 4 (by decide)) (by decide)) rfl (by rw [hz]; decide) hG.below
              · exact rol_val_skip rfl (want_no rfl rfl (hF 4 (by decide)) (by decide)) rfl (by rw [hz]; decide) hG.below
              · exact rol_val_skip rfl (want_no rfl rfl (hF 4 (by decide)) (by decide)) rfl (by rw [hz]; decide) hG.below
              · exact rol_val_skip rfl (want_no rfl rfl (hF 4 (by decide)) (by decide)) rfl (by rw [hz]; decide) hG.below
              · exact rol_val_skip rfl (want_no rfl rfl (hF 4 (by decide)) (by decide)) rfl (by rw [hz]; decide) hG.below
              · exact rol_val_skip rfl (want_no rfl rfl (hF 4 (by decide)) (by decide)) rfl (by rw [hz]; decide) hG.below
              · exact rol_val_skip rfl (want_no rfl rfl (hF 4 (by decide)) (by decide)) rfl (by rw [hz]; decide) hG.below
              · exact rol_val_skip rfl (want_no rfl rfl (hF 4 (by decide)) (by decide)) rfl (by rw [hz]; decide) hG.below
              · exact rol_val_skip rfl (want_no rfl rfl (hF 4 (by decide)) (by decide)) rfl (by rw [hz]; decide) hG.below
              · exact rol_val rfl rfl rfl (by rw [hz]; decide) (ex_pick_no rfl (eval_slot (hF 4 (by decide))) rfl) hG.below
              · exact rol_val rfl rfl rfl (by rw [hz]; decide) (ex_move (Or.inr rfl) (eval_slot (hF 15 (by decide)))) hG.below
            · intro a wx who hG hF
              have fv9 : a.tmps.getD 9 undef = .bool false := eval_slot (s := 9) (hF 16 (of_decide_eq_true (by kernel_rfl)) (of_decide_eq_true (by kernel_rfl)))
              have hbx := hG.below
              have hnx := hG.new
              rw [hG.frame]
              simp only [List.foldl_cons, List.foldl_nil, List.setIfInBounds_toArray, List.set_cons_zero, List.set_cons_succ]
              generalize a.tmps.getD 40 undef = u40
              generalize a.tmps.getD 41 undef = u41
              generalize a.tmps.getD 42 undef = u42
              generalize a.tmps.getD 43 undef = u43
              generalize a.tmps.getD 44 undef = u44
              generalize a.tmps.getD 45 undef = u45
              generalize a.tmps.getD 46 undef = u46
              generalize a.tmps.getD 47 undef = u47
              generalize a.tmps.getD 48 undef = u48
              generalize a.tmps.getD 49 undef = u49
              generalize a.tmps.getD 50 undef = u50
              generalize a.tmps.getD 51 undef = u51
              generalize a.tmps.getD 52 undef = u52
              generalize a.tmps.getD 53 undef = u53
              generalize a.tmps.getD 54 undef = u54
              generalize a.tmps.getD 55 undef = u55
              rw [fv9]
              clear hF hG fv9
              have hbr := hbx
              obtain ⟨w9, hw9⟩ : ∃ v, v = wx := ⟨_, rfl⟩
              subst hw9
              clear hbx hnx
              have HO9 := Lib.hid (ownsRow_belowB HO6.out hbr); have HB9 := Lib.hid (HB6.out.trans (hbr.mono HNS6.out)); have HNS9 := Lib.hid (Nat.le_trans HNS6.out hbr.size); have CY3 := Lib.hid CY0.out
              clear hbr HO6 HB6 HNS6
              have HAT := Lib.hid (show at0 ≤ 2000000 by omega)
              go_upto_region 12 with (at_builtin; refine wpList_append_new rfl _ _ 61 rfl NB 9 (.string ByteArray.empty) 1 16 Tryz.underlying61 Tryz.info_str rfl (by decide) _ q _ rfl HO9.out [.string ByteArray.empty] rfl rfl rfl (by omega) (by unfold maxLen; omega) HNS9.out ?_; intro v5 w7 hown5 hb5; have H50 := Lib.hid hown5; have B7 := Lib.hid (HB9.out.trans hb5.toBelow); clear hown5 hb5)
              obtain ⟨g2, c4, rfl, -, hcc, -⟩ := row_shortT H50.out (by have := strC_len K; rw [HQ.out] at this; omega)
              have H5 := Lib.hid (show w7.ownsRow NB 9 1 (.slice (some ⟨g2, 0, none⟩) (q + 1) c4) (q + 1) (strC (K ++ [[]])) from by rw [strC_app]; exact H50.out)
              have HAK := Lib.hid (show at0 + 1 ≤ q + 1 ∧ q + 1 ≤ c4 from ⟨by omega, hcc⟩); have HGB := Lib.hid (H5.out.lt g2 rfl).1; have HGL := Lib.hid (H5.out.lt g2 rfl).2
              clear hcc
              refine rol_run (by kernel_rfl) [[], [], [1], [0, 1, 2], [], [], [4, 5], [0, 1, 2, 3, 4, 5, 6]] (by kernel_rfl) [61, 62, 63, 64, 65, 66, 67, 68] [[], [], [1], [0, 2], [], [], [4, 5], [3, 6, 8]] [0, 0, 0, 0, 0, 0, 0, 1, 1] [0, 0, 0, 0, 0, 0, 0, 1] [1000, 1000, 1000, 1000, 1000, 1000, 1000, 1000, 7] [.val 61 (.slice (some ⟨g2, 0, none⟩) (q + 1) c4), .val 62 (.int .i64 (at0 : Int)), .val 63 (.int .i64 ((at0 + 1 : Nat) : Int)), .val 64 (sliced (some ⟨g2, 0, none⟩) (at0 + 1) (q + 1) c4 1), .val 65 (.slice (some ⟨g2, 0, none⟩) (q + 1) c4), .val 66 (.int .i64 (at0 : Int)), .val 67 (sliced (some ⟨g2, 0, none⟩) at0 (q + 1) c4 1), .mem 5 (rowVT g2 c4 NB (q + 1) (strC ((K ++ [[]]).take (at0 + 1) ++ K.drop at0))), .mem 5 (rowVT g2 c4 NB (q + 1) (strC (K ++ [[]])))] (by kernel_rfl) ?_ (NB) (w7.heap.size) rfl B7.out rfl (fun k => if k = g2 then 1 else 3) ?_ ?_ ?_
              · intro j hj
                have hj3 : j < 9 := hj
                have hj2 : j = 0 ∨ j = 1 ∨ j = 2 ∨ j = 3 ∨ j = 4 ∨ j = 5 ∨ j = 6 ∨ j = 7 ∨ j = 8 := by omega
                clear hj hj3
                rcases hj2 with rfl | rfl | rfl | rfl | rfl | rfl | rfl | rfl | rfl
                · exact trivial
                · exact trivial
                · exact trivial
                · exact trivial
                · exact trivial
                · exact trivial
                · exact trivial
                · exact rowVT_near
                · exact rowVT_near
              · intro j hj0 hj
                have hj1 : 8 ≤ j := hj0
                have hj3 : j < 9 := hj
                have hj2 : j = 8 := by omega
                clear hj0 hj hj1 hj3
                rcases hj2 with rfl
                · exact ⟨_, some g2, rfl, fun b e => by cases e; exact ⟨HGL.out, if_pos rfl⟩, rfl, rfl, row_heap H5.out (fun _ _ => rfl)⟩
              · intro i hi a wx who hG hF
                have hz : a.tmps.size = 78 := hG.size
                have hi3 : i < 8 := hi
                have hi2 : i = 0 ∨ i = 1 ∨ i = 2 ∨ i = 3 ∨ i = 4 ∨ i = 5 ∨ i = 6 ∨ i = 7 := by omega
                clear hi hi3
                rcases hi2 with rfl | rfl | rfl | rfl | rfl | rfl | rfl | rfl
                · exact rol_val rfl rfl rfl (by rw [hz]; decide) (ex_move (Or.inl rfl) (eval_slot ((hG.slots 5 (by decide)).trans rfl))) hG.below
                · exact rol_val rfl rfl rfl (by rw [hz]; decide) (ex_move (Or.inl rfl) (eval_slot ((hG.slots 8 (by decide)).trans rfl))) hG.below
                · exact rol_val rfl rfl rfl (by rw [hz]; decide) (ex_bin rfl (eval_slot (hF 1 (by decide))) rfl (by go_simp) (add1T HAT.out)) hG.below
                · exact rol_val rfl rfl rfl (by rw [hz]; decide) (ex_backT rfl (eval_slot (hF 0 (by decide))) (eval_slot (hF 2 (by decide))) (st_back wx _ (q + 1) c4 (at0 + 1) HAK.out.1 HAK.out.2)) hG.below
                · exact rol_val rfl rfl rfl (by rw [hz]; decide) (ex_move (Or.inl rfl) (eval_slot ((hG.slots 5 (by decide)).trans rfl))) hG.below
                · exact rol_val rfl rfl rfl (by rw [hz]; decide) (ex_move (Or.inl rfl) (eval_slot ((hG.slots 8 (by decide)).trans rfl))) hG.below
                · exact rol_val rfl rfl rfl (by rw [hz]; decide) (ex_backT rfl (eval_slot (hF 4 (by decide))) (eval_slot (hF 5 (by decide))) (st_back wx _ (q + 1) c4 at0 (Nat.le_trans (Nat.le_succ _) HAK.out.1) HAK.out.2)) hG.below
                · exact rol_copyT rfl rfl rfl rfl (eval_slot (hF 3 (by decide))) (eval_slot (hF 6 (by decide))) (Nat.le_of_succ_le_succ HAK.out.1) HQ.out (by decide) (hF 8 (by decide)) hG.below HGB.out
              · intro a wx who hG hF
                have hrow := hF 7 (of_decide_eq_true (by kernel_rfl)) (of_decide_eq_true (by kernel_rfl))
                have hbx := hG.below
                have hnx := hG.new
                rw [hG.frame]
                simp only [List.foldl_cons, List.foldl_nil, List.setIfInBounds_toArray, List.set_cons_zero, List.set_cons_succ]
                generalize a.tmps.getD 61 undef = u61
                generalize a.tmps.getD 62 undef = u62
                generalize a.tmps.getD 63 undef = u63
                generalize a.tmps.getD 64 undef = u64
                generalize a.tmps.getD 65 undef = u65
                generalize a.tmps.getD 66 undef = u66
                generalize a.tmps.getD 67 undef = u67
                generalize a.tmps.getD 68 undef = u68
                clear hF hG
                obtain ⟨_, _, _, _, rfl, -, hT⟩ := hrow
                have hTl : at0 < q + 1 := by omega
                obtain ⟨hc3, hf3, hkc⟩ := row_cellT hT hTl
                have hbw3 : Below wb.heap.size wb wx := by rw [HNB.out]; exact hbx
                have hsrc := cell_keep CY3.out hbw3
                have hbz := hbx.setCell (p := ⟨g2, at0, none⟩) HGB.out (.string (mkB y))
                have hrz := row_setT (k := at0) hT (.string (mkB y))
                have hat3 : (at0 : Int) < ((q + 1 : Nat) : Int) := by omega
                have hks3 : (k : Int) < (s : Int) := by omega
                have hfin : strC (insT K y) = (strC ((K ++ [[]]).take (at0 + 1) ++ K.drop at0)).set at0 (.string (mkB y)) := by
                  rw [HIN.out, ← put_thereT (by rw [HQ.out]; omega)]
                  simp only [strC, List.map_set]
                  rfl
                have hln : (insT K y).length = q + 1 := by rw [HIN.out, List.length_append, List.length_cons, List.length_take, List.length_drop, HQ.out]; omega
                have HFIN := Lib.hid hfin; have HRZ := Lib.hid hrz; have HBZ := Lib.hid hbz; have HLN := Lib.hid hln
                clear hT hfin hrz hbz hbx hnx H50 H5 B7 hln hbw3
                go_wp2
                go_roundw
                case rel => exact ⟨k + 1, insT K y, q + 1, by omega, by go_num, HTK, HLN, by omega, Lib.hid (by rw [HFIN.out]; exact HRZ.out), HBZ⟩
                case measure => simp [intOf]; omega
    · have e : k = s := by omega
      subst e
      have hD2 : K = D := by rw [HK.out, HD.out, List.take_of_length_le (by rw [HLS.out]; exact Nat.le_refl _), HL.out]
      have HD2 := Lib.hid hD2
      clear hD2
      go_wp2
      go_ret
      exact ⟨_, rfl, by rw [← HD2.out, HQ.out]; exact row_base HO.out (by rw [← HNB.out]; exact B2.out.size), below_step B2.out (by rw [HNB.out]; exact HB.out)⟩
end Go.Proofs.YtlbibgofhhdgoaaGreat

namespace Go.Proofs.YtlbibgofhhdgoaaGreat
open Go.RowKit Go.Maps
set_option linter.unusedVariables false
set_option maxRecDepth 100000

theorem refpmay_b (p : Tx) (w : World) (h : p.length ≤ 1000000000) :
    Calls Tryz.prog 17 #[.string (mkB p)] w fun e w' => e = .returned (.bool (pathB p)) ∧ Below w.heap.size w w' := (refpmay_l p w h).mono fun _ _ ⟨a, b⟩ => ⟨a, b.toBelow⟩
theorem refvmay_b (p : Tx) (w : World) (h : p.length ≤ 1000000000) :
    Calls Tryz.prog 44 #[.string (mkB p)] w fun e w' => e = .returned (.bool (okV p)) ∧ Below w.heap.size w w' := (refvmay_l p w h).mono fun _ _ ⟨a, b⟩ => ⟨a, b.toBelow⟩

set_option maxHeartbeats 3200000 in
theorem refdelta17_any (U V : Value) (old now : List Nd) (w : World) (hU : Nds w U old) (hV : Nds w V now) (sa : ∀ n ∈ old, smallN n) (sb : ∀ n ∈ now, smallN n) (la : old.length ≤ 100000) (lb : now.length ≤ 100000) :
    Calls Tryz.prog 26 #[U, V] w fun e w' => ∃ x, e = .returned x ∧ w'.ownsRow w.heap.size 69 3 x (deltaL old now).length (chC (deltaL old now)) ∧ Below w.heap.size w w' := by
  obtain ⟨A, c, rfl, h1, h2, -, -⟩ := hU.ex
  obtain ⟨A', c', rfl, h1', h2', -, -⟩ := hV.ex
  unfold maxLen at h2 h2'
  have kpa := fun w h h' => refpaths_any (.slice A old.length c) (.slice A' now.length c') old now w h h' la lb sa sb
  have hkl := pathsL_len old now
  obtain ⟨n, hn⟩ : ∃ n, old.length = n := ⟨_, rfl⟩
  obtain ⟨m, hm⟩ : ∃ m, now.length = m := ⟨_, rfl⟩
  rw [hn] at h1 hU kpa la hkl ⊢
  rw [hm] at h1' hV kpa lb hkl ⊢
  have SU := Lib.hid hU; have SV := Lib.hid hV
  obtain ⟨D, hD⟩ : ∃ D, deltaL old now = D := ⟨_, rfl⟩
  rw [hD]
  obtain ⟨K, hK⟩ : ∃ K, pathsL old now = K := ⟨_, rfl⟩
  rw [hK] at hkl kpa
  have hDK : D = deltaP K (pickL old) (pickL now) := by rw [← hD, ← hK]; rfl
  obtain ⟨q, hq⟩ : ∃ q, K.length = q := ⟨_, rfl⟩
  rw [hq] at hkl
  have KPA := Lib.hid kpa; have HD := Lib.hid hDK; have HQ := Lib.hid hq
  clear kpa hU hV hn hm sa sb hD hK hDK hq
  have e1 : ∀ args w, (callFunc 19 args).run Tryz.prog w = .ok (.enter 19 args) w := enters_of Tryz.func19 (by kernel_rfl) rfl
  go_enter Tryz.func26, Tryz.ntmps26
  go_upto_region 3 with (go_at_call 48; refine (KPA.out _ SU.out SV.out).mono ?_; rintro e w3 ⟨v1, rfl, hr1, hb3⟩; obtain ⟨aK, cK, rfl, hS⟩ := stsO hr1; rw [HQ.out] at hS ⊢; have hSl := hS.lenE; have B := Lib.hid hb3; have SK := Lib.hid hS; clear hr1 hS hb3 KPA)
  obtain ⟨-, hq1, hq2⟩ := hSl
  unfold maxLen at hq2
  go_wp2
  obtain ⟨w4, hw4⟩ : ∃ v, v = w3 := ⟨_, rfl⟩
  subst hw4
  go_loopw [5, 7] (fun v5 i wr => ∃ (k : Nat) (X : Value), k ≤ q ∧ i = .int .i64 k ∧ X = v5 ∧ Hid (wr.ownsRow w4.heap.size 69 3 X (deltaP (K.take k) (pickL old) (pickL now)).length (chC (deltaP (K.take k) (pickL old) (pickL now)))) ∧ Hid (Below w4.heap.size w4 wr)) (fun _ i _ => q - (intOf i).toNat)
  case atStart => exact ⟨0, _, Nat.zero_le _, rfl, rfl, Lib.hid (World.ownsRow_nil _ _ _ _), Lib.hid (Below.refl _ _)⟩
  case round =>
    obtain ⟨k, X, hk, rfl, rfl, HX, HB⟩ := hrel
    by_cases hlt : k < q
    · have hkl2 : k < K.length := by rw [HQ.out]; exact hlt
      have hkb : (k : Int) < (q : Int) := by omega
      have hbw := below_step B.out HB.out
      have SU5 := Lib.hid (SU.out.below hbw); have SV5 := Lib.hid (SV.out.below hbw)
      obtain ⟨bk, ok, rfl, ck⟩ := (SK.out.belowB HB.out).atT k hkl2
      have hsu := deltaP_succ (f := pickL old) (g := pickL now) hkl2
      obtain ⟨p, hp⟩ : ∃ p, K.getD k [] = p := ⟨_, rfl⟩
      rw [hp] at ck hsu
      have ka := fun w h => refpick_any (.slice A n c) old p w h
      have kb := fun w h => refpick_any (.slice A' m c') now p w h
      obtain ⟨x, hx⟩ : ∃ x, pickL old p = x := ⟨_, rfl⟩
      obtain ⟨y, hy⟩ : ∃ y, pickL now p = y := ⟨_, rfl⟩
      rw [hx] at ka
      rw [hy] at kb
      rw [hx, hy] at hsu
      obtain ⟨P, hP⟩ : ∃ P, deltaP (K.take k) (pickL old) (pickL now) = P := ⟨_, rfl⟩
      have hPl : P.length ≤ 200000 := by rw [← hP]; have h3 := deltaP_len (K.take k) (pickL old) (pickL now); rw [List.length_take] at h3; omega
      rw [hP] at HX hsu
      obtain ⟨np, hnp⟩ : ∃ np, P.length = np := ⟨_, rfl⟩
      rw [hnp] at HX hPl
      obtain ⟨o, ho⟩ : ∃ o, decide (x = y) = o := ⟨_, rfl⟩
      have hpq := mk_beq x y
      rw [ho] at hpq
      have HSU := Lib.hid hsu; have HO := Lib.hid ho; have HNP := Lib.hid hnp; have CP := Lib.hid ck; have KA := Lib.hid ka; have KB := Lib.hid kb; have HKQ := Lib.hid hlt; have HNW := Lib.hid (Nat.le_refl wr.heap.size)
      clear hkl2 hp hx hy hP hsu ho hnp ck ka kb hbw
      go_upto_region 6 with fail
      refine rol_run (by kernel_rfl) [[], [], [], [1, 2], [1, 2, 3], [0, 1, 2, 3, 4], [], [], [], [7, 8], [7, 8, 9], [0, 1, 2, 3, 4, 5, 6, 7, 8, 9, 10], [0, 1, 2, 3, 4, 5, 6, 7, 8, 9, 10, 11], [0, 1, 2, 3, 4, 5, 6, 7, 8, 9, 10, 11, 12]] (by kernel_rfl) [19, 20, 21, 22, 23, 24, 25, 26, 27, 28, 29, 30, 8, 9] [[], [], [], [1, 2], [3], [0, 4], [], [], [], [7, 8], [9], [6, 10], [5], [11]] [0, 0, 0, 0, 0, 0, 0, 0, 0, 0, 0, 0, 0, 0] [0, 0, 0, 0, 0, 0, 0, 0, 0, 0, 0, 0, 0, 0] [1000, 1000, 1000, 1000, 1000, 1000, 1000, 1000, 1000, 1000, 1000, 1000, 1000, 1000] [.val 19 (.slice A n c), .val 20 (.slice (some ⟨bk, ok, none⟩) q cK), .val 21 (.int .i64 (k : Int)), .val 22 (.pointer (some ⟨bk, ok + k, none⟩)), .val 23 (.string (mkB p)), .val 24 (.string (mkB x)), .val 25 ((.slice A' m c')), .val 26 (.slice (some ⟨bk, ok, none⟩) q cK), .val 27 (.int .i64 (k : Int)), .val 28 (.pointer (some ⟨bk, ok + k, none⟩)), .val 29 (.string (mkB p)), .val 30 (.string (mkB y)), .val 8 (.string (mkB x)), .val 9 (.string (mkB y))] (by kernel_rfl) ?_ (wr.heap.size) (wr.heap.size) rfl (Below.refl _ _) rfl (fun _ => 0) ?_ ?_ ?_
      · intro j hj
        have hj3 : j < 14 := hj
        have hj2 : j = 0 ∨ j = 1 ∨ j = 2 ∨ j = 3 ∨ j = 4 ∨ j = 5 ∨ j = 6 ∨ j = 7 ∨ j = 8 ∨ j = 9 ∨ j = 10 ∨ j = 11 ∨ j = 12 ∨ j = 13 := by omega
        clear hj hj3
        rcases hj2 with rfl | rfl | rfl | rfl | rfl | rfl | rfl | rfl | rfl | rfl | rfl | rfl | rfl | rfl
        · exact trivial
        · exact trivial
        · exact trivial
        · exact trivial
        · exact trivial
        · exact trivial
        · exact trivial
        · exact trivial
        · exact trivial
        · exact trivial
        · exact trivial
        · exact trivial
        · exact trivial
        · exact trivial
      · intro j hj0 hj
        exact absurd hj (Nat.not_lt.2 hj0)
      · intro i hi a wx who hG hF
        have hz : a.tmps.size = 45 := hG.size
        have hi3 : i < 14 := hi
        have hi2 : i = 0 ∨ i = 1 ∨ i = 2 ∨ i = 3 ∨ i = 4 ∨ i = 5 ∨ i = 6 ∨ i = 7 ∨ i = 8 ∨ i = 9 ∨ i = 10 ∨ i = 11 ∨ i = 12 ∨ i = 13 := by omega
        clear hi hi3
        rcases hi2 with rfl | rfl | rfl | rfl | rfl | rfl | rfl | rfl | rfl | rfl | rfl | rfl | rfl | rfl
        · exact rol_val rfl rfl rfl (by rw [hz]; decide) (ex_move (Or.inl rfl) (eval_slot ((hG.slots 0 (by decide)).trans rfl))) hG.below
        · exact rol_val rfl rfl rfl (by rw [hz]; decide) (ex_move (Or.inl rfl) (eval_slot ((hG.slots 6 (by decide)).trans rfl))) hG.below
        · exact rol_val rfl rfl rfl (by rw [hz]; decide) (ex_move (Or.inl rfl) (eval_slot ((hG.slots 7 (by decide)).trans rfl))) hG.below
        · exact rol_val rfl rfl rfl (by rw [hz]; decide) (ex_index rfl (eval_slot (hF 1 (by decide))) (eval_slot (hF 2 (by decide))) (idx_stsT HKQ.out)) hG.below
        · exact rol_val rfl rfl rfl (by rw [hz]; decide) (ex_load rfl (eval_slot (hF 3 (by decide))) (ld_strT (cell_keep CP.out hG.below))) hG.below
        · refine rol_call rfl rfl rfl (by rw [hz]; decide) (ex_call rfl (by simp [eval_slot (hF 0 (by decide)), eval_slot (hF 4 (by decide))]) e1) (KA.out wx (SU5.out.below hG.below)) ?_ hG.below (Nat.le_trans HNW.out hG.new)
          rintro e w1 ⟨rfl, hb1⟩
          exact ⟨_, rfl, hb1, .inl rfl⟩
        · exact rol_val rfl rfl rfl (by rw [hz]; decide) (ex_move (Or.inl rfl) (eval_slot ((hG.slots 1 (by decide)).trans rfl))) hG.below
        · exact rol_val rfl rfl rfl (by rw [hz]; decide) (ex_move (Or.inl rfl) (eval_slot ((hG.slots 6 (by decide)).trans rfl))) hG.below
        · exact rol_val rfl rfl rfl (by rw [hz]; decide) (ex_move (Or.inl rfl) (eval_slot ((hG.slots 7 (by decide)).trans rfl))) hG.below
        · exact rol_val rfl rfl rfl (by rw [hz]; decide) (ex_index rfl (eval_slot (hF 7 (by decide))) (eval_slot (hF 8 (by decide))) (idx_stsT HKQ.out)) hG.below
        · exact rol_val rfl rfl rfl (by rw [hz]; decide) (ex_load rfl (eval_slot (hF 9 (by decide))) (ld_strT (cell_keep CP.out hG.below))) hG.below
        · refine rol_call rfl rfl rfl (by rw [hz]; decide) (ex_call rfl (by simp [eval_slot (hF 6 (by decide)), eval_slot (hF 10 (by decide))]) e1) (KB.out wx (SV5.out.below hG.below)) ?_ hG.below (Nat.le_trans HNW.out hG.new)
          rintro e w1 ⟨rfl, hb1⟩
          exact ⟨_, rfl, hb1, .inl rfl⟩
        · exact rol_val rfl rfl rfl (by rw [hz]; decide) (ex_move (Or.inr rfl) (eval_slot (hF 5 (by decide)))) hG.below
        · exact rol_val rfl rfl rfl (by rw [hz]; decide) (ex_move (Or.inr rfl) (eval_slot (hF 11 (by decide)))) hG.below
      · intro a wx who hG hF
        have fv8 : a.tmps.getD 8 undef = .string (mkB x) := eval_slot (s := 8) (hF 12 (of_decide_eq_true (by kernel_rfl)) (of_decide_eq_true (by kernel_rfl)))
        have fv9 : a.tmps.getD 9 undef = .string (mkB y) := eval_slot (s := 9) (hF 13 (of_decide_eq_true (by kernel_rfl)) (of_decide_eq_true (by kernel_rfl)))
        have hbx := hG.below
        have hnx := hG.new
        rw [hG.frame]
        simp only [List.foldl_cons, List.foldl_nil, List.setIfInBounds_toArray, List.set_cons_zero, List.set_cons_succ]
        generalize a.tmps.getD 19 undef = u19
        generalize a.tmps.getD 20 undef = u20
        generalize a.tmps.getD 21 undef = u21
        generalize a.tmps.getD 22 undef = u22
        generalize a.tmps.getD 23 undef = u23
        generalize a.tmps.getD 24 undef = u24
        generalize a.tmps.getD 25 undef = u25
        generalize a.tmps.getD 26 undef = u26
        generalize a.tmps.getD 27 undef = u27
        generalize a.tmps.getD 28 undef = u28
        generalize a.tmps.getD 29 undef = u29
        generalize a.tmps.getD 30 undef = u30
        rw [fv8]
        rw [fv9]
        clear hF hG fv8 fv9
        have HX5 := Lib.hid (ownsRow_belowB HX.out hbx)
        have HB5 := Lib.hid (below_step HB.out hbx)
        have cp := cell_keep CP.out hbx
        have HNS := Lib.hid HB5.out.size
        clear hbx hnx SU5 SV5 CP KA KB HNW
        cases o with
        | true =>
          have HS2 := Lib.hid (show deltaP (K.take (k + 1)) (pickL old) (pickL now) = P by rw [HSU.out, if_pos (of_decide_eq_true HO.out), List.append_nil])
          go_wp2
          go_roundw
          case rel => exact ⟨k + 1, _, by omega, by go_num, rfl, Lib.hid (by rw [HS2.out, HNP.out]; exact HX5.out), HB5⟩
          case measure => simp [intOf]; omega
        | false =>
          have HS2 := Lib.hid (show deltaP (K.take (k + 1)) (pickL old) (pickL now) = P ++ [(p, x, y)] by rw [HSU.out, if_neg (of_decide_eq_false HO.out)])
          go_wp2_with (at_builtin; refine wpList_push_ch rfl _ _ rfl w4.heap.size X P np HNP.out rfl HX5.out p x y _ rfl rfl (by omega) HNS.out ?_; intro a7 c7 w7 h7 hg7; have HX7 := Lib.hid h7; have HB7 := Lib.hid (HB5.out.grown hg7 HNS.out (fun now e => (own_lt HX5.out e).1)); clear h7 hg7 cp)
          go_roundw
          case rel => exact ⟨k + 1, _, by omega, by go_num, rfl, Lib.hid (by rw [HS2.out, List.length_append, HNP.out]; exact HX7.out), HB7⟩
          case measure => simp [intOf]; omega
    · have e : k = q := by omega
      subst e
      have hP : deltaP (K.take k) (pickL old) (pickL now) = D := by rw [List.take_of_length_le (by rw [HQ.out]; exact Nat.le_refl _)]; exact HD.out.symm
      rw [hP] at HX
      clear hP
      go_wp2
      go_ret
      exact ⟨_, rfl, row_base HX.out B.out.size, below_step B.out HB.out⟩

end Go.Proofs.YtlbibgofhhdgoaaGreat
