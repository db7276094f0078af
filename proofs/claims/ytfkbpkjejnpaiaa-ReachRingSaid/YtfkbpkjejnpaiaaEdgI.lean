/- How often a pair is there, where edges lead, whence they come; is a number one of some; two lists' sameness: of the document. -/
import Derived.Test.YtfkbpkjejnpaiaaEdgH
namespace Go.Proofs.Ytfkbpkjejnpaiaa
open Go.RowKit
set_option maxRecDepth 100000

set_option maxHeartbeats 1600000 in
theorem refmany_any (V : Value) (l : List Ed) (f t : Int) (w : World) (h : Eds w V l) (hok : okE l = true) :
    Calls Try.prog 21 #[V, .int .i64 f, .int .i64 t] w fun e w' => e = .returned (.int .i64 (manyE l f t)) ∧ w' = w := by
  obtain ⟨a, c, rfl, h1, h2, -, -⟩ := h.ex
  unfold maxLen at h2
  have hbd : ∀ k, 0 ≤ manyE (l.take k) f t ∧ manyE (l.take k) f t ≤ topE := fun k => many_bd (okE_take hok k) f t
  obtain ⟨R, hR⟩ : ∃ R, manyE l f t = R := ⟨_, rfl⟩
  rw [hR]
  obtain ⟨n, hn⟩ : ∃ n, l.length = n := ⟨_, rfl⟩
  rw [hn] at h h1 ⊢
  have ST := Lib.hid h; have HN := Lib.hid hn; have HBD := Lib.hid hbd; have HR := Lib.hid hR
  clear h hn hbd hok hR
  go_enter Try.func21, Try.ntmps21
  go_wp2
  go_loop [7, 8] (fun s i => ∃ (k : Nat) (S : Int), k ≤ n ∧ s = .int .i64 S ∧ i = .int .i64 k ∧ Hid (manyE (l.take k) f t = S)) (fun _ i => n - (intOf i).toNat)
  case atStart => exact ⟨0, 0, Nat.zero_le _, rfl, rfl, Lib.hid rfl⟩
  case round =>
    obtain ⟨k, S, hk, rfl, rfl, HS⟩ := hrel
    by_cases hlt : k < n
    · have hkl : k < l.length := by rw [HN.out]; exact hlt
      obtain ⟨b, off, rfl, -, hc0, hc1, hc2⟩ := ST.out.at k hkl
      have htk := ed_take hkl
      obtain ⟨y, hy⟩ : ∃ y, y = l.getD k zE := ⟨_, rfl⟩
      rw [← hy] at hc0 hc1 hc2 htk
      obtain ⟨y1, y2, y3⟩ := y
      simp only at hc0 hc1 hc2
      have hs := manyE_app (l.take k) [(y1, y2, y3)] f t
      rw [← htk, HS.out, manyE_one] at hs
      have b2 := HBD.out (k + 1)
      have hp : isP f t (y1, y2, y3) = (decide (y1 = f) && decide (y2 = t)) := rfl
      rw [hs, hp] at b2
      rw [hp] at hs
      have HS2 := Lib.hid hs; have B2 := Lib.hid b2
      clear hy htk hs b2 hp
      have hkb : (k : Int) < (n : Int) := by omega
      by_cases x1 : y1 = f
      · have d1 : (y1 == f) = true := by simp [x1]
        by_cases x2 : y2 = t
        · have d2 : (y2 == t) = true := by simp [x2]
          have hb := B2.out
          have hs := HS2.out
          simp only [decide_eq_true x1, decide_eq_true x2, Bool.and_self, if_true] at hb hs
          have hb1 : 0 ≤ S + y3 := hb.1
          have hb2 : S + y3 ≤ 1099511627776 := hb.2
          have HS3 := Lib.hid hs
          clear hb hs x1 x2
          go_wp2
          go_round
          case rel => exact ⟨k + 1, S + y3, by omega, rfl, by go_num, HS3⟩
          case measure => simp [intOf]; omega
        · have d2 : (y2 == t) = false := by simp [x2]
          have hs := HS2.out
          rw [decide_eq_false x2, Bool.and_false] at hs
          simp only [Bool.false_eq_true, if_false, Int.add_zero] at hs
          have HS3 := Lib.hid hs
          clear hs x1 x2
          go_wp2
          go_round
          case rel => exact ⟨k + 1, S, by omega, rfl, by go_num, HS3⟩
          case measure => simp [intOf]; omega
      · have d1 : (y1 == f) = false := by simp [x1]
        have hs := HS2.out
        rw [decide_eq_false x1, Bool.false_and] at hs
        simp only [Bool.false_eq_true, if_false, Int.add_zero] at hs
        have HS3 := Lib.hid hs
        clear hs x1
        go_wp2
        go_round
        case rel => exact ⟨k + 1, S, by omega, rfl, by go_num, HS3⟩
        case measure => simp [intOf]; omega
    · go_wp2
      go_ret
      have h5 := HS.out
      rw [List.take_of_length_le (by rw [HN.out]; omega), HR.out] at h5
      exact ⟨by rw [h5]; rfl, rfl⟩

set_option maxHeartbeats 1600000 in
theorem refnext_any (V : Value) (l : List Ed) (z : Int) (w : World) (h : Eds w V l) (hl : l.length ≤ 1000000) :
    Calls Try.prog 28 #[V, .int .i64 z] w fun e w' => ∃ v, e = .returned v ∧ w'.ownsRow w.heap.size 3 1 v (nextE l z).length (intZ (nextE l z)) ∧ Below w.heap.size w w' := by
  obtain ⟨a, c, rfl, -⟩ := h.ex
  obtain ⟨M, hM⟩ : ∃ M, nextE l z = M := ⟨_, rfl⟩
  rw [hM]
  obtain ⟨n, hn⟩ : ∃ n, l.length = n := ⟨_, rfl⟩
  rw [hn] at h hl ⊢
  have ST := Lib.hid h; have HN := Lib.hid hn; have HM := Lib.hid hM
  clear h hn hM
  go_enter Try.func28, Try.ntmps28
  go_wp2
  go_loopw [5, 6] (fun v i wr => ∃ k m : Nat, k ≤ n ∧ m ≤ k ∧ i = .int .i64 k ∧ Hid ((nextE (l.take k) z).length = m) ∧ Hid (wr.ownsRow w.heap.size 3 1 v m (intZ (nextE (l.take k) z))) ∧ Hid (Below w.heap.size w wr)) (fun _ i _ => n - (intOf i).toNat)
  case atStart => exact ⟨0, 0, Nat.zero_le _, Nat.le_refl _, rfl, Lib.hid rfl, Lib.hid (World.ownsRow_nil _ _ _ _), Lib.hid (Below.refl _ _)⟩
  case round =>
    obtain ⟨k, m, hk, hmk, rfl, HL, HOWN, HB⟩ := hrel
    by_cases hlt : k < n
    · have hkl : k < l.length := by rw [HN.out]; exact hlt
      obtain ⟨b, off, rfl, -, hc0, hc1, hc2⟩ := (ST.out.below HB.out).at k hkl
      have htk := ed_take hkl
      obtain ⟨y, hy⟩ : ∃ y, y = l.getD k zE := ⟨_, rfl⟩
      rw [← hy] at hc0 hc1 hc2 htk
      obtain ⟨y1, y2, y3⟩ := y
      simp only at hc0 hc1 hc2
      have hs := nextE_snoc (l.take k) z (y1, y2, y3)
      rw [← htk] at hs
      simp only at hs
      have hkb : (k : Int) < (n : Int) := by omega
      clear hy htk
      by_cases x : y1 = z
      · have d : (y1 == z) = true := by simp [x]
        rw [if_pos x] at hs
        have HS := Lib.hid hs
        clear hs x
        go_wp2_with (at_builtin; refine wpList_append_new rfl _ _ 23 rfl w.heap.size 3 (.int .i64 0) 1 8 Try.underlying23 Try.info_int rfl (by decide) _ m _ rfl HOWN.out [.int .i64 y2] rfl rfl rfl (by omega) (by unfold maxLen; omega) HB.out.size ?_; intro v3 w3 hown3 hb3; have HO3 := Lib.hid hown3; have HB3 := Lib.hid (HB.out.trans hb3.toBelow); clear hown3 hb3)
        go_roundw
        case rel => exact ⟨k + 1, m + 1, by omega, by omega, by go_num, Lib.hid (by rw [HS.out, List.length_append, HL.out]; rfl), Lib.hid (by rw [HS.out, intZ_snoc]; exact HO3.out), HB3⟩
        case measure => simp [intOf]; omega
      · have d : (y1 == z) = false := by simp [x]
        rw [if_neg x, List.append_nil] at hs
        have HS := Lib.hid hs
        clear hs x
        go_wp2
        go_roundw
        case rel => exact ⟨k + 1, m, by omega, by omega, by go_num, Lib.hid (by rw [HS.out]; exact HL.out), Lib.hid (by rw [HS.out]; exact HOWN.out), HB⟩
        case measure => simp [intOf]; omega
    · go_wp2
      go_ret
      have h5 := HOWN.out
      have h6 := HL.out
      rw [List.take_of_length_le (by rw [HN.out]; omega), HM.out] at h5 h6
      rw [← h6] at h5
      exact ⟨_, rfl, h5, HB.out⟩

set_option maxHeartbeats 1600000 in
theorem refback_any (V : Value) (l : List Ed) (z : Int) (w : World) (h : Eds w V l) (hl : l.length ≤ 1000000) :
    Calls Try.prog 26 #[V, .int .i64 z] w fun e w' => ∃ v, e = .returned v ∧ w'.ownsRow w.heap.size 3 1 v (backE l z).length (intZ (backE l z)) ∧ Below w.heap.size w w' := by
  obtain ⟨a, c, rfl, -⟩ := h.ex
  obtain ⟨M, hM⟩ : ∃ M, backE l z = M := ⟨_, rfl⟩
  rw [hM]
  obtain ⟨n, hn⟩ : ∃ n, l.length = n := ⟨_, rfl⟩
  rw [hn] at h hl ⊢
  have ST := Lib.hid h; have HN := Lib.hid hn; have HM := Lib.hid hM
  clear h hn hM
  go_enter Try.func26, Try.ntmps26
  go_wp2
  go_loopw [5, 6] (fun v i wr => ∃ k m : Nat, k ≤ n ∧ m ≤ k ∧ i = .int .i64 k ∧ Hid ((backE (l.take k) z).length = m) ∧ Hid (wr.ownsRow w.heap.size 3 1 v m (intZ (backE (l.take k) z))) ∧ Hid (Below w.heap.size w wr)) (fun _ i _ => n - (intOf i).toNat)
  case atStart => exact ⟨0, 0, Nat.zero_le _, Nat.le_refl _, rfl, Lib.hid rfl, Lib.hid (World.ownsRow_nil _ _ _ _), Lib.hid (Below.refl _ _)⟩
  case round =>
    obtain ⟨k, m, hk, hmk, rfl, HL, HOWN, HB⟩ := hrel
    by_cases hlt : k < n
    · have hkl : k < l.length := by rw [HN.out]; exact hlt
      obtain ⟨b, off, rfl, -, hc0, hc1, hc2⟩ := (ST.out.below HB.out).at k hkl
      have htk := ed_take hkl
      obtain ⟨y, hy⟩ : ∃ y, y = l.getD k zE := ⟨_, rfl⟩
      rw [← hy] at hc0 hc1 hc2 htk
      obtain ⟨y1, y2, y3⟩ := y
      simp only at hc0 hc1 hc2
      have hs := backE_snoc (l.take k) z (y1, y2, y3)
      rw [← htk] at hs
      simp only at hs
      have hkb : (k : Int) < (n : Int) := by omega
      clear hy htk
      by_cases x : y2 = z
      · have d : (y2 == z) = true := by simp [x]
        rw [if_pos x] at hs
        have HS := Lib.hid hs
        clear hs x
        go_wp2_with (at_builtin; refine wpList_append_new rfl _ _ 23 rfl w.heap.size 3 (.int .i64 0) 1 8 Try.underlying23 Try.info_int rfl (by decide) _ m _ rfl HOWN.out [.int .i64 y1] rfl rfl rfl (by omega) (by unfold maxLen; omega) HB.out.size ?_; intro v3 w3 hown3 hb3; have HO3 := Lib.hid hown3; have HB3 := Lib.hid (HB.out.trans hb3.toBelow); clear hown3 hb3)
        go_roundw
        case rel => exact ⟨k + 1, m + 1, by omega, by omega, by go_num, Lib.hid (by rw [HS.out, List.length_append, HL.out]; rfl), Lib.hid (by rw [HS.out, intZ_snoc]; exact HO3.out), HB3⟩
        case measure => simp [intOf]; omega
      · have d : (y2 == z) = false := by simp [x]
        rw [if_neg x, List.append_nil] at hs
        have HS := Lib.hid hs
        clear hs x
        go_wp2
        go_roundw
        case rel => exact ⟨k + 1, m, by omega, by omega, by go_num, Lib.hid (by rw [HS.out]; exact HL.out), Lib.hid (by rw [HS.out]; exact HOWN.out), HB⟩
        case measure => simp [intOf]; omega
    · go_wp2
      go_ret
      have h5 := HOWN.out
      have h6 := HL.out
      rw [List.take_of_length_le (by rw [HN.out]; omega), HM.out] at h5 h6
      rw [← h6] at h5
      exact ⟨_, rfl, h5, HB.out⟩


set_option maxHeartbeats 800000 in
theorem refhasz_any (V : Value) (zs : List Int) (x : Int) (w : World) (h : Ints w V zs) :
    Calls Try.prog 27 #[V, .int .i64 x] w fun e w' => e = .returned (.bool (hasB zs x)) ∧ w' = w := by
  obtain ⟨a, c, rfl, h1, h2, _, h3⟩ := h.ex
  clear h
  unfold maxLen at h2
  obtain ⟨n, hn⟩ : ∃ n, zs.length = n := ⟨_, rfl⟩
  rw [hn] at h1 h3 ⊢
  have H3 := Lib.hid h3; have HN := Lib.hid hn; clear h3 hn
  go_enter Try.func27, Try.ntmps27
  go_wp2
  go_loop [5] (fun i => ∃ k : Nat, k ≤ n ∧ i = .int .i64 k ∧ Hid (hasB (zs.drop k) x = hasB zs x)) (fun i => n - (intOf i).toNat)
  case atStart => exact ⟨0, Nat.zero_le _, rfl, Lib.hid (by simp)⟩
  case round =>
    obtain ⟨k, hk, rfl, H⟩ := hrel
    by_cases hlt : k < n
    · obtain ⟨b, off, rfl, _, hc⟩ := H3.out (by omega)
      have hcell := hc k hlt
      clear hc
      obtain ⟨y, hy⟩ : ∃ y, y = zs.getD k 0 := ⟨_, rfl⟩
      rw [← hy] at hcell
      have hd := hasB_drop zs k x (by rw [HN.out]; exact hlt)
      rw [← hy] at hd
      have HD := Lib.hid hd; clear hd hy
      by_cases hyx : y = x
      · have hb : (y == x) = true := by simpa using hyx
        have HE := Lib.hid hyx; clear hyx
        go_wp2
        go_ret
        exact ⟨ret_bool (by rw [← H.out, HD.out]; simp [HE.out]), rfl⟩
      · have hb : (y == x) = false := by simpa using hyx
        have h5 : hasB (zs.drop (k + 1)) x = hasB zs x := by rw [← H.out, HD.out]; simp [hyx]
        have H5 := Lib.hid h5; clear h5 HD hyx
        go_wp2
        go_round
        case rel => exact ⟨k + 1, by omega, by go_num, H5⟩
        case measure => simp [intOf]; omega
    · go_wp2
      go_ret
      exact ⟨ret_bool (by rw [← H.out, hasB_end zs k x (by rw [HN.out]; omega)]), rfl⟩

theorem take_getD {l : List Int} {k : Nat} (h : k < l.length) : l.take (k + 1) = l.take k ++ [l.getD k 0] := by
  rw [List.take_succ_eq_append_getElem h]; simp [List.getD_eq_getElem?_getD, List.getElem?_eq_getElem h]

set_option maxHeartbeats 1600000 in
theorem refints_any (U V : Value) (xs ys : List Int) (w : World) (hu : Ints w U xs) (hv : Ints w V ys) :
    Calls Try.prog 23 #[U, V] w fun e w' => e = .returned (.bool (decide (xs = ys))) ∧ Below w.heap.size w w' := by
  obtain ⟨a, c, rfl, h1, h2, -, -⟩ := hu.ex
  obtain ⟨a', c', rfl, h1', h2', -, -⟩ := hv.ex
  unfold maxLen at h2 h2'
  obtain ⟨n, hn⟩ : ∃ n, xs.length = n := ⟨_, rfl⟩
  obtain ⟨m, hm⟩ : ∃ m, ys.length = m := ⟨_, rfl⟩
  rw [hn] at h1 hu ⊢
  rw [hm] at h1' hv ⊢
  obtain ⟨R, hR⟩ : ∃ R, decide (xs = ys) = R := ⟨_, rfl⟩
  rw [hR]
  have HN := Lib.hid hn; have HM := Lib.hid hm; have SU := Lib.hid hu; have SV := Lib.hid hv; have HR := Lib.hid hR
  clear hu hv hn hm hR
  by_cases hl : n = m
  · subst hl
    have h0 : ((n : Int) != (n : Int)) = false := by simp
    go_enter Try.func23, Try.ntmps23
    go_wp2
    go_loopw [5] (fun i wr => ∃ k q : Nat, k ≤ n ∧ i = .int .i64 k ∧ wr = w.drewN q ∧ Hid (xs.take k = ys.take k)) (fun i _ => n - (intOf i).toNat)
    case atStart => exact ⟨0, 0, Nat.zero_le _, rfl, rfl, Lib.hid (by simp)⟩
    case round =>
      obtain ⟨k, q, hk, rfl, rfl, H⟩ := hrel
      by_cases hlt : k < n
      · have hkl : k < xs.length := by rw [HN.out]; exact hlt
        have hkm : k < ys.length := by rw [HM.out]; exact hlt
        obtain ⟨Wq, hWq⟩ : ∃ Wq, w.drewN q = Wq := ⟨_, rfl⟩
        have hbq : Below w.heap.size w Wq := by rw [← hWq]; exact below_q ⟨q, rfl⟩
        obtain ⟨b, off, rfl⟩ := SU.out.some (by omega)
        obtain ⟨b', off', rfl⟩ := SV.out.some (by omega)
        have hc0 := cell_keep (SU.out.cell k hlt) hbq
        have hd0 := cell_keep (SV.out.cell k hlt) hbq
        obtain ⟨x, hx⟩ : ∃ x, x = xs.getD k 0 := ⟨_, rfl⟩
        obtain ⟨y, hy⟩ : ∃ y, y = ys.getD k 0 := ⟨_, rfl⟩
        rw [← hx] at hc0
        rw [← hy] at hd0
        have e1 : xs.take (k + 1) = xs.take k ++ [x] := by rw [take_getD hkl, hx]
        have e2 : ys.take (k + 1) = ys.take k ++ [y] := by rw [take_getD hkm, hy]
        rw [hWq]
        have HWq := Lib.hid hWq; have E1 := Lib.hid e1; have E2 := Lib.hid e2; clear hx hy hbq hWq e1 e2
        obtain ⟨o, ho⟩ : ∃ o, decide (x = y) = o := ⟨_, rfl⟩
        have heq : (x != y) = !o := by rw [← ho]; rfl
        have HO := Lib.hid ho; clear ho
        have hkb : (k : Int) < (n : Int) := by omega
        cases o
        · simp only [Bool.not_false] at heq
          go_wp2_with fail
          go_quiet (fail)
          go_wp2
          go_ret
          refine ⟨?_, below_step (below_q ⟨q, HWq.out.symm⟩) (below_q ⟨nq, rfl⟩)⟩
          rw [← HR.out, decide_eq_false fun e => ?_]
          · rfl
          · have h5 := E1.out
            rw [e, E2.out] at h5
            have h6 := List.append_inj_right' h5 rfl
            simp only [List.cons.injEq, and_true] at h6
            have := of_decide_eq_false HO.out
            exact this h6.symm
        · simp only [Bool.not_true] at heq
          go_wp2_with fail
          go_quiet (fail)
          go_wp2
          have H5 : Hid (xs.take (k + 1) = ys.take (k + 1)) := Lib.hid (by rw [E1.out, E2.out, H.out, of_decide_eq_true HO.out])
          go_roundw
          case rel => exact ⟨k + 1, q + nq, by omega, by go_num, by rw [← HWq.out, World.drewN_drewN], H5⟩
          case measure => simp [intOf]; omega
      · go_wp2
        go_ret
        refine ⟨?_, below_q ⟨q, rfl⟩⟩
        have e : k = n := by omega
        subst e
        have h5 := H.out
        rw [List.take_of_length_le (by rw [HN.out]; exact Nat.le_refl _), List.take_of_length_le (by rw [HM.out]; exact Nat.le_refl _)] at h5
        rw [← HR.out, decide_eq_true h5]; rfl
  · have h0 : ((n : Int) != (m : Int)) = true := by simp; omega
    have HL := Lib.hid hl; clear hl
    go_enter Try.func23, Try.ntmps23
    go_wp2
    go_ret
    refine ⟨?_, Below.refl _ _⟩
    rw [← HR.out, decide_eq_false fun e => HL.out (by rw [← HN.out, ← HM.out, e])]; rfl

set_option maxHeartbeats 1600000 in
theorem refsame_any (U V : Value) (xs ys : List Ed) (w : World) (hu : Eds w U xs) (hv : Eds w V ys) :
    Calls Try.prog 36 #[U, V] w fun e w' => e = .returned (.bool (decide (xs = ys))) ∧ Below w.heap.size w w' := by
  obtain ⟨a, c, rfl, h1, h2, -, -⟩ := hu.ex
  obtain ⟨a', c', rfl, h1', h2', -, -⟩ := hv.ex
  unfold maxLen at h2 h2'
  obtain ⟨n, hn⟩ : ∃ n, xs.length = n := ⟨_, rfl⟩
  obtain ⟨m, hm⟩ : ∃ m, ys.length = m := ⟨_, rfl⟩
  rw [hn] at h1 hu ⊢
  rw [hm] at h1' hv ⊢
  obtain ⟨R, hR⟩ : ∃ R, decide (xs = ys) = R := ⟨_, rfl⟩
  rw [hR]
  have HN := Lib.hid hn; have HM := Lib.hid hm; have SU := Lib.hid hu; have SV := Lib.hid hv; have HR := Lib.hid hR
  clear hu hv hn hm hR
  by_cases hl : n = m
  · subst hl
    have h0 : ((n : Int) != (n : Int)) = false := by simp
    go_enter Try.func36, Try.ntmps36
    go_wp2
    go_loopw [5] (fun i wr => ∃ k q : Nat, k ≤ n ∧ i = .int .i64 k ∧ wr = w.drewN q ∧ Hid (xs.take k = ys.take k)) (fun i _ => n - (intOf i).toNat)
    case atStart => exact ⟨0, 0, Nat.zero_le _, rfl, rfl, Lib.hid (by simp)⟩
    case round =>
      obtain ⟨k, q, hk, rfl, rfl, H⟩ := hrel
      by_cases hlt : k < n
      · have hkl : k < xs.length := by rw [HN.out]; exact hlt
        have hkm : k < ys.length := by rw [HM.out]; exact hlt
        obtain ⟨Wq, hWq⟩ : ∃ Wq, w.drewN q = Wq := ⟨_, rfl⟩
        have hbq : Below w.heap.size w Wq := by rw [← hWq]; exact below_q ⟨q, rfl⟩
        obtain ⟨b, off, rfl, -, hc0, hc1, hc2⟩ := (SU.out.below hbq).at k hkl
        obtain ⟨b', off', rfl, -, hd0, hd1, hd2⟩ := (SV.out.below hbq).at k hkm
        obtain ⟨x, hx⟩ : ∃ x, x = xs.getD k zE := ⟨_, rfl⟩
        obtain ⟨y, hy⟩ : ∃ y, y = ys.getD k zE := ⟨_, rfl⟩
        rw [← hx] at hc0 hc1 hc2
        rw [← hy] at hd0 hd1 hd2
        have e1 : xs.take (k + 1) = xs.take k ++ [x] := by rw [ed_take hkl, hx]
        have e2 : ys.take (k + 1) = ys.take k ++ [y] := by rw [ed_take hkm, hy]
        obtain ⟨x1, x2, x3⟩ := x
        obtain ⟨y1, y2, y3⟩ := y
        simp only at hc0 hc1 hc2 hd0 hd1 hd2
        rw [hWq]
        have HWq := Lib.hid hWq; have E1 := Lib.hid e1; have E2 := Lib.hid e2; clear hx hy hbq hWq e1 e2
        have hgd := guard_ed
        have heq := neq_ed x1 x2 x3 y1 y2 y3
        obtain ⟨o, ho⟩ : ∃ o, decide ((x1, x2, x3) = (y1, y2, y3)) = o := ⟨_, rfl⟩
        rw [ho] at heq
        have HO := Lib.hid ho; clear ho
        have hkb : (k : Int) < (n : Int) := by omega
        cases o
        · simp only [Bool.not_false] at heq
          go_wp2_with fail
          go_quiet (fail)
          go_wp2
          go_ret
          refine ⟨?_, below_step (below_q ⟨q, HWq.out.symm⟩) (below_q ⟨nq, rfl⟩)⟩
          rw [← HR.out, decide_eq_false fun e => ?_]
          · rfl
          · have h5 := E1.out
            rw [e, E2.out] at h5
            have h6 := List.append_inj_right' h5 rfl
            simp only [List.cons.injEq, and_true] at h6
            have := of_decide_eq_false HO.out
            exact this h6.symm
        · simp only [Bool.not_true] at heq
          go_wp2_with fail
          go_quiet (fail)
          go_wp2
          have H5 : Hid (xs.take (k + 1) = ys.take (k + 1)) := Lib.hid (by rw [E1.out, E2.out, H.out, of_decide_eq_true HO.out])
          go_roundw
          case rel => exact ⟨k + 1, q + nq, by omega, by go_num, by rw [← HWq.out, World.drewN_drewN], H5⟩
          case measure => simp [intOf]; omega
      · go_wp2
        go_ret
        refine ⟨?_, below_q ⟨q, rfl⟩⟩
        have e : k = n := by omega
        subst e
        have h5 := H.out
        rw [List.take_of_length_le (by rw [HN.out]; exact Nat.le_refl _), List.take_of_length_le (by rw [HM.out]; exact Nat.le_refl _)] at h5
        rw [← HR.out, decide_eq_true h5]; rfl
  · have h0 : ((n : Int) != (m : Int)) = true := by simp; omega
    have HL := Lib.hid hl; clear hl
    go_enter Try.func36, Try.ntmps36
    go_wp2
    go_ret
    refine ⟨?_, Below.refl _ _⟩
    rw [← HR.out, decide_eq_false fun e => HL.out (by rw [← HN.out, ← HM.out, e])]; rfl

end Go.Proofs.Ytfkbpkjejnpaiaa
