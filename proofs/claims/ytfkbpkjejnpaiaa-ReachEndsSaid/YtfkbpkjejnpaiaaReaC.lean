/- Where edges lead from a number: the library's binary search, and next. -/
import Derived.Test.YtfkbpkjejnpaiaaReaA
import Derived.StillTailTactics
namespace Go.Proofs.Ytfkbpkjejnpaiaa
open Go.RowKit
set_option linter.unusedVariables false
set_option maxRecDepth 100000

set_option maxHeartbeats 400000 in
theorem nxcmp_any (x y z f : Int) (w : World) :
    Calls Try.prog 59 #[.agg #[.int .i64 x, .int .i64 y, .int .i64 z], .int .i64 f] w fun e w' => e = .returned (.int .i64 (cmpI x f)) ∧ Below w.heap.size w w' := by
  obtain ⟨T, hT⟩ : ∃ T, cmpI x f = T := ⟨_, rfl⟩
  have kc := fun w => compare_any x f w
  rw [hT] at kc ⊢
  clear hT
  obtain ⟨W, g, hW, hg, d0, d1, d2, hb⟩ := boxE1 w (.int .i64 x) (.int .i64 y) (.int .i64 z) 43
  have HW := Lib.hid hW; have HG := Lib.hid hg; have B := Lib.hid hb
  clear hW hg hb
  go_enter Try.func59, Try.ntmps59
  go_upto_region 1 with fail
  rw [HW.out, HG.out]
  go_wp2_with (go_at_call 57; refine (kc _).mono ?_; rintro e w1 ⟨rfl, rfl⟩)
  go_ret
  exact ⟨rfl, B.out⟩

theorem ok_from {l : List Ed} (h : okE l = true) {s t : Nat} (hst : s ≤ t) (ht : t < l.length) : (l.getD s zE).1 ≤ (l.getD t zE).1 := by
  rcases Nat.lt_or_eq_of_le hst with h1 | rfl
  · have := List.pairwise_iff_getElem.1 (okE_iff.1 h).2 s t (by omega) ht h1
    rw [ltE_iff] at this
    rw [ed_getD ht, ed_getD (by omega)]
    rcases this with h | h
    · exact Int.le_of_lt h
    · exact Int.le_of_eq h.1
  · exact Int.le_refl _
theorem cmpI_neg (x y : Int) : decide (cmpI x y < 0) = decide (x < y) := by
  rcases cmpI_cases x y with ⟨h, e⟩ | ⟨h, e⟩ | ⟨h, e⟩
  · rw [e]; simp [h]
  · rw [e]; simp; omega
  · rw [e]; simp; omega

set_option maxHeartbeats 3200000 in
theorem ebsearch_any (U : Value) (l : List Ed) (f : Int) (w : World) (hU : Eds w U l) (hok : okE l = true) (hl : l.length ≤ 1000000) :
    Calls Try.prog 58 #[U, .int .i64 f, .func (.func 59) #[] #[]] w fun e w' => (∃ (i : Nat) (u : Value), e = .returned (.tuple #[.int .i64 i, u]) ∧ i ≤ l.length ∧ (∀ t, t < i → (l.getD t zE).1 < f) ∧ (∀ t, i ≤ t → t < l.length → f ≤ (l.getD t zE).1)) ∧ Below w.heap.size w w' := by
  obtain ⟨a, c, rfl, h1, h2, -, -⟩ := hU.ex
  unfold maxLen at h2
  obtain ⟨n, hn⟩ : ∃ n, l.length = n := ⟨_, rfl⟩
  rw [hn] at h1 hU hl ⊢
  have SU := Lib.hid hU; have HN := Lib.hid hn; have OK := Lib.hid hok
  clear hU hn hok
  go_enter Try.func58, Try.ntmps58
  go_wp2
  go_loopw [9, 10] (fun s9 s10 wr => ∃ lo hi : Nat, s9 = .int .i64 lo ∧ s10 = .int .i64 hi ∧ lo ≤ hi ∧ hi ≤ n ∧ Hid (∀ t, t < lo → (l.getD t zE).1 < f) ∧ Hid (∀ t, hi ≤ t → t < n → f ≤ (l.getD t zE).1) ∧ Hid (Below w.heap.size w wr)) (fun s9 s10 _ => (intOf s10).toNat - (intOf s9).toNat)
  case atStart => exact ⟨0, n, rfl, rfl, Nat.zero_le _, Nat.le_refl _, Lib.hid fun t ht => absurd ht (Nat.not_lt_zero _), Lib.hid fun t h1 h2 => by omega, Lib.hid (Below.refl _ _)⟩
  case round =>
    obtain ⟨lo, hi, rfl, rfl, hlh, hin, HLO, HHI, HB⟩ := hrel
    by_cases hlt : lo < hi
    · obtain ⟨m, hm⟩ : ∃ m, (lo + hi) / 2 = m := ⟨_, rfl⟩
      have hmi : ((lo : Int) + (hi : Int)) / 2 = (m : Int) := by omega
      have hm1 : lo ≤ m := by omega
      have hm2 : m < hi := by omega
      have hml : m < l.length := by rw [HN.out]; omega
      obtain ⟨b, off, rfl, -, hc0, hc1, hc2⟩ := (SU.out.below HB.out).at m hml
      obtain ⟨y, hy⟩ : ∃ y, y = l.getD m zE := ⟨_, rfl⟩
      rw [← hy] at hc0 hc1 hc2
      obtain ⟨y1, y2, y3⟩ := y
      simp only at hc0 hc1 hc2
      have kc := fun w => nxcmp_any y1 y2 y3 f w
      have hneg := cmpI_neg y1 f
      obtain ⟨O, hO⟩ : ∃ O, cmpI y1 f = O := ⟨_, rfl⟩
      rw [hO] at kc hneg
      have hmn : (m : Int) < (n : Int) := by omega
      have HY := Lib.hid hy; have HNEG := Lib.hid hneg
      clear hy hO hm hml hneg
      by_cases h0 : O < 0
      · have hd : decide (O < 0) = true := by simp [h0]
        have hlow : y1 < f := by have := HNEG.out; rw [hd] at this; simpa using this.symm
        have HLO2 : Hid (∀ t, t < m + 1 → (l.getD t zE).1 < f) := Lib.hid fun t ht => by
          have h1 := ok_from OK.out (s := t) (t := m) (by omega) (by rw [HN.out]; omega)
          rw [← HY.out] at h1
          exact Int.lt_of_le_of_lt h1 hlow
        clear h0 hlow
        go_wp2_with (go_at_call 59; refine (kc _).mono ?_; rintro e w1 ⟨rfl, hb1⟩; have HB1 := Lib.hid (below_step HB.out hb1); clear hb1 kc)
        go_roundw
        case rel => exact ⟨m + 1, hi, by go_num, rfl, by omega, hin, HLO2, HHI, HB1⟩
        case measure => simp [intOf]; omega
      · have hd : decide (O < 0) = false := by simp [h0]
        have hlow : f ≤ y1 := by have := HNEG.out; rw [hd] at this; simpa using this.symm
        have HHI2 : Hid (∀ t, m ≤ t → t < n → f ≤ (l.getD t zE).1) := Lib.hid fun t ht htn => by
          have h1 := ok_from OK.out (s := m) (t := t) ht (by rw [HN.out]; omega)
          rw [← HY.out] at h1
          exact Int.le_trans hlow h1
        clear h0 hlow
        go_wp2_with (go_at_call 59; refine (kc _).mono ?_; rintro e w1 ⟨rfl, hb1⟩; have HB1 := Lib.hid (below_step HB.out hb1); clear hb1 kc)
        go_roundw
        case rel => exact ⟨lo, m, rfl, by go_num, by omega, by omega, HLO, HHI2, HB1⟩
        case measure => simp [intOf]; omega
    · have hle : lo = hi := by omega
      subst hle
      by_cases hln : lo < n
      · have hml : lo < l.length := by rw [HN.out]; omega
        obtain ⟨b, off, rfl, -, hc0, hc1, hc2⟩ := (SU.out.below HB.out).at lo hml
        obtain ⟨y, hy⟩ : ∃ y, y = l.getD lo zE := ⟨_, rfl⟩
        rw [← hy] at hc0 hc1 hc2
        obtain ⟨y1, y2, y3⟩ := y
        simp only at hc0 hc1 hc2
        have kc := fun w => nxcmp_any y1 y2 y3 f w
        obtain ⟨O, hO⟩ : ∃ O, cmpI y1 f = O := ⟨_, rfl⟩
        rw [hO] at kc
        have hmn : (lo : Int) < (n : Int) := by omega
        clear hy hO hml
        go_wp2_with (go_at_call 59; refine (kc _).mono ?_; rintro e w1 ⟨rfl, hb1⟩; have HB1 := Lib.hid (below_step HB.out hb1); clear hb1 kc)
        go_ret2
        exact ⟨⟨lo, _, rfl, hin, HLO.out, HHI.out⟩, HB1.out⟩
      · have hln2 : ¬ (lo : Int) < (n : Int) := by omega
        go_wp2
        go_ret2
        exact ⟨⟨lo, ⟨_, rfl⟩, hin, HLO.out, HHI.out⟩, HB.out⟩

theorem Eds.from {w : World} {a : Option Addr} {n c : Nat} {l : List Ed} (h : Eds w (.slice a n c) l) {i : Nat} (hi : i ≤ n) : Eds w (.slice (if c = i then a else a.map (·.add (i * 3))) (n - i) (c - i)) (l.drop i) := by
  obtain ⟨a', c', hv, h1, h2, h3, h4⟩ := h.ex
  injection hv with e1 e2 e3
  subst e1 e2 e3
  refine ⟨_, _, by rw [List.length_drop], by rw [List.length_drop]; omega, by omega, fun hn => ?_, fun hp => ?_⟩
  · by_cases hc : c = i
    · omega
    · rw [if_neg hc] at hn
      have : a = none := by cases a <;> simp_all
      have := h3 this; omega
  · rw [List.length_drop] at hp
    obtain ⟨b, off, rfl, hb, hc⟩ := h4 (by omega)
    refine ⟨b, off + i * 3, ?_, hb, fun j hj => ?_⟩
    · rw [if_neg (by omega)]; simp [addr_add]
    · rw [List.length_drop] at hj
      have := hc (i + j) (by omega)
      have hg : (l.drop i).getD j zE = l.getD (i + j) zE := by simp [List.getD_eq_getElem?_getD, List.getElem?_drop]
      rw [hg, show off + i * 3 + j * 3 = off + (i + j) * 3 by omega]
      exact this
/-- What a search leaves, and a run from there on. -/
theorem filter_run {l : List Ed} {p : Ed → Bool} {i k : Nat} (hik : i + k ≤ l.length) (h1 : ∀ t, t < i → p (l.getD t zE) = false) (h2 : ∀ t, i ≤ t → t < i + k → p (l.getD t zE) = true) (h3 : ∀ t, i + k ≤ t → t < l.length → p (l.getD t zE) = false) : l.filter p = (l.drop i).take k := by
  have e1 : (l.take i).filter p = [] := List.filter_eq_nil_iff.2 fun x hx => by
    obtain ⟨t, ht, rfl⟩ := List.getElem_of_mem hx
    have ht2 : t < i := by rw [List.length_take] at ht; omega
    have := h1 t ht2
    rw [ed_getD (by omega)] at this
    rw [List.getElem_take, this]; simp
  have e2 : ((l.drop i).take k).filter p = (l.drop i).take k := List.filter_eq_self.2 fun x hx => by
    obtain ⟨t, ht, rfl⟩ := List.getElem_of_mem hx
    have ht2 : t < k := by rw [List.length_take] at ht; omega
    have := h2 (i + t) (by omega) (by omega)
    rw [ed_getD (by omega)] at this
    rw [List.getElem_take, List.getElem_drop]; exact this
  have e3 : ((l.drop i).drop k).filter p = [] := List.filter_eq_nil_iff.2 fun x hx => by
    rw [List.drop_drop] at hx
    obtain ⟨t, ht, rfl⟩ := List.getElem_of_mem hx
    rw [List.length_drop] at ht
    have := h3 (i + k + t) (by omega) (by omega)
    rw [ed_getD (by omega)] at this
    rw [List.getElem_drop, this]; simp
  conv => lhs; rw [← List.take_append_drop i l, List.filter_append, e1, List.nil_append, ← List.take_append_drop k (l.drop i), List.filter_append, e2, e3, List.append_nil]
theorem next_run {l : List Ed} {z : Int} {i k : Nat} (hok : okE l = true) (hik : i + k ≤ l.length) (h1 : ∀ t, t < i → (l.getD t zE).1 < z) (hge : ∀ t, i ≤ t → t < l.length → z ≤ (l.getD t zE).1) (h2 : ∀ t, t < k → ((l.drop i).getD t zE).1 = z) (h3 : k < (l.drop i).length → ((l.drop i).getD k zE).1 ≠ z) :
    nextE l z = ((l.drop i).take k).map (·.2.1) := by
  have hg : ∀ t, (l.drop i).getD t zE = l.getD (i + t) zE := fun t => by simp [List.getD_eq_getElem?_getD, List.getElem?_drop]
  unfold nextE
  rw [filter_run hik (fun t ht => by have := h1 t ht; exact decide_eq_false (by omega)) (fun t hi ht => ?_) (fun t hi ht => ?_)]
  · have := h2 (t - i) (by omega)
    rw [hg, show i + (t - i) = t by omega] at this
    exact decide_eq_true this
  · have h4 := h3 (by rw [List.length_drop]; omega)
    rw [hg] at h4
    have h5 := ok_from hok hi ht
    have h6 := hge (i + k) (by omega) (by omega)
    exact decide_eq_false (by omega)

set_option maxHeartbeats 3200000 in
theorem rnext_any (V : Value) (l : List Ed) (z : Int) (w : World) (h : Eds w V l) (hok : okE l = true) (hl : l.length ≤ 1000000) :
    Calls Try.prog 50 #[V, .int .i64 z] w fun e w' => ∃ v, e = .returned v ∧ w'.ownsRow w.heap.size 3 1 v (nextE l z).length (intZ (nextE l z)) ∧ Below w.heap.size w w' := by
  obtain ⟨a, c, rfl, h1, h2, -, -⟩ := h.ex
  unfold maxLen at h2
  have kb := fun V w h => ebsearch_any V l z w h hok hl
  have hrun := fun i k => next_run (l := l) (z := z) (i := i) (k := k) hok
  obtain ⟨n, hn⟩ : ∃ n, l.length = n := ⟨_, rfl⟩
  rw [hn] at h h1 hl kb ⊢
  simp only [hn] at hrun
  obtain ⟨M, hM⟩ : ∃ M, nextE l z = M := ⟨_, rfl⟩
  rw [hM]
  simp only [hM] at hrun
  have ST := Lib.hid h; have HN := Lib.hid hn; have HR := Lib.hid hrun
  clear h hn hok hM hrun
  go_enter Try.func50, Try.ntmps50
  go_upto_region 3 with (go_at_call 58; refine (kb _ _ ST.out).mono ?_; rintro e w1 ⟨⟨i, fd, rfl, hi, hlo, hhi⟩, hb1⟩; have SD := Lib.hid (Eds.from (ST.out.below hb1) hi); have B := Lib.hid hb1; have HLO := Lib.hid hlo; have HHI := Lib.hid hhi; clear hb1 kb hlo hhi ST)
  obtain ⟨m, hm⟩ : ∃ m, n - i = m := ⟨_, rfl⟩
  have hr2 := fun k => HR.out i k
  have hsd := SD.out
  obtain ⟨D, hD⟩ : ∃ D, l.drop i = D := ⟨_, rfl⟩
  rw [hm, hD] at hsd
  simp only [hD] at hr2
  have hml : D.length = m := by rw [← hD, List.length_drop, HN.out, hm]
  have hic : i ≤ c := by omega
  obtain ⟨A, hA⟩ : ∃ A, (if c = i then a else a.map (·.add (i * 3))) = A := ⟨_, rfl⟩
  rw [hA] at hsd
  have HSD := Lib.hid hsd; have HA := Lib.hid hA; have HD := Lib.hid hml; have HR2 := Lib.hid hr2; have HM := Lib.hid hm
  clear hsd hA hml hr2 hm SD
  by_cases hci : c = i
  · have ha : a = A := by have := HA.out; rwa [if_pos hci] at this
    subst ha
    have hm0 : m = 0 := by have := HM.out; omega
    subst hm0
    have H5 := Lib.hid (HR2.out 0 (by omega) HLO.out HHI.out (fun t ht => absurd ht (Nat.not_lt_zero t)) (fun h => by have := HD.out; omega))
    have hni : n - i = 0 := HM.out
    clear HR2
    go_wp2
    go_loopw [7, 20] (fun v j wr => v = .slice none 0 0 ∧ j = .int .i64 0 ∧ wr = w1) (fun _ _ _ => 0)
    case atStart => exact ⟨rfl, rfl, rfl⟩
    case round =>
      obtain ⟨rfl, rfl, rfl⟩ := hrel
      go_wp2
      go_ret
      have e : M = [] := by rw [H5.out]; rfl
      subst e
      exact ⟨_, rfl, World.ownsRow_nil _ _ _ _, B.out⟩
  · have ha : Option.map (fun x : Addr => x.add (i * 3)) a = A := by have := HA.out; rwa [if_neg hci] at this
    go_wp2
    rw [HM.out]
    have hm6 : m ≤ 1000000 := by have := HM.out; omega
    clear ha HA hci
    go_loopw [7, 20] (fun v j wr => ∃ k : Nat, k ≤ m ∧ j = .int .i64 k ∧ Hid (∀ t, t < k → (D.getD t zE).1 = z) ∧ Hid (wr.ownsRow w1.heap.size 3 1 v k (intZ ((D.take k).map (fun e : Ed => e.2.1)))) ∧ Hid (Below w1.heap.size w1 wr)) (fun _ j _ => m - (intOf j).toNat)
    case atStart => exact ⟨0, Nat.zero_le _, rfl, Lib.hid (fun t ht => absurd ht (Nat.not_lt_zero t)), Lib.hid (World.ownsRow_nil _ _ _ _), Lib.hid (Below.refl _ _)⟩
    case round =>
      obtain ⟨k, hk, rfl, HZ, HOWN, HB⟩ := hrel
      have hend : ∀ (wx : World) (vx : Value), (k < D.length → (D.getD k zE).1 ≠ z) → wx.ownsRow w1.heap.size 3 1 vx k (intZ ((D.take k).map (fun e : Ed => e.2.1))) → wx.ownsRow w.heap.size 3 1 vx M.length (intZ M) := fun wx vx h1 h2 => by
        have e := HR2.out k (by have := HM.out; omega) HLO.out HHI.out HZ.out h1
        have e2 : M.length = k := by rw [e, List.length_map, List.length_take, HD.out]; omega
        rw [e2, e]
        exact row_base h2 B.out.size
      have HEND := Lib.hid hend
      clear hend
      by_cases hlt : k < m
      · have hkl : k < D.length := by rw [HD.out]; exact hlt
        obtain ⟨b, off, hAe, -, hc0, hc1, hc2⟩ := (HSD.out.below HB.out).at k hkl
        subst hAe
        have htk := ed_take hkl
        obtain ⟨y, hy⟩ : ∃ y, y = D.getD k zE := ⟨_, rfl⟩
        rw [← hy] at hc0 hc1 hc2 htk
        have HY := Lib.hid hy
        obtain ⟨y1, y2, y3⟩ := y
        simp only at hc0 hc1 hc2
        have hs : (D.take (k + 1)).map (fun e : Ed => e.2.1) = (D.take k).map (fun e : Ed => e.2.1) ++ [y2] := by rw [htk, List.map_append]; rfl
        have HS := Lib.hid hs
        clear hy htk hs
        have hkb : (k : Int) < (m : Int) := by omega
        obtain ⟨X, gx, hX, hgx, e0, e1, e2, hbX⟩ := boxE1 wr (.int .i64 y1) (.int .i64 y2) (.int .i64 y3) 43
        replace HOWN := Lib.hid (ownsRow_belowB HOWN.out hbX)
        have HBX := Lib.hid (below_step HB.out hbX)
        have HX := Lib.hid hX; have HGX := Lib.hid hgx
        clear hX hgx hbX
        by_cases hyz : y1 = z
        · have HZ2 : Hid (∀ t, t < k + 1 → (D.getD t zE).1 = z) := Lib.hid fun t ht => by
            rcases Nat.lt_succ_iff_lt_or_eq.1 ht with h | rfl
            · exact HZ.out t h
            · rw [← HY.out]; exact hyz
          have hne : (y1 != z) = false := by simp [hyz]
          clear hyz
          go_upto_region 6 with fail
          rw [HX.out, HGX.out]
          go_wp2_with (at_builtin; refine wpList_append_new rfl _ _ 23 rfl w1.heap.size 3 (.int .i64 0) 1 8 Try.underlying23 Try.info_int rfl (by decide) _ k _ rfl HOWN.out [.int .i64 y2] rfl rfl rfl (by omega) (by unfold maxLen; omega) HBX.out.size ?_; intro v3 w3 hown3 hb3; have HO3 := Lib.hid hown3; have HB3 := Lib.hid (HBX.out.trans hb3.toBelow); clear hown3 hb3)
          go_roundw
          case rel => exact ⟨k + 1, by omega, by go_num, HZ2, Lib.hid (by rw [HS.out, intZ_snoc]; exact HO3.out), HB3⟩
          case measure => simp [intOf]; omega
        · have hne : (y1 != z) = true := by simp [hyz]
          have h5 := HEND.out X _ (fun _ => by rw [← HY.out]; exact hyz) HOWN.out
          have H5 := Lib.hid h5
          clear hyz h5
          go_upto_region 6 with fail
          rw [HX.out, HGX.out]
          go_wp2
          go_ret
          exact ⟨_, rfl, H5.out, below_step B.out HBX.out⟩
      · have h5 := HEND.out wr _ (fun h => by have := HD.out; omega) HOWN.out
        have H5 := Lib.hid h5
        clear h5
        go_wp2
        go_ret
        exact ⟨_, rfl, H5.out, below_step B.out HB.out⟩
end Go.Proofs.Ytfkbpkjejnpaiaa
