/- Lists of edges, and of numbers: slices.Grow from nil, slices.Concat, slices.Equal. -/
import Derived.Test.YtfkbpkjejnpaiaaReaE
import Derived.Lib.AppendZeros
namespace Go.Proofs.Ytfkbpkjejnpaiaa
open Go.RowKit
set_option linter.unusedVariables false
set_option maxRecDepth 100000

theorem rflat_take {α : Type} (ls : List (List α)) (k : Nat) (h : k < ls.length) : (ls.take (k + 1)).flatten = (ls.take k).flatten ++ ls.getD k [] := by
  rw [List.take_succ_eq_append_getElem h, List.flatten_append]
  simp [List.getD_eq_getElem?_getD, h]
theorem rflat_le {α : Type} (ls : List (List α)) (k : Nat) : (ls.take k).flatten.length ≤ ls.flatten.length := by
  conv => rhs; rw [← List.take_append_drop k ls, List.flatten_append, List.length_append]
  omega
def numR : Value → Int
  | .int _ a => a
  | _ => 0
theorem Eds.lenE {w : World} {A : Option Addr} {n c : Nat} {l : List Ed} (h : Eds w (.slice A n c) l) : l.length = n ∧ n ≤ c ∧ c ≤ maxLen := by
  obtain ⟨_, _, hv, h1, h2, _⟩ := h.ex
  injection hv with e1 e2 e3
  subst e2 e3; exact ⟨rfl, h1, h2⟩
theorem Ints.lenE {w : World} {A : Option Addr} {n c : Nat} {l : List Int} (h : Ints w (.slice A n c) l) : l.length = n ∧ n ≤ c ∧ c ≤ maxLen := by
  obtain ⟨_, _, hv, h1, h2, _⟩ := h.ex
  injection hv with e1 e2 e3
  subst e2 e3; exact ⟨rfl, h1, h2⟩
theorem intZ_len (l : List Int) : (intZ l).length = l.length * 1 := by simp [intZ]
theorem intZ_app (l m : List Int) : intZ (l ++ m) = intZ l ++ intZ m := by simp [intZ]
theorem intZ_one (l : List Int) : ((intZ l).all fun u => u.oneCell') = true := by simp [intZ, Value.oneCell']

/-! ### Edges put together -/
/-- A slice of slices, in memory. -/
structure EdsL (w : World) (v : Value) (ls : List (List Ed)) : Prop where
  ex : ∃ b off c, v = .slice (some ⟨b, off, none⟩) ls.length c ∧ ls.length ≤ c ∧ c ≤ maxLen ∧ ∀ j, j < ls.length → ∃ a n c', w.cell? ⟨b, off + j, none⟩ = some (.slice a n c') ∧ Eds w (.slice a n c') (ls.getD j [])
theorem EdsL.below {w w' : World} {v : Value} {ls : List (List Ed)} (h : EdsL w v ls) (hb : Below w.heap.size w w') : EdsL w' v ls := by
  obtain ⟨b, off, c, hv, h1, h2, h3⟩ := h.ex
  refine ⟨b, off, c, hv, h1, h2, fun j hj => ?_⟩
  obtain ⟨a, n, c', h4, h5⟩ := h3 j hj
  exact ⟨a, n, c', cell_keep h4 hb, Eds.below h5 hb⟩
set_option maxHeartbeats 1600000 in
theorem ed_grow (n : Nat) (w : World) (hn : n ≤ 4000000) :
    Calls Try.prog 52 #[.slice none 0 0, .int .i64 (n : Int)] w fun e w' => ∃ v, e = .returned v ∧ w'.ownsRow w.heap.size 43 3 v 0 [] ∧ Below w.heap.size w w' := by
  obtain ⟨i, hi, hz, hsize, hby⟩ := info_parts Try.info_edge
  by_cases h0 : n = 0
  · subst h0
    go_enter Try.func52, Try.ntmps52
    go_wp2
    go_ret
    exact ⟨_, rfl, World.ownsRow_nil _ _ _ _, Below.refl _ _⟩
  · have hp : 0 < n := by omega
    have hpI : (0 : Int) < (n : Int) := by omega
    have hc1 := grownCap_ge w n 0 43
    have hc2 := grownCap_le_maxLen w n 0 43 (by unfold maxLen; omega)
    have hr := fun ty => Lib.run_append_nil_zeros (P := Try.prog) w 22 3 ty 43 i (.agg #[.int .i64 0, .int .i64 0, .int .i64 0]) .i64 .i64 Try.underlying22 Try.underlying3 hi hz n hp (by rw [hsize]; decide) (by omega) (by rw [hby]; omega)
    obtain ⟨C, hC⟩ : ∃ C, grownCap w n 0 43 = C := ⟨_, rfl⟩
    rw [hC] at hc1 hc2 hr
    obtain ⟨cs, hcs⟩ : ∃ cs, Builtin.zeroCells (Value.cells (.agg #[.int .i64 0, .int .i64 0, .int .i64 0])) n ++ Builtin.zeroCells (Value.cells (.agg #[.int .i64 0, .int .i64 0, .int .i64 0])) (C - n) = cs := ⟨_, rfl⟩
    have hsz : cs.size = C * 3 := by
      have e1 : (Value.cells (.agg #[.int .i64 0, .int .i64 0, .int .i64 0])).size = 3 := rfl
      rw [← hcs, Array.size_append, size_zeroCells, size_zeroCells, e1, ← Nat.add_mul]
      congr 1
      omega
    rw [hcs] at hr
    have hown : (w.drew.alloc (.cells cs 43)).ownsRow w.heap.size 43 3 (.slice (some ⟨w.heap.size, 0, none⟩) 0 C) 0 [] := World.ownsRow_made w.drew cs C (Nat.le_refl _) hc2 hsz
    have hbel : Below w.heap.size w (w.drew.alloc (.cells cs 43)) := ((Below.refl _ w).drew).alloc (by simp) _
    obtain ⟨W, hW⟩ : ∃ W, w.drew.alloc (.cells cs 43) = W := ⟨_, rfl⟩
    rw [hW] at hown hbel hr
    have HO := Lib.hid hown; have HB := Lib.hid hbel
    clear hC hcs hsz hown hbel hW hi hz hsize hby
    unfold maxLen at hc2
    go_enter Try.func52, Try.ntmps52
    go_wp2_with (at_builtin; refine Lib.wpList_append_run _ rfl _ _ 22 3 rfl _ _ rfl rfl _ _ (hr _) ?_)
    go_ret
    exact ⟨_, rfl, HO.out, HB.out⟩

set_option maxHeartbeats 3200000 in
theorem ed_concat (V : Value) (ls : List (List Ed)) (w : World) (h : EdsL w V ls) (hm : ls.length ≤ 1000) (hl : ls.flatten.length ≤ 2000000) :
    Calls Try.prog 33 #[V] w fun e w' => ∃ v, e = .returned v ∧ w'.ownsRow w.heap.size 43 3 v ls.flatten.length (edC ls.flatten) ∧ Below w.heap.size w w' := by
  obtain ⟨b, off, c, rfl, h1, h2, h3⟩ := h.ex
  unfold maxLen at h2
  obtain ⟨m, hmm⟩ : ∃ m, ls.length = m := ⟨_, rfl⟩
  obtain ⟨R, hR⟩ : ∃ R, ls.flatten = R := ⟨_, rfl⟩
  obtain ⟨r, hr⟩ : ∃ r, R.length = r := ⟨_, rfl⟩
  have hfl := fun k => rflat_le ls k
  have hst := fun k => rflat_take ls k
  rw [hmm] at h1 hm h3 hst
  rw [hR] at hl hfl
  rw [hR, hr]
  rw [hr] at hl hfl
  have H3 := Lib.hid h3; have HM := Lib.hid hmm; have HR := Lib.hid hR; have HRL := Lib.hid hr; have HFL := Lib.hid hfl; have HST := Lib.hid hst
  clear h h3 hmm hR hr hfl hst
  rw [HM.out]
  go_enter Try.func33, Try.ntmps33
  go_wp2
  go_loopw [3, 11] (fun v3 v11 wr => ∃ k s : Nat, k ≤ m ∧ v3 = .int .i64 (s : Int) ∧ v11 = .int .i64 (k : Int) ∧ s ≤ r ∧ Hid ((ls.take k).flatten.length = s) ∧ w = wr) (fun _ v _ => m - (numR v).toNat)
  case atStart => exact ⟨0, 0, Nat.zero_le _, rfl, rfl, Nat.zero_le _, Lib.hid rfl, rfl⟩
  case round =>
    obtain ⟨k, s, hk, rfl, rfl, hs, HS, rfl⟩ := hrel
    by_cases hlt : k < m
    · obtain ⟨a, n, c', hc, hN⟩ := H3.out k hlt
      have hkb : (k : Int) < (m : Int) := by omega
      have hlen := hN.lenE
      have hs2 : (ls.take (k + 1)).flatten.length = s + n := by rw [HST.out k hlt, List.length_append, HS.out, hlen.1]
      have hle := HFL.out (k + 1)
      rw [hs2] at hle
      have HS2 := Lib.hid hs2
      obtain ⟨-, hn1, hn2⟩ := hlen
      unfold maxLen at hn2
      clear hN hs2
      go_wp2
      go_roundw
      case rel => exact ⟨k + 1, s + n, by omega, by go_num, by go_num, hle, HS2, by first | rfl | trivial⟩
      case measure => simp [numR]; omega
    · have e : k = m := by omega
      subst e
      have hsr : s = r := by
        have := HS.out
        rw [List.take_of_length_le (by rw [HM.out]; exact Nat.le_refl _), HR.out, HRL.out] at this
        exact this.symm
      subst hsr
      clear HS
      go_wp2_with (go_at_call 52; refine (ed_grow _ _ (by omega)).mono ?_; rintro e w1 ⟨v1, rfl, hown1, hb1⟩; have HO := Lib.hid hown1; have HB := Lib.hid hb1; clear hown1 hb1)
      go_loopw [6, 27] (fun v6 v27 wr => ∃ (j : Nat) (ys : List Ed), j ≤ k ∧ v27 = .int .i64 (j : Int) ∧ ys.length ≤ s ∧ Hid (ys = (ls.take j).flatten) ∧ wr.ownsRow w.heap.size 43 3 v6 ys.length (edC ys) ∧ Hid (Below w.heap.size w wr)) (fun _ v _ => k - (numR v).toNat)
      case atStart => exact ⟨0, [], Nat.zero_le _, rfl, Nat.zero_le _, Lib.hid rfl, HO.out, HB⟩
      case round =>
        obtain ⟨j, ys, hj, rfl, hys, HY, hown, HB2⟩ := hrel
        by_cases hlt2 : j < k
        · obtain ⟨a, n, c', hc0, hN0⟩ := H3.out j hlt2
          have hjb : (j : Int) < (k : Int) := by omega
          have hc := cell_keep hc0 HB2.out
          have SN := Lib.hid (Eds.below hN0 HB2.out)
          have hlen := hN0.lenE
          have hld : (edC (ls.getD j [])).length = n * 3 := by rw [edC_len, hlen.1]
          have hY2 : (ls.take (j + 1)).flatten = ys ++ ls.getD j [] := by rw [HST.out j hlt2, HY.out]
          have hle := HFL.out (j + 1)
          rw [hY2, List.length_append, hlen.1] at hle
          obtain ⟨Z, hZ⟩ : ∃ Z, ls.getD j [] = Z := ⟨_, rfl⟩
          rw [hZ] at hY2 hld SN
          have hZn : Z.length = n := by rw [← hZ]; exact hlen.1
          have HY2 := Lib.hid hY2; have HZN := Lib.hid hZn
          obtain ⟨-, hn1, hn2⟩ := hlen
          unfold maxLen at hn2
          obtain ⟨ny, hny⟩ : ∃ ny, ys.length = ny := ⟨_, rfl⟩
          rw [hny] at hle hys hown
          have HNY := Lib.hid hny
          clear hN0 hY2 hZ hZn hc0 hny
          go_wp2_with (at_builtin; refine wpList_append_src rfl _ _ 22 rfl w.heap.size 43 (.agg #[.int .i64 0, .int .i64 0, .int .i64 0]) 3 24 Try.underlying22 Try.info_edge rfl (by decide) _ ny (edC ys) rfl hown a n c' (edC Z) rfl hld SN.out.nil (fun ad e => by subst e; exact SN.out.cells) (edC_one _) (by omega) (by unfold maxLen; omega) HB2.out.size ?_)
          intro v' w' hown' hb'
          have ho2 : w'.ownsRow w.heap.size 43 3 v' (ys ++ Z).length (edC (ys ++ Z)) := by
            rw [edC_app, List.length_append, HNY.out, HZN.out]; exact hown'
          have HO2 := Lib.hid ho2
          have HB3 := Lib.hid (HB2.out.trans hb'.toBelow)
          clear hown hown' ho2 hb' hld
          go_wp2
          go_roundw
          case rel => exact ⟨j + 1, ys ++ Z, by omega, by go_num, by rw [List.length_append, HNY.out, HZN.out]; exact hle, Lib.hid HY2.out.symm, HO2.out, HB3⟩
          case measure => simp [numR]; omega
        · have e : j = k := by omega
          subst e
          have e2 : ys = R := by
            have := HY.out
            rwa [List.take_of_length_le (by rw [HM.out]; exact Nat.le_refl _), HR.out] at this
          subst e2
          have HO2 := Lib.hid hown; clear hown
          go_wp2
          go_ret
          refine ⟨_, rfl, ?_, HB2.out⟩
          have := HO2.out
          rwa [HRL.out] at this

/-! ### Numbers put together -/
/-- A slice of slices, in memory. -/
structure IntsL (w : World) (v : Value) (ls : List (List Int)) : Prop where
  ex : ∃ b off c, v = .slice (some ⟨b, off, none⟩) ls.length c ∧ ls.length ≤ c ∧ c ≤ maxLen ∧ ∀ j, j < ls.length → ∃ a n c', w.cell? ⟨b, off + j, none⟩ = some (.slice a n c') ∧ Ints w (.slice a n c') (ls.getD j [])
theorem IntsL.below {w w' : World} {v : Value} {ls : List (List Int)} (h : IntsL w v ls) (hb : Below w.heap.size w w') : IntsL w' v ls := by
  obtain ⟨b, off, c, hv, h1, h2, h3⟩ := h.ex
  refine ⟨b, off, c, hv, h1, h2, fun j hj => ?_⟩
  obtain ⟨a, n, c', h4, h5⟩ := h3 j hj
  exact ⟨a, n, c', cell_keep h4 hb, Ints.belowB h5 hb⟩
set_option maxHeartbeats 1600000 in
theorem iz_grow (n : Nat) (w : World) (hn : n ≤ 4000000) :
    Calls Try.prog 67 #[.slice none 0 0, .int .i64 (n : Int)] w fun e w' => ∃ v, e = .returned v ∧ w'.ownsRow w.heap.size 3 1 v 0 [] ∧ Below w.heap.size w w' := by
  obtain ⟨i, hi, hz, hsize, hby⟩ := info_parts Try.info_int
  by_cases h0 : n = 0
  · subst h0
    go_enter Try.func67, Try.ntmps67
    go_wp2
    go_ret
    exact ⟨_, rfl, World.ownsRow_nil _ _ _ _, Below.refl _ _⟩
  · have hp : 0 < n := by omega
    have hpI : (0 : Int) < (n : Int) := by omega
    have hc1 := grownCap_ge w n 0 3
    have hc2 := grownCap_le_maxLen w n 0 3 (by unfold maxLen; omega)
    have hr := fun ty => Lib.run_append_nil_zeros (P := Try.prog) w 23 3 ty 3 i (.int .i64 0) .i64 .i64 Try.underlying23 Try.underlying3 hi hz n hp (by rw [hsize]; decide) (by omega) (by rw [hby]; omega)
    obtain ⟨C, hC⟩ : ∃ C, grownCap w n 0 3 = C := ⟨_, rfl⟩
    rw [hC] at hc1 hc2 hr
    obtain ⟨cs, hcs⟩ : ∃ cs, Builtin.zeroCells (Value.cells (.int .i64 0)) n ++ Builtin.zeroCells (Value.cells (.int .i64 0)) (C - n) = cs := ⟨_, rfl⟩
    have hsz : cs.size = C * 1 := by
      have e1 : (Value.cells (.int .i64 0)).size = 1 := rfl
      rw [← hcs, Array.size_append, size_zeroCells, size_zeroCells, e1, ← Nat.add_mul]
      congr 1
      omega
    rw [hcs] at hr
    have hown : (w.drew.alloc (.cells cs 3)).ownsRow w.heap.size 3 1 (.slice (some ⟨w.heap.size, 0, none⟩) 0 C) 0 [] := World.ownsRow_made w.drew cs C (Nat.le_refl _) hc2 hsz
    have hbel : Below w.heap.size w (w.drew.alloc (.cells cs 3)) := ((Below.refl _ w).drew).alloc (by simp) _
    obtain ⟨W, hW⟩ : ∃ W, w.drew.alloc (.cells cs 3) = W := ⟨_, rfl⟩
    rw [hW] at hown hbel hr
    have HO := Lib.hid hown; have HB := Lib.hid hbel
    clear hC hcs hsz hown hbel hW hi hz hsize hby
    unfold maxLen at hc2
    go_enter Try.func67, Try.ntmps67
    go_wp2_with (at_builtin; refine Lib.wpList_append_run _ rfl _ _ 23 3 rfl _ _ rfl rfl _ _ (hr _) ?_)
    go_ret
    exact ⟨_, rfl, HO.out, HB.out⟩

set_option maxHeartbeats 3200000 in
theorem iz_concat (V : Value) (ls : List (List Int)) (w : World) (h : IntsL w V ls) (hm : ls.length ≤ 1000) (hl : ls.flatten.length ≤ 2000000) :
    Calls Try.prog 55 #[V] w fun e w' => ∃ v, e = .returned v ∧ w'.ownsRow w.heap.size 3 1 v ls.flatten.length (intZ ls.flatten) ∧ Below w.heap.size w w' := by
  obtain ⟨b, off, c, rfl, h1, h2, h3⟩ := h.ex
  unfold maxLen at h2
  obtain ⟨m, hmm⟩ : ∃ m, ls.length = m := ⟨_, rfl⟩
  obtain ⟨R, hR⟩ : ∃ R, ls.flatten = R := ⟨_, rfl⟩
  obtain ⟨r, hr⟩ : ∃ r, R.length = r := ⟨_, rfl⟩
  have hfl := fun k => rflat_le ls k
  have hst := fun k => rflat_take ls k
  rw [hmm] at h1 hm h3 hst
  rw [hR] at hl hfl
  rw [hR, hr]
  rw [hr] at hl hfl
  have H3 := Lib.hid h3; have HM := Lib.hid hmm; have HR := Lib.hid hR; have HRL := Lib.hid hr; have HFL := Lib.hid hfl; have HST := Lib.hid hst
  clear h h3 hmm hR hr hfl hst
  rw [HM.out]
  go_enter Try.func55, Try.ntmps55
  go_wp2
  go_loopw [3, 11] (fun v3 v11 wr => ∃ k s : Nat, k ≤ m ∧ v3 = .int .i64 (s : Int) ∧ v11 = .int .i64 (k : Int) ∧ s ≤ r ∧ Hid ((ls.take k).flatten.length = s) ∧ w = wr) (fun _ v _ => m - (numR v).toNat)
  case atStart => exact ⟨0, 0, Nat.zero_le _, rfl, rfl, Nat.zero_le _, Lib.hid rfl, rfl⟩
  case round =>
    obtain ⟨k, s, hk, rfl, rfl, hs, HS, rfl⟩ := hrel
    by_cases hlt : k < m
    · obtain ⟨a, n, c', hc, hN⟩ := H3.out k hlt
      have hkb : (k : Int) < (m : Int) := by omega
      have hlen := hN.lenE
      have hs2 : (ls.take (k + 1)).flatten.length = s + n := by rw [HST.out k hlt, List.length_append, HS.out, hlen.1]
      have hle := HFL.out (k + 1)
      rw [hs2] at hle
      have HS2 := Lib.hid hs2
      obtain ⟨-, hn1, hn2⟩ := hlen
      unfold maxLen at hn2
      clear hN hs2
      go_wp2
      go_roundw
      case rel => exact ⟨k + 1, s + n, by omega, by go_num, by go_num, hle, HS2, by first | rfl | trivial⟩
      case measure => simp [numR]; omega
    · have e : k = m := by omega
      subst e
      have hsr : s = r := by
        have := HS.out
        rw [List.take_of_length_le (by rw [HM.out]; exact Nat.le_refl _), HR.out, HRL.out] at this
        exact this.symm
      subst hsr
      clear HS
      go_wp2_with (go_at_call 67; refine (iz_grow _ _ (by omega)).mono ?_; rintro e w1 ⟨v1, rfl, hown1, hb1⟩; have HO := Lib.hid hown1; have HB := Lib.hid hb1; clear hown1 hb1)
      go_loopw [6, 27] (fun v6 v27 wr => ∃ (j : Nat) (ys : List Int), j ≤ k ∧ v27 = .int .i64 (j : Int) ∧ ys.length ≤ s ∧ Hid (ys = (ls.take j).flatten) ∧ wr.ownsRow w.heap.size 3 1 v6 ys.length (intZ ys) ∧ Hid (Below w.heap.size w wr)) (fun _ v _ => k - (numR v).toNat)
      case atStart => exact ⟨0, [], Nat.zero_le _, rfl, Nat.zero_le _, Lib.hid rfl, HO.out, HB⟩
      case round =>
        obtain ⟨j, ys, hj, rfl, hys, HY, hown, HB2⟩ := hrel
        by_cases hlt2 : j < k
        · obtain ⟨a, n, c', hc0, hN0⟩ := H3.out j hlt2
          have hjb : (j : Int) < (k : Int) := by omega
          have hc := cell_keep hc0 HB2.out
          have SN := Lib.hid (Ints.belowB hN0 HB2.out)
          have hlen := hN0.lenE
          have hld : (intZ (ls.getD j [])).length = n * 1 := by rw [intZ_len, hlen.1]
          have hY2 : (ls.take (j + 1)).flatten = ys ++ ls.getD j [] := by rw [HST.out j hlt2, HY.out]
          have hle := HFL.out (j + 1)
          rw [hY2, List.length_append, hlen.1] at hle
          obtain ⟨Z, hZ⟩ : ∃ Z, ls.getD j [] = Z := ⟨_, rfl⟩
          rw [hZ] at hY2 hld SN
          have hZn : Z.length = n := by rw [← hZ]; exact hlen.1
          have HY2 := Lib.hid hY2; have HZN := Lib.hid hZn
          obtain ⟨-, hn1, hn2⟩ := hlen
          unfold maxLen at hn2
          obtain ⟨ny, hny⟩ : ∃ ny, ys.length = ny := ⟨_, rfl⟩
          rw [hny] at hle hys hown
          have HNY := Lib.hid hny
          clear hN0 hY2 hZ hZn hc0 hny
          go_wp2_with (at_builtin; refine wpList_append_src rfl _ _ 23 rfl w.heap.size 3 (.int .i64 0) 1 8 Try.underlying23 Try.info_int rfl (by decide) _ ny (intZ ys) rfl hown a n c' (intZ Z) rfl hld SN.out.src.2.1 SN.out.src.2.2 (intZ_one _) (by omega) (by unfold maxLen; omega) HB2.out.size ?_)
          intro v' w' hown' hb'
          have ho2 : w'.ownsRow w.heap.size 3 1 v' (ys ++ Z).length (intZ (ys ++ Z)) := by
            rw [intZ_app, List.length_append, HNY.out, HZN.out]; exact hown'
          have HO2 := Lib.hid ho2
          have HB3 := Lib.hid (HB2.out.trans hb'.toBelow)
          clear hown hown' ho2 hb' hld
          go_wp2
          go_roundw
          case rel => exact ⟨j + 1, ys ++ Z, by omega, by go_num, by rw [List.length_append, HNY.out, HZN.out]; exact hle, Lib.hid HY2.out.symm, HO2.out, HB3⟩
          case measure => simp [numR]; omega
        · have e : j = k := by omega
          subst e
          have e2 : ys = R := by
            have := HY.out
            rwa [List.take_of_length_le (by rw [HM.out]; exact Nat.le_refl _), HR.out] at this
          subst e2
          have HO2 := Lib.hid hown; clear hown
          go_wp2
          go_ret
          refine ⟨_, rfl, ?_, HB2.out⟩
          have := HO2.out
          rwa [HRL.out] at this

/-! ### Are two the same -/
set_option maxHeartbeats 1600000 in
theorem eeq_any (U V : Value) (ns ms : List Ed) (w : World) (hu : Eds w U ns) (hv : Eds w V ms) :
    Calls Try.prog 34 #[U, V] w fun e w' => e = .returned (.bool (decide (ns = ms))) ∧ Below w.heap.size w w' := by
  obtain ⟨a, c, rfl, h1, h2, -, -⟩ := hu.ex
  obtain ⟨a', c', rfl, h1', h2', -, -⟩ := hv.ex
  unfold maxLen at h2 h2'
  obtain ⟨n, hn⟩ : ∃ n, ns.length = n := ⟨_, rfl⟩
  obtain ⟨m, hm⟩ : ∃ m, ms.length = m := ⟨_, rfl⟩
  rw [hn] at h1 hu ⊢
  rw [hm] at h1' hv ⊢
  obtain ⟨R, hR⟩ : ∃ R, decide (ns = ms) = R := ⟨_, rfl⟩
  rw [hR]
  have HN := Lib.hid hn; have HM := Lib.hid hm; have SU := Lib.hid hu; have SV := Lib.hid hv; have HR := Lib.hid hR
  clear hu hv hn hm hR
  by_cases hl : n = m
  · subst hl
    have h0 : ((n : Int) != (n : Int)) = false := by simp
    go_enter Try.func34, Try.ntmps34
    go_wp2
    go_loopw [13] (fun i wr => ∃ k q : Nat, k ≤ n ∧ i = .int .i64 k ∧ wr = w.drewN q ∧ Hid (ns.take k = ms.take k)) (fun i _ => n - (numR i).toNat)
    case atStart => exact ⟨0, 0, Nat.zero_le _, rfl, rfl, Lib.hid (by simp)⟩
    case round =>
      obtain ⟨k, q, hk, rfl, rfl, H⟩ := hrel
      by_cases hlt : k < n
      · have hkl : k < ns.length := by rw [HN.out]; exact hlt
        have hkm : k < ms.length := by rw [HM.out]; exact hlt
        obtain ⟨Wq, hWq⟩ : ∃ Wq, w.drewN q = Wq := ⟨_, rfl⟩
        have hbq : Below w.heap.size w Wq := by rw [← hWq]; exact below_q ⟨q, rfl⟩
        obtain ⟨b, off, rfl, -, hc0, hc1, hc2⟩ := (SU.out.below hbq).at k hkl
        obtain ⟨b', off', rfl, -, hd0, hd1, hd2⟩ := (SV.out.below hbq).at k hkm
        obtain ⟨x, hx⟩ : ∃ x, x = ns.getD k zE := ⟨_, rfl⟩
        obtain ⟨y, hy⟩ : ∃ y, y = ms.getD k zE := ⟨_, rfl⟩
        rw [← hx] at hc0 hc1 hc2
        rw [← hy] at hd0 hd1 hd2
        have e1 : ns.take (k + 1) = ns.take k ++ [x] := by rw [List.take_succ_eq_append_getElem hkl, hx, ed_getD hkl]
        have e2 : ms.take (k + 1) = ms.take k ++ [y] := by rw [List.take_succ_eq_append_getElem hkm, hy, ed_getD hkm]
        obtain ⟨x1, x2, x3⟩ := x
        obtain ⟨y1, y2, y3⟩ := y
        simp only at hc0 hc1 hc2 hd0 hd1 hd2
        rw [hWq]
        have HWq := Lib.hid hWq; have E1 := Lib.hid e1; have E2 := Lib.hid e2; clear hx hy hbq hWq e1 e2
        have hgd := guard_ed
        have heq := neq_ed x1 x2 x3 y1 y2 y3
        obtain ⟨o, ho⟩ : ∃ o, decide ((x1, x2, x3) = (y1, y2, y3)) = o := ⟨_, rfl⟩
        rw [ho] at heq
        have HO := Lib.hid ho; clear ho
        have hkb : (k : Int) < (n : Int) := by omega
        cases o
        · simp only [Bool.not_false] at heq
          go_wp2_with fail
          go_quiet (fail)
          go_wp2
          go_ret
          refine ⟨?_, below_step (below_q ⟨q, HWq.out.symm⟩) (below_q ⟨nq, rfl⟩)⟩
          rw [← HR.out, decide_eq_false fun e => ?_]
          · rfl
          · have h5 := E1.out
            rw [e, E2.out] at h5
            have h6 := List.append_inj_right' h5 rfl
            simp only [List.cons.injEq, and_true] at h6
            have := of_decide_eq_false HO.out
            exact this h6.symm
        · simp only [Bool.not_true] at heq
          go_wp2_with fail
          go_quiet (fail)
          go_wp2
          have H5 : Hid (ns.take (k + 1) = ms.take (k + 1)) := Lib.hid (by rw [E1.out, E2.out, H.out, of_decide_eq_true HO.out])
          go_roundw
          case rel => exact ⟨k + 1, q + nq, by omega, by go_num, by rw [← HWq.out, World.drewN_drewN], H5⟩
          case measure => simp [numR]; omega
      · go_wp2
        go_ret
        refine ⟨?_, below_q ⟨q, rfl⟩⟩
        have e : k = n := by omega
        subst e
        have h5 := H.out
        rw [List.take_of_length_le (by rw [HN.out]; exact Nat.le_refl _), List.take_of_length_le (by rw [HM.out]; exact Nat.le_refl _)] at h5
        rw [← HR.out, decide_eq_true h5]; rfl
  · have h0 : ((n : Int) != (m : Int)) = true := by simp; omega
    have HL := Lib.hid hl; clear hl
    go_enter Try.func34, Try.ntmps34
    go_wp2
    go_ret
    refine ⟨?_, Below.refl _ _⟩
    rw [← HR.out, decide_eq_false fun e => HL.out (by rw [← HN.out, ← HM.out, e])]; rfl

set_option maxHeartbeats 1600000 in
theorem ieq_any (U V : Value) (ns ms : List Int) (w : World) (hu : Ints w U ns) (hv : Ints w V ms) :
    Calls Try.prog 35 #[U, V] w fun e w' => e = .returned (.bool (decide (ns = ms))) ∧ Below w.heap.size w w' := by
  obtain ⟨a, c, rfl, h1, h2, -, -⟩ := hu.ex
  obtain ⟨a', c', rfl, h1', h2', -, -⟩ := hv.ex
  unfold maxLen at h2 h2'
  obtain ⟨n, hn⟩ : ∃ n, ns.length = n := ⟨_, rfl⟩
  obtain ⟨m, hm⟩ : ∃ m, ms.length = m := ⟨_, rfl⟩
  rw [hn] at h1 hu ⊢
  rw [hm] at h1' hv ⊢
  obtain ⟨R, hR⟩ : ∃ R, decide (ns = ms) = R := ⟨_, rfl⟩
  rw [hR]
  have HN := Lib.hid hn; have HM := Lib.hid hm; have SU := Lib.hid hu; have SV := Lib.hid hv; have HR := Lib.hid hR
  clear hu hv hn hm hR
  by_cases hl : n = m
  · subst hl
    have h0 : ((n : Int) != (n : Int)) = false := by simp
    go_enter Try.func35, Try.ntmps35
    go_wp2
    go_loopw [13] (fun i wr => ∃ k q : Nat, k ≤ n ∧ i = .int .i64 k ∧ wr = w.drewN q ∧ Hid (ns.take k = ms.take k)) (fun i _ => n - (numR i).toNat)
    case atStart => exact ⟨0, 0, Nat.zero_le _, rfl, rfl, Lib.hid (by simp)⟩
    case round =>
      obtain ⟨k, q, hk, rfl, rfl, H⟩ := hrel
      by_cases hlt : k < n
      · have hkl : k < ns.length := by rw [HN.out]; exact hlt
        have hkm : k < ms.length := by rw [HM.out]; exact hlt
        obtain ⟨Wq, hWq⟩ : ∃ Wq, w.drewN q = Wq := ⟨_, rfl⟩
        have hbq : Below w.heap.size w Wq := by rw [← hWq]; exact below_q ⟨q, rfl⟩
        obtain ⟨b, off, rfl⟩ := SU.out.some (by omega)
        obtain ⟨b', off', rfl⟩ := SV.out.some (by omega)
        have hc0 := (SU.out.belowB hbq).cell k hlt
        have hd0 := (SV.out.belowB hbq).cell k hlt
        obtain ⟨x, hx⟩ : ∃ x, x = ns.getD k 0 := ⟨_, rfl⟩
        obtain ⟨y, hy⟩ : ∃ y, y = ms.getD k 0 := ⟨_, rfl⟩
        rw [← hx] at hc0
        rw [← hy] at hd0
        have e1 : ns.take (k + 1) = ns.take k ++ [x] := by rw [int_take hkl, hx]
        have e2 : ms.take (k + 1) = ms.take k ++ [y] := by rw [int_take hkm, hy]
        rw [hWq]
        have HWq := Lib.hid hWq; have E1 := Lib.hid e1; have E2 := Lib.hid e2; clear hx hy hbq hWq e1 e2
        have heq : (x != y) = !decide (x = y) := by by_cases h : x = y <;> simp [h]
        obtain ⟨o, ho⟩ : ∃ o, decide (x = y) = o := ⟨_, rfl⟩
        rw [ho] at heq
        have HO := Lib.hid ho; clear ho
        have hkb : (k : Int) < (n : Int) := by omega
        cases o
        · simp only [Bool.not_false] at heq
          go_wp2_with fail
          go_quiet (fail)
          go_wp2
          go_ret
          refine ⟨?_, below_step (below_q ⟨q, HWq.out.symm⟩) (below_q ⟨nq, rfl⟩)⟩
          rw [← HR.out, decide_eq_false fun e => ?_]
          · rfl
          · have h5 := E1.out
            rw [e, E2.out] at h5
            have h6 := List.append_inj_right' h5 rfl
            simp only [List.cons.injEq, and_true] at h6
            have := of_decide_eq_false HO.out
            exact this h6.symm
        · simp only [Bool.not_true] at heq
          go_wp2_with fail
          go_quiet (fail)
          go_wp2
          have H5 : Hid (ns.take (k + 1) = ms.take (k + 1)) := Lib.hid (by rw [E1.out, E2.out, H.out, of_decide_eq_true HO.out])
          go_roundw
          case rel => exact ⟨k + 1, q + nq, by omega, by go_num, by rw [← HWq.out, World.drewN_drewN], H5⟩
          case measure => simp [numR]; omega
      · go_wp2
        go_ret
        refine ⟨?_, below_q ⟨q, rfl⟩⟩
        have e : k = n := by omega
        subst e
        have h5 := H.out
        rw [List.take_of_length_le (by rw [HN.out]; exact Nat.le_refl _), List.take_of_length_le (by rw [HM.out]; exact Nat.le_refl _)] at h5
        rw [← HR.out, decide_eq_true h5]; rfl
  · have h0 : ((n : Int) != (m : Int)) = true := by simp; omega
    have HL := Lib.hid hl; clear hl
    go_enter Try.func35, Try.ntmps35
    go_wp2
    go_ret
    refine ⟨?_, Below.refl _ _⟩
    rw [← HR.out, decide_eq_false fun e => HL.out (by rw [← HN.out, ← HM.out, e])]; rfl
end Go.Proofs.Ytfkbpkjejnpaiaa
