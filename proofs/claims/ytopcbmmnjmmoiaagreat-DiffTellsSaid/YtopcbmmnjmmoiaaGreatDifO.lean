/- THE TEXTS OF DifJ DifK RolM DifS DifO: May edits be: of the program. Edits put together: slices.Grow from nil, slices.Concat; is any beyond; parts of slices. Rows of the call's own, and blocks that a region lays, as facts of its operations. Edits: what operations on them, and on rows of them, come to. Is any edit beyond; edits turned about: of the program. -/
import Derived.Test.YtopcbmmnjmmoiaaGreatDifI
import Derived.Test.YtopcbmmnjmmoiaaGreatNodF
import Derived.Lib.AppendZeros
import Derived.Test.YtopcbmmnjmmoiaaGreatRolB
import Derived.Test.YtopcbmmnjmmoiaaGreatNodY
import Derived.Deep.RegionLaw
import Derived.Laws.MakeOwn
import Derived.Laws.CopyRow
import Derived.Laws.CopyOwn
namespace Go.Proofs.YtopcbmmnjmmoiaaGreat
open Go.RowKit
set_option linter.unusedVariables false
set_option maxRecDepth 100000

theorem chk_eq (l : List De) : chkD l = if okD l = true then 0 else 1 := rfl
theorem byOk_take {l : List De} {k : Nat} (h : k < l.length) (hb : byOk (l.take k) = true) (h0 : (l.getD k zD).2 ≠ 0) (hi : inD (l.getD k zD).2 = true) : byOk (l.take (k + 1)) = true := by
  rw [byOk_iff] at *
  intro e he
  rw [List.take_succ_eq_append_getElem h, List.mem_append] at he
  rcases he with he | he
  · exact hb e he
  · rw [List.mem_singleton.1 he, ← df_getD h]; exact ⟨h0, hi⟩
theorem okD_far {l : List De} {k : Nat} (h : k < l.length) (hi : inD (l.getD k zD).2 = false) : okD l = false := by
  cases e : okD l
  · rfl
  · have := okD_in e _ (df_mem h)
    rw [hi] at this; cases this
theorem okD_zero {l : List De} {k : Nat} (h : k < l.length) (hi : (l.getD k zD).2 = 0) : okD l = false := by
  cases e : okD l
  · rfl
  · exact absurd hi (okD_nz e _ (df_mem h))
theorem keyD_take {l : List De} {k : Nat} (h : k < l.length) : keyD (l.take (k + 1)) = keyD (l.take k) ++ [(l.getD k zD).1] := by
  rw [List.take_succ_eq_append_getElem h, df_getD h]; unfold keyD; rw [List.map_append]; rfl
/-- Edits whose nodes are not too long to be looked at, in the bounds of a machine's number. -/
def smallD (e : De) : Prop := smallN e.1 ∧ fitI e.2

set_option maxHeartbeats 800000 in
theorem beyond_any (p v : List UInt8) (z : Int) (w : World) :
    Calls Tryz.prog 28 #[.agg #[.string (mkB p), .string (mkB v), .int .i64 z]] w fun e w' => e = .returned (.bool (!inD z)) ∧ Below w.heap.size w w' := by
  obtain ⟨W, g, hW, hg, c0, c1, c2, hb⟩ := boxD1 w (.string (mkB p)) (.string (mkB v)) (.int .i64 z) 42
  have B := Lib.hid hb; have HW := Lib.hid hW; have HG := Lib.hid hg; clear hb hW hg
  by_cases t0 : z < -1099511627776
  · have d0 : decide (z < -1099511627776) = true := by simp [t0]
    have e : inD z = false := by unfold inD; rw [decide_eq_false (by omega)]; rfl
    rw [e]
    clear t0 e
    go_enter Tryz.func28, Tryz.ntmps28
    go_upto_region 1 with fail
    rw [HW.out, HG.out]
    go_wp2
    go_ret
    exact ⟨rfl, B.out⟩
  · have d0 : decide (z < -1099511627776) = false := by simp [t0]
    by_cases t1 : 1099511627776 < z
    · have d1 : decide (1099511627776 < z) = true := by simp [t1]
      have e : inD z = false := by unfold inD; rw [decide_eq_false (show ¬ z ≤ 1099511627776 by omega), Bool.and_false]
      rw [e]
      clear t0 t1 e
      go_enter Tryz.func28, Tryz.ntmps28
      go_upto_region 1 with fail
      rw [HW.out, HG.out]
      go_wp2
      go_ret
      exact ⟨rfl, B.out⟩
    · have d1 : decide (1099511627776 < z) = false := by simp [t1]
      have e : inD z = true := by rw [inD_iff]; omega
      rw [e]
      clear t0 t1 e
      go_enter Tryz.func28, Tryz.ntmps28
      go_upto_region 1 with fail
      rw [HW.out, HG.out]
      go_wp2
      go_ret
      exact ⟨rfl, B.out⟩

set_option maxHeartbeats 1600000 in
theorem dcheck_any (V : Value) (l : List De) (w : World) (h : Dfs w V l) (hs : ∀ e ∈ l, smallD e) (hl : l.length ≤ 1000000) :
    Calls Tryz.prog 17 #[V] w fun e w' => e = .returned (.int .i64 (chkD l)) ∧ Below w.heap.size w w' := by
  obtain ⟨a, c, rfl, h1, h2, -, -⟩ := h.ex
  unfold maxLen at h2
  obtain ⟨n, hn⟩ : ∃ n, l.length = n := ⟨_, rfl⟩
  obtain ⟨R, hR⟩ : ∃ R, chkD l = R := ⟨_, rfl⟩
  rw [hR]
  rw [hn] at h1 h hl ⊢
  have ST := Lib.hid h; have HS := Lib.hid hs; have HN := Lib.hid hn; have HR := Lib.hid hR
  clear h hs hn hR
  go_enter Tryz.func17, Tryz.ntmps17
  go_wp2
  go_loopw [3, 8] (fun v i wr => ∃ (k : Nat) (acc : List Nd), k ≤ n ∧ i = .int .i64 k ∧ acc.length = k ∧ Hid (acc = keyD (l.take k)) ∧ Hid (byOk (l.take k) = true) ∧ wr.ownsRow w.heap.size 40 2 v acc.length (ndsC acc) ∧ Hid (Below w.heap.size w wr)) (fun _ i _ => n - (intOf i).toNat)
  case atStart => exact ⟨0, [], Nat.zero_le _, rfl, rfl, Lib.hid rfl, Lib.hid rfl, World.ownsRow_nil _ _ _ _, Lib.hid (Below.refl _ _)⟩
  case round =>
    obtain ⟨k, acc, hk, rfl, hal, HACC, HBY, hown, HB⟩ := hrel
    by_cases hlt : k < n
    · have hkl : k < l.length := by rw [HN.out]; exact hlt
      obtain ⟨b, off, rfl, -, hc0, hc1, hc2⟩ := (ST.out.below HB.out).at k hkl
      have hz0 := fun e => (chkD_no (okD_zero hkl e) : chkD l = 1)
      have hz1 := fun e => (chkD_no (okD_far hkl e) : chkD l = 1)
      have hz2 := byOk_take hkl HBY.out
      have hz3 := keyD_take hkl
      rw [HR.out] at hz0 hz1
      obtain ⟨y, hy⟩ : ∃ y, y = l.getD k zD := ⟨_, rfl⟩
      rw [← hy] at hc0 hc1 hc2 hz0 hz1 hz2 hz3
      obtain ⟨⟨y1, y2⟩, z⟩ := y
      simp only at hc0 hc1 hc2 hz0 hz1 hz2 hz3
      have Z0 := Lib.hid hz0; have Z1 := Lib.hid hz1; have Z2 := Lib.hid hz2; have Z3 := Lib.hid hz3; have HOWN := Lib.hid hown; have HAL := Lib.hid hal
      clear hz0 hz1 hz2 hz3 hy hown
      have hkb : (k : Int) < (n : Int) := by omega
      have kb := fun w => beyond_any y1 y2 z w
      obtain ⟨I, hI⟩ : ∃ I, inD z = I := ⟨_, rfl⟩
      rw [hI] at kb
      have HI := Lib.hid hI; have KB := Lib.hid kb; clear hI kb
      by_cases t0 : z = 0
      · have hzb : (z == 0) = true := by simp [t0]
        obtain rfl := Z0.out t0
        clear t0
        go_wp2
        go_ret
        exact ⟨rfl, HB.out.alloc HB.out.size _⟩
      · have hzb : (z == 0) = false := by simp [t0]
        have HZ := Lib.hid t0
        clear t0
        cases I
        · obtain rfl := Z1.out HI.out
          go_upto_region 5 with fail
          obtain ⟨X, q, hX, hq, d0, d1, d2, hxb⟩ := boxD1 wr (.string (mkB y1)) (.string (mkB y2)) (.int .i64 z) 42
          rw [hX, hq]
          have BX := Lib.hid (below_step HB.out hxb)
          clear hX hq hc0 hc1 hc2 hxb
          go_wp2_with (go_at_call 28; refine (KB.out _).mono ?_; rintro e w1 ⟨rfl, hb1⟩; have B1 := Lib.hid (below_step BX.out hb1); clear hb1)
          go_ret
          exact ⟨rfl, B1.out⟩
        · go_upto_region 5 with fail
          obtain ⟨X, q, hX, hq, d0, d1, d2, hxb⟩ := boxD1 wr (.string (mkB y1)) (.string (mkB y2)) (.int .i64 z) 42
          rw [hX, hq]
          have BX := Lib.hid (below_step HB.out hxb); have HO1 := Lib.hid (ownsRow_belowB HOWN.out hxb)
          clear hX hq hc0 hc1 hc2 hxb
          go_wp2_with (first
            | (go_at_call 28; refine (KB.out _).mono ?_; rintro e w1 ⟨rfl, hb1⟩; have B1 := Lib.hid (below_step BX.out hb1); replace HO1 := Lib.hid (ownsRow_belowB HO1.out hb1); replace d0 := cell_keep d0 hb1; replace d1 := cell_keep d1 hb1; replace d2 := cell_keep d2 hb1; clear hb1)
            | (at_builtin; refine wpList_append_new rfl _ _ 22 rfl w.heap.size 40 (.agg #[.string ByteArray.empty, .string ByteArray.empty]) 2 32 Tryz.underlying22 Tryz.info_node rfl (by decide) _ _ _ rfl HO1.out [.string (mkB y1), .string (mkB y2)] rfl rfl rfl (by omega) (by unfold maxLen; omega) B1.out.size ?_))
          intro v' w' hown' hb'
          have e2 : ndsC acc ++ [.string (mkB y1), .string (mkB y2)] = ndsC (acc ++ [(y1, y2)]) := (ndsC_snoc acc (y1, y2)).symm
          rw [e2] at hown'
          have ho2 : w'.ownsRow w.heap.size 40 2 v' (acc ++ [(y1, y2)]).length (ndsC (acc ++ [(y1, y2)])) := by rw [List.length_append, HAL.out]; exact hown'
          have HO2 := Lib.hid ho2; have HBN := Lib.hid (B1.out.trans hb'.toBelow)
          have HAC : Hid (acc ++ [(y1, y2)] = keyD (l.take (k + 1))) := Lib.hid (by rw [Z3.out, HACC.out])
          have HBY2 := Lib.hid (Z2.out HZ.out HI.out)
          clear ho2 hown' hb'
          go_wp2
          go_roundw
          case rel => exact ⟨k + 1, acc ++ [(y1, y2)], by omega, by go_num, by rw [List.length_append, HAL.out]; rfl, HAC, HBY2, HO2.out, HBN⟩
          case measure => simp [intOf]; omega
    · have e : k = n := by omega
      subst e
      have hac := HACC.out
      have hby := HBY.out
      rw [List.take_of_length_le (by rw [HN.out]; exact Nat.le_refl _)] at hac hby
      obtain ⟨a2, c2, rfl, hnd⟩ := ndsO hown
      have hsn : ∀ x ∈ acc, smallN x := fun x hx => by
        rw [hac] at hx
        obtain ⟨e, he, rfl⟩ := List.mem_map.1 hx
        exact (HS.out e he).1
      have hre : R = if checkN acc = true then 0 else 1 := by rw [← HR.out, hac, chk_eq]; unfold okD; rw [hby, Bool.true_and]
      have kc := ncheck_any _ acc wr hnd hsn
      rw [← hre] at kc
      have KC := Lib.hid kc
      rw [hal] at KC ⊢
      clear hac hby hown hnd hsn hre kc
      go_wp2_with (go_at_call 29; refine KC.out.mono ?_; rintro e w1 ⟨rfl, hb1⟩; have B1 := Lib.hid (below_step HB.out hb1); clear hb1)
      go_ret
      exact ⟨rfl, B1.out⟩
end Go.Proofs.YtopcbmmnjmmoiaaGreat

namespace Go.Proofs.YtopcbmmnjmmoiaaGreat
open Go.RowKit
set_option linter.unusedVariables false
set_option maxRecDepth 100000

theorem dflat_take {α : Type} (ls : List (List α)) (k : Nat) (h : k < ls.length) : (ls.take (k + 1)).flatten = (ls.take k).flatten ++ ls.getD k [] := by
  rw [List.take_succ_eq_append_getElem h, List.flatten_append]
  simp [List.getD_eq_getElem?_getD, h]
theorem dflat_le {α : Type} (ls : List (List α)) (k : Nat) : (ls.take k).flatten.length ≤ ls.flatten.length := by
  conv => rhs; rw [← List.take_append_drop k ls, List.flatten_append, List.length_append]
  omega

/-! ### Dfs -/
/-- A slice of slices, in memory. -/
structure DfsL (w : World) (v : Value) (ls : List (List De)) : Prop where
  ex : ∃ b off c, v = .slice (some ⟨b, off, none⟩) ls.length c ∧ ls.length ≤ c ∧ c ≤ maxLen ∧ ∀ j, j < ls.length → ∃ a n c', w.cell? ⟨b, off + j, none⟩ = some (.slice a n c') ∧ Dfs w (.slice a n c') (ls.getD j [])
theorem DfsL.below {w w' : World} {v : Value} {ls : List (List De)} (h : DfsL w v ls) (hb : Below w.heap.size w w') : DfsL w' v ls := by
  obtain ⟨b, off, c, hv, h1, h2, h3⟩ := h.ex
  refine ⟨b, off, c, hv, h1, h2, fun j hj => ?_⟩
  obtain ⟨a, n, c', h4, h5⟩ := h3 j hj
  exact ⟨a, n, c', cell_keep h4 hb, Dfs.below h5 hb⟩
theorem df_back (w : World) (A : Option Addr) (n c i : Nat) (h : i ≤ n) (hc : n ≤ c) : (Instr.sliceAt 24 (.slice A n c) (some (.int .i64 i)) none none).run Tryz.prog w = .ok (sliced A i n c 3) w := by
  have h1 : (0 : Int) ≤ (i : Int) := by omega
  have h2 : (i : Int) ≤ (n : Int) := by omega
  have h3 : (n : Int) ≤ (c : Int) := by omega
  go_simp
theorem df_front (w : World) (A : Option Addr) (n c i : Nat) (h : i ≤ c) : (Instr.sliceAt 24 (.slice A n c) none (some (.int .i64 i)) none).run Tryz.prog w = .ok (sliced A 0 i c 3) w := by
  have h1 : (0 : Int) ≤ (i : Int) := by omega
  have h2 : (i : Int) ≤ (c : Int) := by omega
  go_simp

set_option maxHeartbeats 1600000 in
theorem df_grow (n : Nat) (w : World) (hn : n ≤ 4000000) :
    Calls Tryz.prog 55 #[.slice none 0 0, .int .i64 (n : Int)] w fun e w' => ∃ v, e = .returned v ∧ w'.ownsRow w.heap.size 42 3 v 0 [] ∧ Below w.heap.size w w' := by
  obtain ⟨i, hi, hz, hsize, hby⟩ := info_parts Tryz.info_df
  by_cases h0 : n = 0
  · subst h0
    go_enter Tryz.func55, Tryz.ntmps55
    go_wp2
    go_ret
    exact ⟨_, rfl, World.ownsRow_nil _ _ _ _, Below.refl _ _⟩
  · have hp : 0 < n := by omega
    have hpI : (0 : Int) < (n : Int) := by omega
    have hc1 := grownCap_ge w n 0 42
    have hc2 := grownCap_le_maxLen w n 0 42 (by unfold maxLen; omega)
    have hr := fun ty => Lib.run_append_nil_zeros (P := Tryz.prog) w 24 3 ty 42 i zDV .i64 .i64 Tryz.underlying24 Tryz.underlying3 hi hz n hp (by rw [hsize]; decide) (by omega) (by rw [hby]; omega)
    obtain ⟨C, hC⟩ : ∃ C, grownCap w n 0 42 = C := ⟨_, rfl⟩
    rw [hC] at hc1 hc2 hr
    obtain ⟨cs, hcs⟩ : ∃ cs, Builtin.zeroCells (Value.cells zDV) n ++ Builtin.zeroCells (Value.cells zDV) (C - n) = cs := ⟨_, rfl⟩
    have hsz : cs.size = C * 3 := by
      have e1 : (Value.cells zDV).size = 3 := rfl
      rw [← hcs, Array.size_append, size_zeroCells, size_zeroCells, e1, ← Nat.add_mul]
      congr 1
      omega
    rw [hcs] at hr
    have hown : (w.drew.alloc (.cells cs 42)).ownsRow w.heap.size 42 3 (.slice (some ⟨w.heap.size, 0, none⟩) 0 C) 0 [] := World.ownsRow_made w.drew cs C (Nat.le_refl _) hc2 hsz
    have hbel : Below w.heap.size w (w.drew.alloc (.cells cs 42)) := ((Below.refl _ w).drew).alloc (by simp) _
    obtain ⟨W, hW⟩ : ∃ W, w.drew.alloc (.cells cs 42) = W := ⟨_, rfl⟩
    rw [hW] at hown hbel hr
    have HO := Lib.hid hown; have HB := Lib.hid hbel
    clear hC hcs hsz hown hbel hW hi hz hsize hby
    unfold maxLen at hc2
    go_enter Tryz.func55, Tryz.ntmps55
    go_wp2_with (at_builtin; refine Lib.wpList_append_run _ rfl _ _ 24 3 rfl _ _ rfl rfl _ _ (hr _) ?_)
    go_ret
    exact ⟨_, rfl, HO.out, HB.out⟩

set_option maxHeartbeats 3200000 in
theorem df_concat (V : Value) (ls : List (List De)) (w : World) (h : DfsL w V ls) (hm : ls.length ≤ 1000) (hl : ls.flatten.length ≤ 2000000) :
    Calls Tryz.prog 41 #[V] w fun e w' => ∃ v, e = .returned v ∧ w'.ownsRow w.heap.size 42 3 v ls.flatten.length (dfC ls.flatten) ∧ Below w.heap.size w w' := by
  obtain ⟨b, off, c, rfl, h1, h2, h3⟩ := h.ex
  unfold maxLen at h2
  obtain ⟨m, hmm⟩ : ∃ m, ls.length = m := ⟨_, rfl⟩
  obtain ⟨R, hR⟩ : ∃ R, ls.flatten = R := ⟨_, rfl⟩
  obtain ⟨r, hr⟩ : ∃ r, R.length = r := ⟨_, rfl⟩
  have hfl := fun k => dflat_le ls k
  have hst := fun k => dflat_take ls k
  rw [hmm] at h1 hm h3 hst
  rw [hR] at hl hfl
  rw [hR, hr]
  rw [hr] at hl hfl
  have H3 := Lib.hid h3; have HM := Lib.hid hmm; have HR := Lib.hid hR; have HRL := Lib.hid hr; have HFL := Lib.hid hfl; have HST := Lib.hid hst
  clear h h3 hmm hR hr hfl hst
  rw [HM.out]
  go_enter Tryz.func41, Tryz.ntmps41
  go_wp2
  go_loopw [3, 11] (fun v3 v11 wr => ∃ k s : Nat, k ≤ m ∧ v3 = .int .i64 (s : Int) ∧ v11 = .int .i64 (k : Int) ∧ s ≤ r ∧ Hid ((ls.take k).flatten.length = s) ∧ w = wr) (fun _ v _ => m - (intOf v).toNat)
  case atStart => exact ⟨0, 0, Nat.zero_le _, rfl, rfl, Nat.zero_le _, Lib.hid rfl, rfl⟩
  case round =>
    obtain ⟨k, s, hk, rfl, rfl, hs, HS, rfl⟩ := hrel
    by_cases hlt : k < m
    · obtain ⟨a, n, c', hc, hN⟩ := H3.out k hlt
      have hkb : (k : Int) < (m : Int) := by omega
      have hlen := hN.lenE
      have hs2 : (ls.take (k + 1)).flatten.length = s + n := by rw [HST.out k hlt, List.length_append, HS.out, hlen.1]
      have hle := HFL.out (k + 1)
      rw [hs2] at hle
      have HS2 := Lib.hid hs2
      obtain ⟨-, hn1, hn2⟩ := hlen
      unfold maxLen at hn2
      clear hN hs2
      go_wp2
      go_roundw
      case rel => exact ⟨k + 1, s + n, by omega, by go_num, by go_num, hle, HS2, by first | rfl | trivial⟩
      case measure => simp [intOf]; omega
    · have e : k = m := by omega
      subst e
      have hsr : s = r := by
        have := HS.out
        rw [List.take_of_length_le (by rw [HM.out]; exact Nat.le_refl _), HR.out, HRL.out] at this
        exact this.symm
      subst hsr
      clear HS
      go_wp2_with (go_at_call 55; refine (df_grow _ _ (by omega)).mono ?_; rintro e w1 ⟨v1, rfl, hown1, hb1⟩; have HO := Lib.hid hown1; have HB := Lib.hid hb1; clear hown1 hb1)
      go_loopw [6, 27] (fun v6 v27 wr => ∃ (j : Nat) (ys : List De), j ≤ k ∧ v27 = .int .i64 (j : Int) ∧ ys.length ≤ s ∧ Hid (ys = (ls.take j).flatten) ∧ wr.ownsRow w.heap.size 42 3 v6 ys.length (dfC ys) ∧ Hid (Below w.heap.size w wr)) (fun _ v _ => k - (intOf v).toNat)
      case atStart => exact ⟨0, [], Nat.zero_le _, rfl, Nat.zero_le _, Lib.hid rfl, HO.out, HB⟩
      case round =>
        obtain ⟨j, ys, hj, rfl, hys, HY, hown, HB2⟩ := hrel
        by_cases hlt2 : j < k
        · obtain ⟨a, n, c', hc0, hN0⟩ := H3.out j hlt2
          have hjb : (j : Int) < (k : Int) := by omega
          have hc := cell_keep hc0 HB2.out
          have SN := Lib.hid (Dfs.below hN0 HB2.out)
          have hlen := hN0.lenE
          have hld : (dfC (ls.getD j [])).length = n * 3 := by rw [dfC_len, hlen.1]
          have hY2 : (ls.take (j + 1)).flatten = ys ++ ls.getD j [] := by rw [HST.out j hlt2, HY.out]
          have hle := HFL.out (j + 1)
          rw [hY2, List.length_append, hlen.1] at hle
          obtain ⟨Z, hZ⟩ : ∃ Z, ls.getD j [] = Z := ⟨_, rfl⟩
          rw [hZ] at hY2 hld SN
          have hZn : Z.length = n := by rw [← hZ]; exact hlen.1
          have HY2 := Lib.hid hY2; have HZN := Lib.hid hZn
          obtain ⟨-, hn1, hn2⟩ := hlen
          unfold maxLen at hn2
          obtain ⟨ny, hny⟩ : ∃ ny, ys.length = ny := ⟨_, rfl⟩
          rw [hny] at hle hys hown
          have HNY := Lib.hid hny
          clear hN0 hY2 hZ hZn hc0 hny
          go_wp2_with (at_builtin; refine wpList_append_src rfl _ _ 24 rfl w.heap.size 42 zDV 3 40 Tryz.underlying24 Tryz.info_df rfl (by decide) _ ny (dfC ys) rfl hown a n c' (dfC Z) rfl hld SN.out.nil SN.out.src (dfC_one _) (by omega) (by unfold maxLen; omega) HB2.out.size ?_)
          intro v' w' hown' hb'
          have ho2 : w'.ownsRow w.heap.size 42 3 v' (ys ++ Z).length (dfC (ys ++ Z)) := by
            rw [dfC_app, List.length_append, HNY.out, HZN.out]; exact hown'
          have HO2 := Lib.hid ho2
          have HB3 := Lib.hid (HB2.out.trans hb'.toBelow)
          clear hown hown' ho2 hb' hld
          go_wp2
          go_roundw
          case rel => exact ⟨j + 1, ys ++ Z, by omega, by go_num, by rw [List.length_append, HNY.out, HZN.out]; exact hle, Lib.hid HY2.out.symm, HO2.out, HB3⟩
          case measure => simp [intOf]; omega
        · have e : j = k := by omega
          subst e
          have e2 : ys = R := by
            have := HY.out
            rwa [List.take_of_length_le (by rw [HM.out]; exact Nat.le_refl _), HR.out] at this
          subst e2
          have HO2 := Lib.hid hown; clear hown
          go_wp2
          go_ret
          refine ⟨_, rfl, ?_, HB2.out⟩
          have := HO2.out
          rwa [HRL.out] at this

end Go.Proofs.YtopcbmmnjmmoiaaGreat

namespace Go.Proofs.YtopcbmmnjmmoiaaGreat
open Go.RowKit
set_option linter.unusedVariables false
set_option maxRecDepth 100000

/-- A row of the call's own, among the blocks from N on. -/
def rowG (N : Nat) (e : TypeId) (size n : Nat) (xs : List Value) : World → Value → Option Nat → Prop := fun w v ob => w.ownsRow N e size v n xs ∧ ob = v.ownBlock
theorem row_heap {w w' : World} {base : Nat} {e : TypeId} {size : Nat} {v : Value} {n : Nat} {xs : List Value} (h : w.ownsRow base e size v n xs) (hb : ∀ b, v.ownBlock = some b → w'.heap[b]? = w.heap[b]?) : w'.ownsRow base e size v n xs := by
  obtain ⟨h1, h2⟩ := h
  refine ⟨h1, h2.imp id ?_⟩
  rintro ⟨g, cap, cur, rfl, hg, hh, h3⟩
  exact ⟨g, cap, cur, rfl, hg, (hb g rfl).trans hh, h3⟩
theorem rowG_near {N : Nat} {e : TypeId} {size n : Nat} {xs : List Value} : ∀ (w w' : World) (v : Value) (ob : Option Nat), (∀ b, ob = some b → w'.heap[b]? = w.heap[b]?) → rowG N e size n xs w v ob → rowG N e size n xs w' v ob := by
  rintro w w' v ob hb ⟨h, rfl⟩
  exact ⟨row_heap h hb, rfl⟩
/-- A slice of a whole block of its own. -/
def blkG (t : TypeId) (cs : Array Value) (k : Nat) : World → Value → Option Nat → Prop := fun w u ob => ∃ b, u = .slice (some ⟨b, 0, none⟩) k k ∧ ob = some b ∧ w.heap[b]? = some (.cells cs t (0, 0))
theorem blkG_near {t : TypeId} {cs : Array Value} {k : Nat} : ∀ (w w' : World) (u : Value) (ob : Option Nat), (∀ b, ob = some b → w'.heap[b]? = w.heap[b]?) → blkG t cs k w u ob → blkG t cs k w' u ob := by
  rintro w w' u ob hb ⟨b, rfl, rfl, h⟩
  exact ⟨b, rfl, rfl, (hb b rfl).trans h⟩
/-- A row of the call's own, whatever slot it is told of. -/
def rowX (X : Value) (N : Nat) (e : TypeId) (size n : Nat) (xs : List Value) : World → Value → Option Nat → Prop := fun w _ ob => w.ownsRow N e size X n xs ∧ ob = X.ownBlock
theorem rowX_near {X : Value} {N : Nat} {e : TypeId} {size n : Nat} {xs : List Value} : ∀ (w w' : World) (v : Value) (ob : Option Nat), (∀ b, ob = some b → w'.heap[b]? = w.heap[b]?) → rowX X N e size n xs w v ob → rowX X N e size n xs w' v ob := by
  rintro w w' v ob hb ⟨h, rfl⟩
  exact ⟨row_heap h hb, rfl⟩
/-- Rows of different elements lie in different blocks. -/
theorem own_apart {w : World} {N N' : Nat} {e e' : TypeId} {s s' n n' : Nat} {x y : Value} {xs ys : List Value} (h : w.ownsRow N e s x n xs) (h' : w.ownsRow N' e' s' y n' ys) (hne : e ≠ e') : ∀ b, x.ownBlock = some b → y.ownBlock ≠ some b := by
  intro b hb hb'
  rcases h.2 with ⟨rfl, _⟩ | ⟨g, cap, cur, rfl, _, hg, _⟩
  · cases hb
  · rcases h'.2 with ⟨rfl, _⟩ | ⟨g', cap', cur', rfl, _, hg', _⟩
    · cases hb'
    · have e1 : g = b := Option.some.inj hb
      have e2 : g' = b := Option.some.inj hb'
      subst e1 e2
      rw [hg] at hg'
      injection hg' with hg'
      injection hg' with _ hg'
      exact hne hg'
/-- A row lies not where a box does, of another type. -/
theorem own_nebox {w : World} {N g : Nat} {e t : TypeId} {s n : Nat} {x : Value} {xs : List Value} {cs : Array Value} (h : w.ownsRow N e s x n xs) (hg : w.heap[g]? = some (.cells cs t (0, 0))) (hne : e ≠ t) : x.ownBlock ≠ some g := by
  intro hb
  rcases h.2 with ⟨rfl, _⟩ | ⟨b, cap, cur, rfl, _, hh, _⟩
  · cases hb
  · have e1 : b = g := Option.some.inj hb
    subst e1
    rw [hg] at hh
    injection hh with hh
    injection hh with _ hh
    exact hne hh.symm
theorem idx_nds {w : World} {b off n c k : Nat} (h : k < n) : (Instr.indexAt 22 (.slice (some ⟨b, off, none⟩) n c) (.int .i64 (k : Int))).run Tryz.prog w = .ok (.pointer (some ⟨b, off + k * 2, none⟩)) w := by
  have h1 : (0 : Int) ≤ (k : Int) := by omega
  have h3 : (k : Int) < (n : Int) := by omega
  go_simp
theorem ld_node {w : World} {g i : Nat} {p v : List UInt8} (h : w.cell? ⟨g, i, none⟩ = some (.string (mkB p))) (h' : w.cell? ⟨g, i + 1, none⟩ = some (.string (mkB v))) : Sem.run Tryz.prog (Instr.loadAt 40 (.pointer (some ⟨g, i, none⟩))) w = .ok (.agg #[.string (mkB p), .string (mkB v)]) w := by
  go_simp
section
variable {P : Program} {ops : Array Oper} {a : Act} {w : World} {o : Oper}
theorem ex_back {t : TypeId} {x y : Operand} {vx vy v : Value} (hop : o.op = .slice t x (some y) none none) (hx : a.eval x = vx) (hy : a.eval y = vy) (hr : Sem.run P (Instr.sliceAt t vx (some vy) none none) w = .ok v w) : Sem.run P (execOp a.eval o) w = .ok (.value v) w := by
  simp only [execOp, hop, Option.map, hx, hy]
  simp [hr]
end
end Go.Proofs.YtopcbmmnjmmoiaaGreat

namespace Go.Proofs.YtopcbmmnjmmoiaaGreat
open Go.RowKit
set_option linter.unusedVariables false
set_option maxRecDepth 100000

theorem idx_df {w : World} {b off n c k : Nat} (h : k < n) : (Instr.indexAt 24 (.slice (some ⟨b, off, none⟩) n c) (.int .i64 (k : Int))).run Tryz.prog w = .ok (.pointer (some ⟨b, off + k * 3, none⟩)) w := by
  have h1 : (0 : Int) ≤ (k : Int) := by omega
  have h3 : (k : Int) < (n : Int) := by omega
  go_simp
theorem idx0_df {w : World} {b off n c : Nat} (h : 0 < n) : (Instr.indexAt 24 (.slice (some ⟨b, off, none⟩) n c) (.int .i64 0)).run Tryz.prog w = .ok (.pointer (some ⟨b, off, none⟩)) w := by
  have h3 : (0 : Int) < (n : Int) := by omega
  go_simp
theorem fld_df {w : World} {b off : Nat} : Sem.run Tryz.prog (Instr.fieldAt 42 (.pointer (some ⟨b, off, none⟩)) 0) w = .ok (.pointer (some ⟨b, off, none⟩)) w := by go_simp
theorem fld2_df {w : World} {b off : Nat} : Sem.run Tryz.prog (Instr.fieldAt 42 (.pointer (some ⟨b, off, none⟩)) 1) w = .ok (.pointer (some ⟨b, off + 2, none⟩)) w := by go_simp
theorem ld_df {w : World} {g i : Nat} {p v : List UInt8} {z : Int} (h : w.cell? ⟨g, i, none⟩ = some (.string (mkB p))) (h' : w.cell? ⟨g, i + 1, none⟩ = some (.string (mkB v))) (h2 : w.cell? ⟨g, i + 2, none⟩ = some (.int .i64 z)) : Sem.run Tryz.prog (Instr.loadAt 42 (.pointer (some ⟨g, i, none⟩))) w = .ok (.agg #[.string (mkB p), .string (mkB v), .int .i64 z]) w := by
  go_simp
theorem ld_num {w : World} {g i : Nat} {z : Int} (h : w.cell? ⟨g, i, none⟩ = some (.int .i64 z)) : Sem.run Tryz.prog (Instr.loadAt 3 (.pointer (some ⟨g, i, none⟩))) w = .ok (.int .i64 z) w := by
  go_simp
theorem build_df {w : World} {p v : List UInt8} {z : Int} : Sem.run Tryz.prog (Instr.build 42 #[(0, .agg #[.string (mkB p), .string (mkB v)]), (1, .int .i64 z)]) w = .ok (.agg #[.string (mkB p), .string (mkB v), .int .i64 z]) w := by go_simp
theorem tail_df (w : World) (A : Option Addr) (n c : Nat) (h : 1 ≤ n) (hc : n ≤ c) : (Instr.sliceAt 24 (.slice A n c) (some (.int .i64 1)) none none).run Tryz.prog w = .ok (sliced A 1 n c 3) w := by
  have h1 : (1 : Int) ≤ (n : Int) := by omega
  have h2 : (n : Int) ≤ (c : Int) := by omega
  go_simp
theorem Dfs.first {w : World} {A : Option Addr} {n c : Nat} {p v : List UInt8} {z : Int} {t : List De} (h : Dfs w (.slice A n c) (((p, v), z) :: t)) : ∃ b off, A = some ⟨b, off, none⟩ ∧ b < w.heap.size ∧ w.cell? ⟨b, off, none⟩ = some (.string (mkB p)) ∧ w.cell? ⟨b, off + 1, none⟩ = some (.string (mkB v)) ∧ w.cell? ⟨b, off + 2, none⟩ = some (.int .i64 z) := by
  obtain ⟨b, off, h1, h2, h3, h4, h5⟩ := h.at 0 (by simp)
  exact ⟨b, off, h1, h2, by simpa using h3, by simpa using h4, by simpa using h5⟩
theorem Dfs.rest {w : World} {A : Option Addr} {n c : Nat} {x : De} {t : List De} (h : Dfs w (.slice A n c) (x :: t)) : ∃ A' m d, (∀ w, (Instr.sliceAt 24 (.slice A n c) (some (.int .i64 1)) none none).run Tryz.prog w = .ok (.slice A' m d) w) ∧ n = m + 1 ∧ Dfs w (.slice A' m d) t := by
  obtain ⟨h1, h2, h3⟩ := h.lenE
  have h4 := h.cut (i := 1) (by simp)
  simp only [List.length_cons] at h1
  refine ⟨_, n - 1, c - 1, fun w => tail_df w A n c (by omega) h2, by omega, h4⟩
theorem blkG.dfs {w : World} {b : Nat} {p v : List UInt8} {z : Int} (h : w.heap[b]? = some (.cells #[.string (mkB p), .string (mkB v), .int .i64 z] 42 (0, 0))) : Dfs w (.slice (some ⟨b, 0, none⟩) 1 1) [((p, v), z)] := by
  obtain ⟨d0, d1, d2, -⟩ := row3 h
  refine ⟨some ⟨b, 0, none⟩, 1, rfl, Nat.le_refl _, by unfold maxLen; omega, (fun h => by cases h), fun _ => ⟨b, 0, rfl, (Array.getElem?_eq_some_iff.1 h).1, fun j hj => ?_⟩⟩
  have hj2 : j = 0 := by simp at hj; omega
  subst hj2
  exact ⟨d0, d1, d2⟩

theorem run_app_df {w : World} {base n : Nat} {v : Value} {K : List De} (hown : w.ownsRow base 42 3 v n (dfC K)) {a0 : Option Addr} {m c : Nat} {L : List De} (hN : Dfs w (.slice a0 m c) L) (hlen : n + m ≤ 2000000) (hbase : base ≤ w.heap.size) (t : TypeId) :
    ∃ v' w', (Builtin.append_ #[24, 24] t #[v, .slice a0 m c]).run Tryz.prog w = .ok v' w' ∧ w'.ownsRow base 42 3 v' (n + m) (dfC (K ++ L)) ∧ w.grownBy w' v.ownBlock ∧ (v'.ownBlock = v.ownBlock ∨ v'.ownBlock = some w.heap.size ∧ w.heap.size < w'.heap.size) := by
  obtain ⟨i, hi, hz, hsize, hby⟩ := info_parts Tryz.info_df
  have hm : m = L.length := hN.lenE.1.symm
  cases a0 with
  | none =>
    obtain ⟨rfl, rfl⟩ := hN.nil rfl
    have hL : L = [] := List.eq_nil_of_length_eq_zero hm.symm
    subst hL
    have hr := run_append_owned_none (P := Tryz.prog) (w := w) base 24 t 42 i 3 Tryz.underlying24 hi v n _ hown
    exact ⟨v, w, hr, by simpa using hown, ⟨rfl, rfl, rfl, Nat.le_refl _, fun _ _ _ => rfl⟩, .inl rfl⟩
  | some ad =>
    obtain ⟨v', w', hr, h2, h3, _, h5⟩ := run_append_own_at (P := Tryz.prog) w base 24 t 42 i zDV 3 40 Tryz.underlying24 hi hz hsize hby rfl (by decide) v n _ hown ad m c (dfC L) (by rw [dfC_len, hm]) (hN.src ad rfl) (fun u hu => List.all_eq_true.1 (dfC_one L) u hu) (by unfold maxLen; omega) (by omega) hbase
    rw [← dfC_app] at h2
    refine ⟨v', w', hr, h2, h3, h5.imp id fun e => ⟨e, ?_⟩⟩
    exact (h2.lt _ e).2
section
variable {ops : Array Oper} {Q : Exit → Act → World → Prop} {a : Act} {w w0 : World} {who : Nat → Nat} {i B r ro : Nat} {o : Oper}
/-- 'append(row, l...)', the row one that a box's field holds. -/
theorem rol_app_df (ho : ops[i]? = some o) (hw : Region.wanted o (yielded ops a.tmps) = true) {s : Nat} (hd : o.dst = some s) (hs : s < a.tmps.size) {y x : Operand} (hop : o.op = .call { callee := .builtin .append, args := #[y, x], argTypes := #[24, 24] })
    {N n t : Nat} {K : List De} {X : Value} (h : (RLeaf.mem t (rowX X N 42 3 n (dfC K))).holds r a w who) (hy : a.eval y = X) {a0 : Option Addr} {m c : Nat} (hx : a.eval x = .slice a0 m c) {L : List De} (hN : Dfs w (.slice a0 m c) L) (hlen : n + m ≤ 2000000) (hb : Below B w0 w) (hB : B ≤ N) (hNw : N ≤ w.heap.size) {n' : Nat} {K' : List De} (hn : n' = n + m) (hK : K' = K ++ L) :
    wpOp Tryz.prog ops Q i (RPost ops i r r (.mem s (rowG N 42 3 n' (dfC K'))) B w0 a w who) a w := by
  subst hn hK
  obtain ⟨v, ob, hv, hob, hrow, rfl⟩ := h
  obtain ⟨v', w', hr, h2, h3, h5⟩ := run_app_df hrow hN hlen hNw o.type
  exact rol_grow ho hw hd hs (ex_append hop hy hx hr) h3 hob h5 ⟨h2, rfl⟩ hb (Nat.le_trans hB hNw) (fun b e => Nat.le_trans hB (own_lt hrow e).1)
end
section
variable {wr : World} {ops : Array Oper} {rest : List Oper} {o : Oper} {a : Act} {Q : Exit → Act → World → Prop}
/-- 'l = append(l, x)', l the call's own: x has just been laid in a block of its own. -/
theorem wpList_push_df (hgd : o.guard = none) (s x : Operand) (ho : o.op = .call { callee := .builtin .append, args := #[s, x], argTypes := #[24, 24] })
    (base : Nat) (V : Value) (K : List De) (n : Nat) (hn : K.length = n) (hs : a.eval s = V) (hown : wr.ownsRow base 42 3 V n (dfC K)) (p v : List UInt8) (z : Int) (N : Nat) (hN : wr.heap.size = N) (hx : a.eval x = .slice (some ⟨N, 0, none⟩) 1 1) (hlen : n ≤ 1000000) (hbase : base ≤ wr.heap.size)
    (h : ∀ a' c' w', w'.ownsRow base 42 3 (.slice a' (n + 1) c') (n + 1) (dfC (K ++ [((p, v), z)])) → wr.grownBy w' V.ownBlock → wpList Tryz.prog ops Q rest (a.put o.dst (.slice a' (n + 1) c')) w') :
    wpList Tryz.prog ops Q (o :: rest) a (wr.alloc (.cells #[.string (mkB p), .string (mkB v), .int .i64 z] 42)) := by
  subst hN
  refine wpList_plain hgd fun K' hK' => ?_
  obtain ⟨v', w', hr, h2, h3, -⟩ := run_app_df (hown.alloc (.cells #[.string (mkB p), .string (mkB v), .int .i64 z] 42)) (blkG.dfs (heap_alloc_new wr (.cells #[.string (mkB p), .string (mkB v), .int .i64 z] 42))) (m := 1) (c := 1) (by omega) (by simp; omega) o.type
  have ho2 : w'.ownsRow base 42 3 v' (K ++ [((p, v), z)]).length (dfC (K ++ [((p, v), z)])) := by rw [List.length_append, hn]; exact h2
  obtain ⟨a', c', hv, _⟩ := dfsO ho2
  rw [List.length_append, hn, List.length_singleton] at hv
  subst hv
  have hk := h a' c' w' h2 ((World.grownBy_alloc wr _ _).trans h3)
  unfold Oper.wp
  simp [execOp, ho, resolve, invoke, builtin, hs, hx, hr, Result.andThen]
  exact hK' _ _ hk
end


section
variable {ops : Array Oper} {Q : Exit → Act → World → Prop} {a : Act} {w : World} {o : Oper} {K : Act → World → Prop} {E : Prop}
/-- An append of edits, as one step of a region that draws its order. -/
theorem step_app_df (hg : o.guard = none) (s x : Operand) (hop : o.op = Op.call { callee := Callee.builtin Builtin.append, args := #[s, x], argTypes := #[24, 24] }) {v u v' : Value} {w' : World} (hs : a.eval s = v) (hx : a.eval x = u)
    (hr : (Builtin.append_ #[24, 24] o.type #[v, u]).run Tryz.prog w = .ok v' w') (hK : K (a.put o.dst v') w') :
    if Region.wanted o (yielded ops a.tmps) = true then Oper.wp Tryz.prog o a w K Q else E := by
  have hw : Region.wanted o (yielded ops a.tmps) = true := by simp [Region.wanted, hg]
  rw [if_pos hw]
  unfold Oper.wp
  simp [execOp, hop, resolve, invoke, builtin, hs, hx, hr, Result.andThen]
  exact hK
end
end Go.Proofs.YtopcbmmnjmmoiaaGreat

namespace Go.Proofs.YtopcbmmnjmmoiaaGreat
open Go.RowKit
set_option linter.unusedVariables false
set_option maxRecDepth 100000

/-! ### Is any beyond -/
def allIn (l : List De) : Bool := l.all fun e => inD e.2
theorem allIn_drop {l : List De} {k : Nat} (h : k < l.length) : allIn (l.drop k) = (inD (l.getD k zD).2 && allIn (l.drop (k + 1))) := by
  unfold allIn; rw [List.drop_eq_getElem_cons h, List.all_cons, df_getD h]
set_option maxHeartbeats 800000 in
theorem dindexf_any (V : Value) (l : List De) (w : World) (h : Dfs w V l) :
    Calls Tryz.prog 42 #[V, .func (.func 28) #[] #[]] w fun e w' => (∃ i : Int, e = .returned (.int .i64 i) ∧ decide (0 ≤ i) = !allIn l) ∧ Below w.heap.size w w' := by
  obtain ⟨a, c, rfl, h1, h2, -, -⟩ := h.ex
  unfold maxLen at h2
  obtain ⟨n, hn⟩ : ∃ n, l.length = n := ⟨_, rfl⟩
  obtain ⟨R, hR⟩ : ∃ R, allIn l = R := ⟨_, rfl⟩
  rw [hR]
  rw [hn] at h1 h ⊢
  have ST := Lib.hid h; have HN := Lib.hid hn; have HR := Lib.hid hR
  clear h hn hR
  go_enter Tryz.func42, Tryz.ntmps42
  go_wp2
  go_loopw [8] (fun i wr => ∃ k : Nat, k ≤ n ∧ i = .int .i64 k ∧ Hid (allIn (l.drop k) = R) ∧ Hid (Below w.heap.size w wr)) (fun i _ => n - (intOf i).toNat)
  case atStart => exact ⟨0, Nat.zero_le _, rfl, Lib.hid (by simpa using HR.out), Lib.hid (Below.refl _ _)⟩
  case round =>
    obtain ⟨k, hk, rfl, H, HB⟩ := hrel
    by_cases hlt : k < n
    · have hkl : k < l.length := by rw [HN.out]; exact hlt
      obtain ⟨b, off, rfl, -, hc0, hc1, hc2⟩ := (ST.out.below HB.out).at k hkl
      have hd := allIn_drop hkl
      obtain ⟨y, hy⟩ : ∃ y, y = l.getD k zD := ⟨_, rfl⟩
      rw [← hy] at hc0 hc1 hc2 hd
      obtain ⟨⟨y1, y2⟩, z⟩ := y
      simp only at hc0 hc1 hc2 hd
      have kb := fun w => beyond_any y1 y2 z w
      obtain ⟨I, hI⟩ : ∃ I, inD z = I := ⟨_, rfl⟩
      rw [hI] at kb hd
      have KB := Lib.hid kb; have HD := Lib.hid hd
      clear hy hI kb hd
      have hkb : (k : Int) < (n : Int) := by omega
      cases I
      · go_wp2_with (go_at_call 28; refine (KB.out _).mono ?_; rintro e w1 ⟨rfl, hb1⟩; have B1 := Lib.hid (below_step HB.out hb1); clear hb1)
        go_ret
        refine ⟨⟨k, rfl, ?_⟩, B1.out⟩
        rw [← H.out, HD.out]; simp
      · go_wp2_with (go_at_call 28; refine (KB.out _).mono ?_; rintro e w1 ⟨rfl, hb1⟩; have B1 := Lib.hid (below_step HB.out hb1); clear hb1)
        have H5 : Hid (allIn (l.drop (k + 1)) = R) := Lib.hid (by rw [← H.out, HD.out]; simp)
        go_roundw
        case rel => exact ⟨k + 1, by omega, by go_num, H5, B1⟩
        case measure => simp [intOf]; omega
    · go_wp2
      go_ret
      refine ⟨⟨-1, rfl, ?_⟩, HB.out⟩
      rw [← H.out, List.drop_eq_nil_of_le (by rw [HN.out]; omega)]; rfl
set_option maxHeartbeats 400000 in
theorem dcontf_any (V : Value) (l : List De) (w : World) (h : Dfs w V l) :
    Calls Tryz.prog 27 #[V, .func (.func 28) #[] #[]] w fun e w' => e = .returned (.bool (!allIn l)) ∧ Below w.heap.size w w' := by
  have K := Lib.hid (dindexf_any V l w h)
  obtain ⟨a, c, rfl, -⟩ := h.ex
  obtain ⟨R, hR⟩ : ∃ R, (!allIn l) = R := ⟨_, rfl⟩
  obtain ⟨n, hn⟩ : ∃ n, l.length = n := ⟨_, rfl⟩
  rw [hR, hn] at K
  rw [hR, hn]
  clear hR hn h
  go_enter Tryz.func27, Tryz.ntmps27
  go_wp2_with (go_at_call 42; refine K.out.mono ?_; rintro e w1 ⟨⟨i, rfl, hi⟩, hb1⟩; have HI := Lib.hid hi; have B := Lib.hid hb1; clear hb1 hi)
  go_ret
  exact ⟨by rw [← HI.out]; rfl, B.out⟩

/-! ### A copy of edits -/
theorem copy_df {w : World} {g n c : Nat} {A : Option Addr} {l : List De} {cur : Array Value} (hN : Dfs w (.slice A n c) l) (hg : w.heap[g]? = some (.cells cur 42 (0, 0))) (hcur : cur.size = n * 3) (ty : TypeId) :
    (Builtin.copy_ #[24, 24] ty #[.slice (some ⟨g, 0, none⟩) n n, .slice A n c]).run Tryz.prog w = .ok (.int .i64 (n : Int)) (w.setRow g (dfC l).toArray) := by
  obtain ⟨i, hi, hz, hsize, hby⟩ := info_parts Tryz.info_df
  have hl : l.length = n := hN.lenE.1
  cases A with
  | none =>
    obtain ⟨rfl, rfl⟩ := hN.nil rfl
    have hL : l = [] := List.eq_nil_of_length_eq_zero hl
    subst hL
    have hc0 : cur = #[] := Array.eq_empty_of_size_eq_zero (by omega)
    subst hc0
    have e : w.setRow g (dfC []).toArray = w := setRow_self w g #[] _ _ hg
    rw [e]
    simp [Builtin.copy_, run_underlying Tryz.underlying24, Builtin.lenOf, Builtin.firstCells, sizeOf, typeInfo, hi, storeCells, goInt, Result.andThen]
  | some ad =>
    have hlc := run_loadCells_list (P := Tryz.prog) w ad (dfC l) (hN.src ad rfl)
    have hst := run_storeCells_at Tryz.prog g 0 42 (dfC l) 0 cur w hg (by rw [dfC_len, hcur, hl]; omega) (fun v hv => List.all_eq_true.1 (dfC_one l) v hv)
    have e : (cur.toList.take (0 + 0) ++ dfC l ++ cur.toList.drop (0 + 0 + (dfC l).length)) = dfC l := by
      rw [List.drop_eq_nil_of_le (by rw [dfC_len, Array.length_toList, hcur, hl]; omega)]; simp
    rw [e] at hst
    rw [dfC_len, hl] at hlc
    simp [Builtin.copy_, run_underlying Tryz.underlying24, Builtin.lenOf, Builtin.firstCells, sizeOf, typeInfo, hi, hsize, hlc, hst, goInt, Result.andThen]
theorem make_df (w : World) (n : Nat) (hn : n ≤ 1000000) : (Instr.makeSlice 24 (.int .i64 (n : Int)) (.int .i64 (n : Int))).run Tryz.prog w = .ok (.slice (some ⟨w.heap.size, 0, none⟩) n n) (w.alloc (.cells (madeCells #[.string ByteArray.empty, .string ByteArray.empty, .int .i64 0] (n * 3)) 42)) := by
  obtain ⟨i, hi, hz, hsize, hby⟩ := info_parts Tryz.info_df
  have hr := run_make (P := Tryz.prog) w 24 42 i zDV Tryz.underlying24 hi hz .i64 .i64 n n (by omega) (Int.le_refl _) (by rw [hby]; omega) (by omega)
  simp only [Int.toNat_natCast, hsize] at hr
  exact hr

/-! ### One of them turned -/
theorem dfC_set (l : List De) : ∀ (k : Nat) (z : Int), k < l.length → (dfC l).set (k * 3 + 2) (.int .i64 z) = dfC (l.set k ((l.getD k zD).1, z)) := by
  induction l with
  | nil => intro k z hk; exact absurd hk (Nat.not_lt_zero k)
  | cons x l ih =>
    intro k z hk
    have e : ∀ (x : De) (l : List De), dfC (x :: l) = .string (mkB x.1.1) :: .string (mkB x.1.2) :: .int .i64 x.2 :: dfC l := fun _ _ => rfl
    cases k with
    | zero => rw [e]; rfl
    | succ k =>
      have := ih k z (by simpa using hk)
      have e3 : (k + 1) * 3 + 2 = (k * 3 + 2) + 1 + 1 + 1 := by omega
      rw [e, e3, List.set_cons_succ, List.set_cons_succ, List.set_cons_succ, this, List.set_cons_succ, e]
      rfl
def partD (l : List De) (k : Nat) : List De := turnD (l.take k) ++ l.drop k
theorem partD_len (l : List De) (k : Nat) : (partD l k).length = l.length := by
  unfold partD; rw [List.length_append, turn_len, List.length_take, List.length_drop]; omega
theorem partD_at {l : List De} {k : Nat} (h : k < l.length) : (partD l k).getD k zD = l.getD k zD := by
  have h1 : (turnD (l.take k)).length = k := by rw [turn_len, List.length_take]; omega
  rw [df_getD (by rw [partD_len]; exact h), df_getD h]
  unfold partD
  rw [List.getElem_append_right (by omega)]
  simp only [h1]
  rw [List.getElem_drop]
  congr 1
  omega
theorem partD_set {l : List De} {k : Nat} (h : k < l.length) : (partD l k).set k ((l.getD k zD).1, -(l.getD k zD).2) = partD l (k + 1) := by
  have h1 : (turnD (l.take k)).length = k := by rw [turn_len, List.length_take]; omega
  unfold partD
  rw [List.set_append_right _ _ (by omega), h1, Nat.sub_self, List.drop_eq_getElem_cons h, List.set_cons_zero, List.take_succ_eq_append_getElem h, df_getD h]
  unfold turnD
  rw [List.map_append, List.append_assoc]
  rfl
theorem partD_0 (l : List De) : partD l 0 = l := rfl
theorem partD_all (l : List De) : partD l l.length = turnD l := by unfold partD; rw [List.take_length, List.drop_length, List.append_nil]
theorem row_setC {w : World} {g j : Nat} {L : List Value} {t : TypeId} (h : w.heap[g]? = some (.cells L.toArray t (0, 0))) (u : Value) : (w.setCell ⟨g, j, none⟩ u).heap[g]? = some (.cells (L.set j u).toArray t (0, 0)) := by
  simp [World.setCell, Array.getElem?_modify, h]

theorem row_atC {w : World} {g j : Nat} {L : List Value} {t : TypeId} {u : Value} (h : w.heap[g]? = some (.cells L.toArray t (0, 0))) (hj : L[j]? = some u) : w.cell? ⟨g, j, none⟩ = some u ∧ w.frozen? ⟨g, j, none⟩ = false := by
  simp [World.cell?, World.frozen?, h, hj]
theorem rowC_own {w : World} {g n base : Nat} {l : List De} (h : w.heap[g]? = some (.cells (dfC l).toArray 42 (0, 0))) (hl : l.length = n) (hn : n ≤ 1000000) (hb : base ≤ g) : w.ownsRow base 42 3 (.slice (some ⟨g, 0, none⟩) n n) l.length (dfC l) := by
  subst hl
  exact ⟨dfC_len l, .inr ⟨g, l.length, _, rfl, hb, h, Nat.le_refl _, by unfold maxLen; omega, by rw [List.size_toArray, dfC_len], by rw [List.take_of_length_le (by simp [dfC_len])]⟩⟩
section
variable {w : World} {ops : Array Oper} {rest : List Oper} {o : Oper} {a : Act} {Q : Exit → Act → World → Prop}
theorem wpList_copy_df (hgd : o.guard = none) (d s : Operand) (ho : o.op = .call { callee := .builtin .copy, args := #[d, s], argTypes := #[24, 24] }) {g n c : Nat} {A : Option Addr} {l : List De} {cur : Array Value} (hd : a.eval d = .slice (some ⟨g, 0, none⟩) n n) (hs : a.eval s = .slice A n c)
    (hN : Dfs w (.slice A n c) l) (hg : w.heap[g]? = some (.cells cur 42 (0, 0))) (hcur : cur.size = n * 3) (hK : wpList Tryz.prog ops Q rest (a.put o.dst (.int .i64 (n : Int))) (w.setRow g (dfC l).toArray)) : wpList Tryz.prog ops Q (o :: rest) a w := by
  refine wpList_plain hgd fun K' hK' => ?_
  have hr := copy_df hN hg hcur o.type
  unfold Oper.wp
  simp [execOp, ho, resolve, invoke, builtin, hd, hs, hr, Result.andThen]
  exact hK' _ _ hK
end
theorem inD_neg {z : Int} (h : inD z = true) : IntKind.i64.wrap (-z) = -z := by rw [inD_iff] at h; exact IntWalk.i64_in _ (by omega)
set_option maxHeartbeats 1600000 in
theorem turn_any (V : Value) (l : List De) (w : World) (h : Dfs w V l) (hs : ∀ e ∈ l, smallD e) (hl : l.length ≤ 100000) :
    Calls Tryz.prog 16 #[V] w fun e w' => ∃ v, e = .returned (.tuple #[v, .int .i64 (turnE l).2]) ∧ w'.ownsRow w.heap.size 42 3 v (turnE l).1.length (dfC (turnE l).1) ∧ Below w.heap.size w w' := by
  have KC := Lib.hid (dcheck_any V l w h hs (by omega))
  obtain ⟨a, c, rfl, h1, h2, -, -⟩ := h.ex
  unfold maxLen at h2
  obtain ⟨n, hn⟩ : ∃ n, l.length = n := ⟨_, rfl⟩
  obtain ⟨R, hR⟩ : ∃ R, turnE l = R := ⟨_, rfl⟩
  rw [hR]
  obtain ⟨R1, R2⟩ := R
  simp only
  rw [hn] at h1 h hl KC ⊢
  have ST := Lib.hid h; have HN := Lib.hid hn
  have hmk := fun w => make_df w n (by omega)
  obtain ⟨o, ho⟩ : ∃ o, okD l = o := ⟨_, rfl⟩
  cases o
  · rw [turnE_no ho] at hR
    obtain ⟨rfl, rfl⟩ := Prod.mk.inj hR
    rw [chkD_no ho] at KC
    clear hR h hn ho hmk hs
    go_enter Tryz.func16, Tryz.ntmps16
    go_wp2_with (go_at_call 17; refine KC.out.mono ?_; rintro e w1 ⟨rfl, hb1⟩; have B := Lib.hid hb1; clear hb1)
    go_ret2
    exact ⟨_, rfl, dfs_row0 _ _, B.out⟩
  · rw [turnE_yes ho] at hR
    obtain ⟨rfl, rfl⟩ := Prod.mk.inj hR
    rw [chkD_yes ho] at KC
    have HIN := Lib.hid (okD_in ho)
    clear hR h hn ho hs
    go_enter Tryz.func16, Tryz.ntmps16
    go_upto_region 4 with (go_at_call 17; refine KC.out.mono ?_; rintro e w1 ⟨rfl, hb1⟩; have B := Lib.hid hb1; clear hb1)
    obtain ⟨X, g, hX, hg, hrow, hxb⟩ : ∃ X g, w1.alloc (.cells (madeCells #[.string ByteArray.empty, .string ByteArray.empty, .int .i64 0] (n * 3)) 42) = X ∧ w1.heap.size = g ∧ X.heap[g]? = some (.cells (madeCells #[.string ByteArray.empty, .string ByteArray.empty, .int .i64 0] (n * 3)) 42 (0, 0)) ∧ Below w1.heap.size w1 X :=
      ⟨_, _, rfl, rfl, heap_alloc_new _ _, (Below.refl _ _).alloc (Nat.le_refl _) _⟩
    rw [hX, hg]
    have hbg : w.heap.size ≤ g := by rw [← hg]; exact B.out.size
    have hbz : Below w.heap.size w (X.setRow g (dfC l).toArray) := below_setRow (below_step B.out hxb) hbg _
    have hrz : (X.setRow g (dfC l).toArray).heap[g]? = some (.cells (dfC l).toArray 42 (0, 0)) := setRow_heap X g _ _ _ _ hrow
    have SX := Lib.hid (ST.out.below (below_step B.out hxb))
    have hsz : (madeCells #[.string ByteArray.empty, .string ByteArray.empty, .int .i64 0] (n * 3)).size = n * 3 := size_madeCells _ _
    have HRZ := Lib.hid hrz; have HBZ := Lib.hid hbz; have HSZ := Lib.hid hsz; have HROW := Lib.hid hrow; have HBG := Lib.hid hbg
    clear hX hg hxb hbz hrz hsz hrow hbg hmk
    go_wp2_with (with_reducible refine wpList_copy_df (o := ⟨some 14, _, _, _, _, _⟩) rfl _ _ rfl rfl rfl SX.out HROW.out HSZ.out ?_)
    obtain ⟨Z, hZ⟩ : ∃ Z, X.setRow g (dfC l).toArray = Z := ⟨_, rfl⟩
    rw [hZ] at HRZ HBZ ⊢
    clear hZ HROW SX
    go_loopw [17] (fun i wr => ∃ k : Nat, k ≤ n ∧ i = .int .i64 k ∧ Hid (wr.heap[g]? = some (.cells (dfC (partD l k)).toArray 42 (0, 0))) ∧ Hid (Below w.heap.size w wr)) (fun i _ => n - (intOf i).toNat)
    case atStart => exact ⟨0, Nat.zero_le _, rfl, HRZ, HBZ⟩
    case round =>
      obtain ⟨k, hk, rfl, HR, HB⟩ := hrel
      by_cases hlt : k < n
      · have hkl : k < l.length := by rw [HN.out]; exact hlt
        have hat := (dfC_at (partD l k) k (by rw [partD_len]; exact hkl)).2.2
        rw [partD_at hkl] at hat
        obtain ⟨hc2, hf2⟩ := row_atC HR.out hat
        have hset := row_setC (j := k * 3 + 2) HR.out (.int .i64 (-(l.getD k zD).2))
        have hps := partD_set hkl
        rw [dfC_set _ _ _ (by rw [partD_len]; exact hkl), partD_at hkl, hps] at hset
        have hin := HIN.out _ (df_mem hkl)
        obtain ⟨z, hz⟩ : ∃ z, (l.getD k zD).2 = z := ⟨_, rfl⟩
        rw [hz] at hc2 hset hin
        have hng := inD_neg hin
        rw [inD_iff] at hin
        have HSET := Lib.hid hset
        have hkb : (k : Int) < (n : Int) := by omega
        clear hset hps hat hz
        go_wp2
        go_roundw
        case rel => exact ⟨k + 1, by omega, by go_num, HSET, Lib.hid (HB.out.setCell HBG.out _)⟩
        case measure => simp [intOf]; omega
      · have e : k = n := by omega
        subst e
        have hR := HR.out
        have e2 : partD l k = turnD l := by rw [← HN.out, partD_all]
        rw [e2] at hR
        go_wp2
        go_ret2
        exact ⟨_, rfl, rowC_own hR (by rw [turn_len]; exact HN.out) (by omega) HBG.out, HB.out⟩
end Go.Proofs.YtopcbmmnjmmoiaaGreat
