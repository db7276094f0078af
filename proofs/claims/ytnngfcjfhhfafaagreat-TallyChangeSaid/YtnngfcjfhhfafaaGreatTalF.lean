/- Where a path's row is, a path's versions, where a version is: of the program. -/
import Derived.Test.YtnngfcjfhhfafaaGreatTalE
namespace Go.Proofs.YtnngfcjfhhfafaaGreat
open Go.RowKit
set_option linter.unusedVariables false
set_option maxRecDepth 100000

theorem ld_rws {w : World} {g i n c : Nat} {a : Option Addr} (h : w.cell? ⟨g, i, none⟩ = some (.slice a n c)) : Sem.run Tryz.prog (Instr.loadAt 22 (.pointer (some ⟨g, i, none⟩))) w = .ok (.slice a n c) w := by
  go_simp
theorem boxO2 (w : World) (x y : Value) (t t' : TypeId) : ∃ W g g', (w.alloc (.cells #[x] t)).alloc (.cells #[y] t') = W ∧ w.heap.size = g ∧ w.heap.size + 1 = g' ∧ W.cell? ⟨g, 0, none⟩ = some x ∧ W.cell? ⟨g', 0, none⟩ = some y ∧ Below w.heap.size w W :=
  ⟨_, _, _, rfl, rfl, rfl, cell_alloc (cell_new rfl rfl) _, cell_new (by simp) rfl, ((Below.refl _ _).alloc (Nat.le_refl _) _).alloc (by simp) _⟩

set_option maxHeartbeats 1600000 in
theorem sk16_any (k n c gp gl : Nat) (a : Option Addr) (l : List Rw) (p : List UInt8) (w : World) (hlt : k < n) (hN : Rws w (.slice a n c) l) (c0 : w.cell? ⟨gp, 0, none⟩ = some (.string (mkB p))) (c1 : w.cell? ⟨gl, 0, none⟩ = some (.slice a n c)) :
    Calls Tryz.prog 71 #[.int .i64 (k : Int), .pointer (some ⟨gp, 0, none⟩), .pointer (some ⟨gl, 0, none⟩)] w fun e w' => e = .returned (.int .i64 (Lib.compareBytes p (l.getD k zR).1)) ∧ Below w.heap.size w w' := by
  obtain ⟨b, off, _, _, _, rfl, y0, -, -⟩ := hN.at k (by rw [hN.lenT.1]; exact hlt)
  obtain ⟨y, hyy⟩ : ∃ y, (l.getD k zR).1 = y := ⟨_, rfl⟩
  rw [hyy] at y0 ⊢
  have kc := fun w => ocmp_l p y w
  obtain ⟨C, hC⟩ : ∃ C, Lib.compareBytes p y = C := ⟨_, rfl⟩
  rw [hC] at kc ⊢
  have HLT := Lib.hid hlt; have C0 := Lib.hid c0; have C1 := Lib.hid c1; have Y0 := Lib.hid y0; have KC := Lib.hid kc
  clear hlt hN c0 c1 y0 hyy hC kc
  have e1 : ∀ args w, (callFunc 44 args).run Tryz.prog w = .ok (.enter 44 args) w := enters_of Tryz.func44 (by kernel_rfl) rfl
  go_enter Tryz.func71, Tryz.ntmps71
  go_upto_region 1 with fail
  refine rol_run (by kernel_rfl) [[], [], [], [1, 2], [1, 2, 3], [1, 2, 3, 4], [0, 1, 2, 3, 4, 5], [0, 1, 2, 3, 4, 5, 6]] (by kernel_rfl) [5, 6, 7, 8, 9, 10, 11, 4] [[], [], [], [1, 2], [3], [4], [0, 5], [6]] [0, 0, 0, 0, 0, 0, 0, 0] [0, 0, 0, 0, 0, 0, 0, 0] [1000, 1000, 1000, 1000, 1000, 1000, 1000, 1000] [.val 5 (.string (mkB p)), .val 6 (.slice (some ⟨b, off, none⟩) n c), .val 7 (.int .i64 (k : Int)), .val 8 (.pointer (some ⟨b, off + k * 2, none⟩)), .val 9 (.pointer (some ⟨b, off + k * 2, none⟩)), .val 10 (.string (mkB y)), .val 11 (.int .i64 C), .val 4 (.int .i64 C)] (by kernel_rfl) ?_ (w.heap.size) (w.heap.size) rfl (Below.refl _ _) rfl (fun _ => 0) ?_ ?_ ?_
  · intro j hj
    have hj3 : j < 8 := hj
    have hj2 : j = 0 ∨ j = 1 ∨ j = 2 ∨ j = 3 ∨ j = 4 ∨ j = 5 ∨ j = 6 ∨ j = 7 := by omega
    clear hj hj3
    rcases hj2 with rfl | rfl | rfl | rfl | rfl | rfl | rfl | rfl
    · exact trivial
    · exact trivial
    · exact trivial
    · exact trivial
    · exact trivial
    · exact trivial
    · exact trivial
    · exact trivial
  · intro j hj0 hj
    exact absurd hj (Nat.not_lt.2 hj0)
  · intro i hi a wx who hG hF
    have hz : a.tmps.size = 12 := hG.size
    have hi3 : i < 8 := hi
    have hi2 : i = 0 ∨ i = 1 ∨ i = 2 ∨ i = 3 ∨ i = 4 ∨ i = 5 ∨ i = 6 ∨ i = 7 := by omega
    clear hi hi3
    rcases hi2 with rfl | rfl | rfl | rfl | rfl | rfl | rfl | rfl
    · exact rol_val rfl rfl rfl (by rw [hz]; decide) (ex_load rfl (eval_slot ((hG.slots 1 (by decide)).trans rfl)) (ld_strT (cell_keep C0.out hG.below))) hG.below
    · exact rol_val rfl rfl rfl (by rw [hz]; decide) (ex_load rfl (eval_slot ((hG.slots 2 (by decide)).trans rfl)) (ld_rws (cell_keep C1.out hG.below))) hG.below
    · exact rol_val rfl rfl rfl (by rw [hz]; decide) (ex_move (Or.inl rfl) (eval_slot ((hG.slots 0 (by decide)).trans rfl))) hG.below
    · exact rol_val rfl rfl rfl (by rw [hz]; decide) (ex_index rfl (eval_slot (hF 1 (by decide))) (eval_slot (hF 2 (by decide))) (idx_rws HLT.out)) hG.below
    · exact rol_val rfl rfl rfl (by rw [hz]; decide) (ex_field rfl (eval_slot (hF 3 (by decide))) (by go_simp)) hG.below
    · exact rol_val rfl rfl rfl (by rw [hz]; decide) (ex_load rfl (eval_slot (hF 4 (by decide))) (ld_strT (cell_keep Y0.out hG.below))) hG.below
    · refine rol_call rfl rfl rfl (by rw [hz]; decide) (ex_call rfl (by simp [eval_slot (hF 0 (by decide)), eval_slot (hF 5 (by decide))]) e1) (KC.out wx) ?_ hG.below hG.new
      rintro e w1 ⟨rfl, rfl⟩
      exact ⟨_, rfl, Below.refl _ _, .inl rfl⟩
    · exact rol_val rfl rfl rfl (by rw [hz]; decide) (ex_move (Or.inr rfl) (eval_slot (hF 6 (by decide)))) hG.below
  · intro a wx who hG hF
    have fv4 : a.tmps.getD 4 undef = .int .i64 C := eval_slot (s := 4) (hF 7 (of_decide_eq_true (by kernel_rfl)) (of_decide_eq_true (by kernel_rfl)))
    have hbx := hG.below
    have hnx := hG.new
    rw [hG.frame]
    simp only [List.foldl_cons, List.foldl_nil, List.setIfInBounds_toArray, List.set_cons_zero, List.set_cons_succ]
    generalize a.tmps.getD 5 undef = u5
    generalize a.tmps.getD 6 undef = u6
    generalize a.tmps.getD 7 undef = u7
    generalize a.tmps.getD 8 undef = u8
    generalize a.tmps.getD 9 undef = u9
    generalize a.tmps.getD 10 undef = u10
    generalize a.tmps.getD 11 undef = u11
    rw [fv4]
    clear hF hG fv4
    go_wp2
    go_ret
    exact ⟨rfl, hbx⟩

set_option maxHeartbeats 3200000 in
theorem find16_any (n c gp gl : Nat) (a : Option Addr) (l : List Rw) (p : List UInt8) (w : World) (hN : Rws w (.slice a n c) l) (c0 : w.cell? ⟨gp, 0, none⟩ = some (.string (mkB p))) (c1 : w.cell? ⟨gl, 0, none⟩ = some (.slice a n c)) (ol : okR l = true) (hn : n ≤ 1000000) :
    Calls Tryz.prog 70 #[.int .i64 (n : Int), .func (.func 71) #[] #[.pointer (some ⟨gp, 0, none⟩), .pointer (some ⟨gl, 0, none⟩)]] w fun e w' => (∃ i : Nat, e = .returned (.tuple #[.int .i64 (i : Int), .bool (foundP l p i)]) ∧ i ≤ n ∧ FindP l p i i) ∧ Below w.heap.size w w' := by
  obtain ⟨hK, h1, h2⟩ := hN.lenT
  have hcall : ∀ (k : Nat) (w' : World), k < n → Below w.heap.size w w' → Calls Tryz.prog 71 #[.int .i64 (k : Int), .pointer (some ⟨gp, 0, none⟩), .pointer (some ⟨gl, 0, none⟩)] w' fun e w'' => e = .returned (.int .i64 (Lib.compareBytes p (l.getD k zR).1)) ∧ Below w'.heap.size w' w'' := fun k w' hk hb =>
    sk16_any k n c gp gl a l p w' hk (hN.below hb) (cell_keep c0 hb) (cell_keep c1 hb)
  have hfnd : ∀ i, foundP l p i = (decide (i < n) && decide (Lib.compareBytes p (l.getD i zR).1 = 0)) := fun i => by unfold foundP; rw [hK]
  have HC := Lib.hid hcall; have HK := Lib.hid hK; have HRI := Lib.hid (okR_iff.1 ol).2; have HF := Lib.hid hfnd
  clear hN c0 c1 ol hcall hK hfnd h1 h2
  go_enter Tryz.func70, Tryz.ntmps70
  go_wp2
  go_loopw [4, 6] (fun s4 s6 wr => ∃ lo hi : Nat, s4 = .int .i64 lo ∧ s6 = .int .i64 hi ∧ lo ≤ hi ∧ hi ≤ n ∧ Hid (FindP l p lo hi) ∧ Hid (Below w.heap.size w wr)) (fun s4 s6 _ => (intOf s6).toNat - (intOf s4).toNat)
  case atStart => exact ⟨0, n, rfl, rfl, Nat.zero_le _, Nat.le_refl _, Lib.hid ⟨fun t ht => absurd ht (Nat.not_lt_zero _), fun t h1 h2 => absurd h2 (by rw [HK.out]; omega)⟩, Lib.hid (Below.refl _ _)⟩
  case round =>
    obtain ⟨lo, hi, rfl, rfl, hlh, hin, HI, HB⟩ := hrel
    by_cases hlt : lo < hi
    · obtain ⟨m, hm⟩ : ∃ m, (lo + hi) / 2 = m := ⟨_, rfl⟩
      have hmi : ((lo : Int) + (hi : Int)) / 2 = (m : Int) := by omega
      have hm1 : lo ≤ m := by omega
      have hm2 : m < hi := by omega
      have hmn : m < n := by omega
      have hcm := fun w' hb => HC.out m w' hmn hb
      have hov := cb_vals p (l.getD m zR).1
      have hup := fun h => HI.out.up HRI.out (m := m) (by rw [HK.out]; exact hmn) h
      have hdn := fun h => HI.out.down HRI.out (m := m) h
      obtain ⟨O, hO⟩ : ∃ O, Lib.compareBytes p (l.getD m zR).1 = O := ⟨_, rfl⟩
      rw [hO] at hcm hov hup hdn
      have HCM := Lib.hid hcm
      clear hcm hO hm
      rcases hov with rfl | rfl | rfl
      · have HI2 := Lib.hid (hdn (by decide)); clear hup hdn
        go_wp2_with (go_at_call 71; refine (HCM.out _ HB.out).mono ?_; rintro e w1 ⟨rfl, hb1⟩; have HB2 := Lib.hid (below_step HB.out hb1); clear hb1)
        go_roundw
        case rel => exact ⟨lo, m, rfl, rfl, hm1, by omega, HI2, HB2⟩
        case measure => simp [intOf]; omega
      · have HI2 := Lib.hid (hdn (by decide)); clear hup hdn
        go_wp2_with (go_at_call 71; refine (HCM.out _ HB.out).mono ?_; rintro e w1 ⟨rfl, hb1⟩; have HB2 := Lib.hid (below_step HB.out hb1); clear hb1)
        go_roundw
        case rel => exact ⟨lo, m, rfl, rfl, hm1, by omega, HI2, HB2⟩
        case measure => simp [intOf]; omega
      · have HI2 := Lib.hid (hup (by decide)); clear hup hdn
        go_wp2_with (go_at_call 71; refine (HCM.out _ HB.out).mono ?_; rintro e w1 ⟨rfl, hb1⟩; have HB2 := Lib.hid (below_step HB.out hb1); clear hb1)
        go_roundw
        case rel => exact ⟨m + 1, hi, by go_num, rfl, by omega, hin, HI2, HB2⟩
        case measure => simp [intOf]; omega
    · have e : lo = hi := by omega
      subst e
      have hf := HF.out lo
      obtain ⟨Rf, hRf⟩ : ∃ R, foundP l p lo = R := ⟨_, rfl⟩
      rw [hRf] at hf
      have HRF := Lib.hid hRf; clear hRf
      by_cases hln : lo < n
      · have hcm := fun w' hb => HC.out lo w' hln hb
        obtain ⟨O, hO⟩ : ∃ O, Lib.compareBytes p (l.getD lo zR).1 = O := ⟨_, rfl⟩
        rw [hO] at hcm hf
        rw [decide_eq_true hln, Bool.true_and] at hf
        have hOR : (O == 0) = Rf := by rw [hf]; rfl
        have HCM := Lib.hid hcm
        clear hcm hO hf
        go_wp2_with (go_at_call 71; refine (HCM.out _ HB.out).mono ?_; rintro e w1 ⟨rfl, hb1⟩; have HB2 := Lib.hid (below_step HB.out hb1); clear hb1)
        go_ret2
        exact ⟨⟨lo, by rw [HRF.out]; rfl, hin, HI.out⟩, HB2.out⟩
      · rw [decide_eq_false hln, Bool.false_and] at hf
        subst hf
        go_wp2
        go_ret2
        exact ⟨⟨lo, by rw [HRF.out]; rfl, hin, HI.out⟩, HB.out⟩

set_option maxHeartbeats 800000 in
theorem seek16_any (a : Option Addr) (n c : Nat) (l : List Rw) (p : List UInt8) (w : World) (hN : Rws w (.slice a n c) l) (ol : okR l = true) (hn : n ≤ 1000000) :
    Calls Tryz.prog 52 #[.slice a n c, .string (mkB p)] w fun e w' => (∃ i : Nat, e = .returned (.tuple #[.int .i64 (i : Int), .bool (foundP l p i)]) ∧ i ≤ n ∧ FindP l p i i) ∧ Below w.heap.size w w' := by
  obtain ⟨W, g, g', hW, hg, hg', d0, d1, hb⟩ := boxO2 w (.slice a n c) (.string (mkB p)) 22 9
  have kf := fun w h h1 h2 => find16_any n c g' g a l p w h h1 h2 ol hn
  have hnc := hN.lenT.2
  obtain ⟨hnc1, hnc2⟩ := hnc
  unfold maxLen at hnc2
  have SV := Lib.hid (hN.below hb); have HW := Lib.hid hW; have HG := Lib.hid hg; have HG' := Lib.hid hg'; have BB := Lib.hid hb; have KF := Lib.hid kf
  clear hN hb hW hg hg' kf ol
  go_enter Tryz.func52, Tryz.ntmps52
  go_upto_region 1 with fail
  rw [HW.out, HG'.out, HG.out]
  go_wp2_with (go_at_call 70; refine (KF.out _ SV.out d1 d0).mono ?_; rintro e w1 ⟨⟨i, rfl, hi, hI⟩, hb1⟩; have HI := Lib.hid hI; replace BB := Lib.hid (below_step BB.out hb1); clear hb1 hI KF)
  go_ret2
  exact ⟨⟨i, rfl, hi, HI.out⟩, BB.out⟩

/-! ### A path's versions -/
set_option maxHeartbeats 1600000 in
theorem vers16_any (V : Value) (l : List Rw) (p : List UInt8) (w : World) (hV : Rws w V l) (ol : okR l = true) (hl : l.length ≤ 100000) (hv : ∀ r ∈ l, r.2.length ≤ 100000) :
    Calls Tryz.prog 36 #[V, .string (mkB p)] w fun e w' => ∃ v, e = .returned v ∧ w'.ownsRow w.heap.size 9 1 v (rwVer l p).length (strC (rwVer l p)) ∧ Below w.heap.size w w' := by
  obtain ⟨a, c, rfl, h1, h2, -, -⟩ := hV.ex
  unfold maxLen at h2
  obtain ⟨n, hn⟩ : ∃ n, l.length = n := ⟨_, rfl⟩
  have ks := fun w h => seek16_any a n c l p w h ol (by omega)
  have hnot := fun i (h : i ≤ n) => ver_not (l := l) (p := p) (i := i) (by omega) ol
  have hyes := fun i => ver_found (l := l) (p := p) (i := i) ol
  rw [hn] at hl h1 hV ⊢
  obtain ⟨us, hus⟩ : ∃ us, rwVer l p = us := ⟨_, rfl⟩
  rw [hus] at hnot hyes ⊢
  have SV := Lib.hid hV; have HN := Lib.hid hn; have HV := Lib.hid hv; have KS := Lib.hid ks; have HNOT := Lib.hid hnot; have HYES := Lib.hid hyes
  clear hV hn hv ks hnot hyes hus ol
  go_enter Tryz.func36, Tryz.ntmps36
  go_upto_region 2 with (go_at_call 52; refine (KS.out _ SV.out).mono ?_; rintro e w1 ⟨⟨i, rfl, hi, hI⟩, hb1⟩; have HI := Lib.hid hI; have B := Lib.hid hb1; clear hb1 hI KS)
  cases hf : foundP l p i with
  | false =>
    have HU := Lib.hid (HNOT.out i hi HI.out hf)
    clear hf
    go_wp2
    go_ret
    exact ⟨_, rfl, by rw [HU.out]; exact World.ownsRow_nil _ _ _ _, B.out⟩
  | true =>
    have hil := (found_eq hf).1
    have HU := Lib.hid (HYES.out i hf)
    obtain ⟨b, off, ay, ny, cy, rfl, c0, c1, hsy⟩ := (SV.out.below B.out).at i hil
    have hny := hsy.lenE.1
    have hin : (i : Int) < (n : Int) := by have := HN.out; omega
    have kc := fun w h => sclone_any ay ny cy (l.getD i zR).2 w h (by have := HV.out _ (gd_in (z := zR) hil); omega)
    rw [← HU.out] at kc hsy
    have SY := Lib.hid hsy; have KC := Lib.hid kc
    clear hf hil c0 hsy hny kc
    go_wp2_with (go_at_call 59; refine (KC.out _ SY.out).mono ?_; rintro e w2 ⟨v2, rfl, hown, hb2⟩; have HO := Lib.hid (row_base hown B.out.size); have B2 := Lib.hid (below_step B.out hb2); clear hb2 hown)
    go_ret
    exact ⟨_, rfl, HO.out, B2.out⟩

/-! ### Where a version is -/
theorem ltV_of {a b : List UInt8} {C : Int} (h : cmpT a b = C) : ltV a b = decide (C < 0) := by unfold ltV; rw [h]
set_option maxHeartbeats 3200000 in
theorem vsearch_any (a : Option Addr) (n c : Nat) (l : List (List UInt8)) (v : List UInt8) (w : World) (hU : Strs w (.slice a n c) l) (ol : ∀ x ∈ l, okV x = true) (sl : ∀ x ∈ l, x.length ≤ 1000000000) (hr : l.Pairwise fun a b => ltV a b = true) (hv : v.length ≤ 1000000000) (ov : okV v = true) (hl : n ≤ 1000000) :
    Calls Tryz.prog 37 #[.slice a n c, .string (mkB v), .func (.func 38) #[] #[]] w fun e w' => (∃ i : Nat, e = .returned (.tuple #[.int .i64 (i : Int), .bool (decide (v ∈ l))]) ∧ i ≤ n ∧ FindV l v i i) ∧ Below w.heap.size w w' := by
  obtain ⟨hn, h1, h2⟩ := hU.lenE
  unfold maxLen at h2
  have hcall : ∀ (k : Nat) (w' : World), k < n → Calls Tryz.prog 38 #[.string (mkB (l.getD k [])), .string (mkB v)] w' fun e w'' => e = .returned (.int .i64 (cmpT (l.getD k []) v)) ∧ Below w'.heap.size w' w'' := fun k w' hk => by
    have hm : l.getD k [] ∈ l := gd_in (by omega)
    exact torder_any _ _ w' (sl _ hm) hv (ol _ hm) ov
  have hfnd := fun i (h : FindV l v i i) => foundV_is ol hr ov h
  unfold foundV at hfnd
  rw [hn] at hfnd
  obtain ⟨M, hM⟩ : ∃ M, decide (v ∈ l) = M := ⟨_, rfl⟩
  rw [hM] at hfnd ⊢
  have SU := Lib.hid hU; have HN := Lib.hid hn; have HR := Lib.hid hr; have HC := Lib.hid hcall; have HF := Lib.hid hfnd
  clear hU hn ol sl hr hv ov hcall hfnd hM
  go_enter Tryz.func37, Tryz.ntmps37
  go_wp2
  go_loopw [9, 10] (fun s9 s10 wr => ∃ lo hi : Nat, s9 = .int .i64 lo ∧ s10 = .int .i64 hi ∧ lo ≤ hi ∧ hi ≤ n ∧ Hid (FindV l v lo hi) ∧ Hid (Below w.heap.size w wr)) (fun s9 s10 _ => (intOf s10).toNat - (intOf s9).toNat)
  case atStart => exact ⟨0, n, rfl, rfl, Nat.zero_le _, Nat.le_refl _, Lib.hid ⟨fun t ht => absurd ht (Nat.not_lt_zero _), fun t h1 h2 => absurd h2 (by rw [HN.out]; omega)⟩, Lib.hid (Below.refl _ _)⟩
  case round =>
    obtain ⟨lo, hi, rfl, rfl, hlh, hin, HI, HB⟩ := hrel
    by_cases hlt : lo < hi
    · obtain ⟨m, hm⟩ : ∃ m, (lo + hi) / 2 = m := ⟨_, rfl⟩
      have hmi : ((lo : Int) + (hi : Int)) / 2 = (m : Int) := by omega
      have hm1 : lo ≤ m := by omega
      have hm2 : m < hi := by omega
      have hml : m < l.length := by rw [HN.out]; omega
      obtain ⟨b, off, rfl, hc⟩ := (SU.out.belowB HB.out).atT m hml
      have kc := fun w => HC.out m w (by omega)
      have hup := fun h => HI.out.up HR.out (m := m) hml h
      have hdn := fun h => HI.out.down HR.out (m := m) h
      obtain ⟨y, hy⟩ : ∃ y, y = l.getD m [] := ⟨_, rfl⟩
      rw [← hy] at hc kc hup hdn
      obtain ⟨O, hO⟩ : ∃ O, cmpT y v = O := ⟨_, rfl⟩
      rw [hO] at kc
      rw [ltV_of hO] at hup hdn
      have hmn : (m : Int) < (n : Int) := by omega
      have KC := Lib.hid kc
      clear hy hO hm hml kc
      by_cases h0 : O < 0
      · have hd : decide (O < 0) = true := by simp [h0]
        have HI2 := Lib.hid (hup hd); clear h0 hup hdn
        go_wp2_with (go_at_call 38; refine (KC.out _).mono ?_; rintro e w1 ⟨rfl, hb1⟩; have HB1 := Lib.hid (below_step HB.out hb1); clear hb1)
        go_roundw
        case rel => exact ⟨m + 1, hi, by go_num, rfl, by omega, hin, HI2, HB1⟩
        case measure => simp [intOf]; omega
      · have hd : decide (O < 0) = false := by simp [h0]
        have HI2 := Lib.hid (hdn hd); clear h0 hup hdn
        go_wp2_with (go_at_call 38; refine (KC.out _).mono ?_; rintro e w1 ⟨rfl, hb1⟩; have HB1 := Lib.hid (below_step HB.out hb1); clear hb1)
        go_roundw
        case rel => exact ⟨lo, m, rfl, by go_num, by omega, by omega, HI2, HB1⟩
        case measure => simp [intOf]; omega
    · have hle : lo = hi := by omega
      subst hle
      have hf := HF.out lo HI.out
      by_cases hln : lo < n
      · have hml : lo < l.length := by rw [HN.out]; omega
        obtain ⟨b, off, rfl, hc⟩ := (SU.out.belowB HB.out).atT lo hml
        have kc := fun w => HC.out lo w hln
        obtain ⟨y, hy⟩ : ∃ y, y = l.getD lo [] := ⟨_, rfl⟩
        rw [← hy] at hc kc hf
        obtain ⟨O, hO⟩ : ∃ O, cmpT y v = O := ⟨_, rfl⟩
        rw [hO] at kc hf
        rw [decide_eq_true hln, Bool.true_and] at hf
        have hOR : (O == 0) = M := by rw [← hf]; rfl
        have hmn : (lo : Int) < (n : Int) := by omega
        have KC := Lib.hid kc
        clear hy hO hml kc hf
        go_wp2_with (go_at_call 38; refine (KC.out _).mono ?_; rintro e w1 ⟨rfl, hb1⟩; have HB1 := Lib.hid (below_step HB.out hb1); clear hb1)
        go_ret2
        exact ⟨⟨lo, rfl, hin, HI.out⟩, HB1.out⟩
      · rw [decide_eq_false hln, Bool.false_and] at hf
        subst hf
        have hln2 : ¬ (lo : Int) < (n : Int) := by omega
        go_wp2
        go_ret2
        exact ⟨⟨lo, rfl, hin, HI.out⟩, HB.out⟩
end Go.Proofs.YtnngfcjfhhfafaaGreat
