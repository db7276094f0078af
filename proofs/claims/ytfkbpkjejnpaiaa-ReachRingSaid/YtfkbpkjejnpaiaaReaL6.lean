/- Of every three octets: a ring of so many, fed at one place, is reached whole; fed no more nothing is; fed at two places it stays by either; no condition. -/
import Derived.Test.YtfkbpkjejnpaiaaRows
import Derived.Test.YtfkbpkjejnpaiaaReaX
import Derived.ProofKit
import Derived.OpenShut
import Derived.ShutString
import Derived.ChangeOld
namespace Go.Proofs.Ytfkbpkjejnpaiaa.reachRing
open Go.ChangeShapes Go.WideShapes Go.ChangeAt Go.RowKit
open Go.ChangeMaps (open_string shut_string)
set_option maxRecDepth 100000
set_option linter.unusedVariables false

set_option maxRecDepth 100000 in
set_option maxHeartbeats 6400000 in
theorem walk (z1 z2 z3 : Int) (w : World) (h1 : (Lit.int .u8 z1).wf = true) (h2 : (Lit.int .u8 z2).wf = true) (h3 : (Lit.int .u8 z3).wf = true) :
    Calls Try.prog 8 #[.int .u8 z1, .int .u8 z2, .int .u8 z3] w fun e w' => e = .returned (.bool true) ∧ Below w.heap.size w w' := by
  obtain ⟨f0, f1⟩ := bounds_u8 h1
  obtain ⟨s0, s1⟩ := bounds_u8 h2
  obtain ⟨t0, t1⟩ := bounds_u8 h3
  have r12 : IntKind.u8.wrap (z1.tmod 12) = z1 % 12 := by rw [Int.tmod_eq_emod_of_nonneg f0]; exact Lib.hid (by rw [IntKind.wrap_u8]; omega) |>.out
  clear h1 h2 h3
  go_enter Try.func8, Try.ntmps8
  go_upto_region 2 with fail
  obtain ⟨n, hn⟩ : ∃ n : Nat, 1 + z1 % 12 = (n : Int) := ⟨(1 + z1 % 12).toNat, by omega⟩
  rw [hn]
  have hn0 : 0 < n := by omega
  have hn1 : n ≤ 12 := by omega
  clear hn r12 f0 f1
  obtain ⟨p, hp⟩ : ∃ i, z2.toNat % n = i := ⟨_, rfl⟩
  obtain ⟨q, hq⟩ : ∃ i, z3.toNat % n = i := ⟨_, rfl⟩
  have hpn : p < n := by rw [← hp]; exact Nat.mod_lt _ hn0
  have hqn : q < n := by rw [← hq]; exact Nat.mod_lt _ hn0
  have hp2 : z2.tmod (n : Int) = (p : Int) := by rw [← hp]; exact cast_modR z2 n s0
  have hq2 : z3.tmod (n : Int) = (q : Int) := by rw [← hq]; exact cast_modR z3 n t0
  refine rol_run (by kernel_rfl) [[], [0], [], [0, 1, 2], [], [4], [], [4, 5, 6], [0, 1, 2, 3], [0, 1, 2, 3, 4, 5, 6, 7, 8]] (by kernel_rfl) [31, 32, 33, 34, 35, 36, 37, 38, 8, 9] [[], [0], [], [1, 2], [], [4], [], [5, 6], [3], [7]] [0, 0, 0, 0, 0, 0, 0, 0, 0, 0] [0, 0, 0, 0, 0, 0, 0, 0, 0, 0] [1000, 1000, 1000, 1000, 1000, 1000, 1000, 1000, 1000, 1000] [.val 31 (.int .u8 z2), .val 32 (.int .i64 z2), .val 33 (.int .i64 (n : Int)), .val 34 (.int .i64 (p : Int)), .val 35 (.int .u8 z3), .val 36 (.int .i64 z3), .val 37 (.int .i64 (n : Int)), .val 38 (.int .i64 (q : Int)), .val 8 (.int .i64 (p : Int)), .val 9 (.int .i64 (q : Int))] (by kernel_rfl) ?_ (w.heap.size) (w.heap.size) rfl (Below.refl _ _) rfl (fun _ => 0) ?_ ?_ ?_
  · intro j hj
    have hj3 : j < 10 := hj
    have hj2 : j = 0 ∨ j = 1 ∨ j = 2 ∨ j = 3 ∨ j = 4 ∨ j = 5 ∨ j = 6 ∨ j = 7 ∨ j = 8 ∨ j = 9 := by omega
    clear hj hj3
    rcases hj2 with rfl | rfl | rfl | rfl | rfl | rfl | rfl | rfl | rfl | rfl
    · exact trivial
    · exact trivial
    · exact trivial
    · exact trivial
    · exact trivial
    · exact trivial
    · exact trivial
    · exact trivial
    · exact trivial
    · exact trivial
  · intro j hj0 hj
    exact absurd hj (Nat.not_lt.2 hj0)
  · intro i hi a wx who hG hF
    have hz : a.tmps.size = 149 := hG.size
    have hi3 : i < 10 := hi
    have hi2 : i = 0 ∨ i = 1 ∨ i = 2 ∨ i = 3 ∨ i = 4 ∨ i = 5 ∨ i = 6 ∨ i = 7 ∨ i = 8 ∨ i = 9 := by omega
    clear hi hi3
    rcases hi2 with rfl | rfl | rfl | rfl | rfl | rfl | rfl | rfl | rfl | rfl
    · exact rol_val rfl rfl rfl (by rw [hz]; decide) (ex_move (Or.inl rfl) (eval_slot ((hG.slots 1 (by decide)).trans rfl))) hG.below
    · exact rol_val rfl rfl rfl (by rw [hz]; decide) (ex_conv rfl (eval_slot (hF 0 (by decide))) (conv_u8R z2 s0 s1 _)) hG.below
    · exact rol_val rfl rfl rfl (by rw [hz]; decide) (ex_move (Or.inl rfl) (eval_slot ((hG.slots 7 (by decide)).trans rfl))) hG.below
    · exact rol_val rfl rfl rfl (by rw [hz]; decide) (ex_bin rfl (eval_slot (hF 1 (by decide))) (eval_slot (hF 2 (by decide))) (by go_simp) (rem_intR z2 n p hn0 hpn (by omega) hp2 _)) hG.below
    · exact rol_val rfl rfl rfl (by rw [hz]; decide) (ex_move (Or.inl rfl) (eval_slot ((hG.slots 2 (by decide)).trans rfl))) hG.below
    · exact rol_val rfl rfl rfl (by rw [hz]; decide) (ex_conv rfl (eval_slot (hF 4 (by decide))) (conv_u8R z3 t0 t1 _)) hG.below
    · exact rol_val rfl rfl rfl (by rw [hz]; decide) (ex_move (Or.inl rfl) (eval_slot ((hG.slots 7 (by decide)).trans rfl))) hG.below
    · exact rol_val rfl rfl rfl (by rw [hz]; decide) (ex_bin rfl (eval_slot (hF 5 (by decide))) (eval_slot (hF 6 (by decide))) (by go_simp) (rem_intR z3 n q hn0 hqn (by omega) hq2 _)) hG.below
    · exact rol_val rfl rfl rfl (by rw [hz]; decide) (ex_move (Or.inr rfl) (eval_slot (hF 3 (by decide)))) hG.below
    · exact rol_val rfl rfl rfl (by rw [hz]; decide) (ex_move (Or.inr rfl) (eval_slot (hF 7 (by decide)))) hG.below
  · intro a wx who hG hF
    have fv8 : a.tmps.getD 8 undef = .int .i64 (p : Int) := eval_slot (s := 8) (hF 8 (of_decide_eq_true (by kernel_rfl)) (of_decide_eq_true (by kernel_rfl)))
    have fv9 : a.tmps.getD 9 undef = .int .i64 (q : Int) := eval_slot (s := 9) (hF 9 (of_decide_eq_true (by kernel_rfl)) (of_decide_eq_true (by kernel_rfl)))
    have hbx := hG.below
    have hnx := hG.new
    rw [hG.frame]
    simp only [List.foldl_cons, List.foldl_nil, List.setIfInBounds_toArray, List.set_cons_zero, List.set_cons_succ]
    generalize a.tmps.getD 31 undef = u31
    generalize a.tmps.getD 32 undef = u32
    generalize a.tmps.getD 33 undef = u33
    generalize a.tmps.getD 34 undef = u34
    generalize a.tmps.getD 35 undef = u35
    generalize a.tmps.getD 36 undef = u36
    generalize a.tmps.getD 37 undef = u37
    generalize a.tmps.getD 38 undef = u38
    rw [fv8]
    rw [fv9]
    clear hF hG fv8 fv9
    obtain ⟨w1, hw1⟩ : ∃ r, r = wx := ⟨_, rfl⟩
    subst hw1
    have BB := Lib.hid hbx
    clear hbx hnx hp hq hp2 hq2 s0 s1 t0 t1
    go_upto_region 4 with fail
    obtain ⟨WG, pG, hW2, hp2, hr2, hb1⟩ := boxR1 w1 (.slice none 0 0) (.slice none 0 0) 25
    rw [hW2, hp2]
    have LG := Lib.hid (show w.heap.size ≤ pG from by rw [← hp2]; exact BB.out.size)
    have GG0 := Lib.hid ((gra_none w1).below hb1)
    replace BB := Lib.hid (below_step BB.out hb1)
    have RG0 := Lib.hid hr2
    have HPN := Lib.hid hpn; have HQN := Lib.hid hqn
    clear hW2 hp2 hr2 hb1 hpn hqn
    go_upto_region 5 with fail
    go_wp2
    go_loopw [11] (fun i wr => ∃ (k nE : Nat) (E : List Ed) (aG bG : Option Addr) (cG dG : Nat), k ≤ n ∧ i = .int .i64 k ∧ Hid (RingE n k (fun _ => 0) E) ∧ Hid (E.length = nE) ∧ nE ≤ k ∧ Hid (∀ e ∈ E, fitE e) ∧ Hid (wr.heap[pG]? = some (.cells #[.slice aG nE cG, .slice bG 0 dG] 25 (0, 0))) ∧ Hid (Gra wr (.agg #[.slice aG nE cG, .slice bG 0 dG]) (E, [])) ∧ Hid (Below w.heap.size w wr)) (fun i _ => n - (numR i).toNat)
    case atStart => exact ⟨0, 0, [], none, none, 0, 0, Nat.zero_le _, rfl, Lib.hid (RingE.none n), Lib.hid rfl, Nat.le_refl _, Lib.hid (fun e he => by cases he), RG0, GG0, BB⟩
    case round =>
      clear GG0 RG0 BB
      obtain ⟨k, nE, E, aG, bG, cG, dG, hk, rfl, HRI, HNE, hnE, HFE, RG, GG, BB⟩ := hrel
      obtain ⟨g0, g1, ff0, ff1⟩ := row2 RG.out
      by_cases hlt : k < n
      · have hki : (k : Int) < (n : Int) := by omega
        obtain ⟨rr, hrr⟩ : ∃ r : Nat, (k + 1) % n = r := ⟨_, rfl⟩
        have hrn : rr < n := by rw [← hrr]; exact Nat.mod_lt _ hn0
        have hri : ((k : Int) + 1) % (n : Int) = (rr : Int) := by rw [← hrr, Int.natCast_emod]; simp
        have hrt : ((k + 1 : Nat) : Int).tmod (n : Int) = (rr : Int) := by rw [cast_modR _ n (by omega)]; simp [hrr]
        obtain ⟨s1, M, s2, s3, s4, s5, s6⟩ := ring_step HRI.out hn0 hlt
        rw [hri] at s1 s2 s3 s6
        have hfk : fitI (k : Int) := ⟨by omega, by omega⟩
        have hfr : fitI (rr : Int) := ⟨by omega, by omega⟩
        have s7 := s6 HFE.out hfk hfr
        have kx := fun V w h => link_any V (E, []) k rr w h (by show E.length ≤ _; rw [HNE.out]; omega) (by show 0 ≤ _; omega) HFE.out hfk hfr
        rw [s1, s2, s3] at kx
        rw [HNE.out] at s5
        obtain ⟨nM, hnM⟩ : ∃ x, M.length = x := ⟨_, rfl⟩
        rw [hnM] at s5
        have KX := Lib.hid kx; have HM := Lib.hid s4; have HNM := Lib.hid hnM; have HFM := Lib.hid s7
        clear kx s1 s2 s3 s4 s6 s7 hnM hfk hfr hrr hri
        go_upto_region 7 with fail
        clear ff0 ff1
        have e1 : ∀ args w, (callFunc 20 args).run Try.prog w = .ok (.enter 20 args) w := enters_of Try.func20 (by kernel_rfl) rfl
        refine rol_run (by kernel_rfl) [[], [], [], [2], [], [2, 3, 4], [0, 1, 2, 3, 4, 5], [0, 1, 2, 3, 4, 5, 6], [0, 1, 2, 3, 4, 5, 6, 7], [0, 1, 2, 3, 4, 5, 6, 7], [0, 1, 2, 3, 4, 5, 6, 7], [], [0, 1, 2, 3, 4, 5, 6, 7, 8, 11], [0, 1, 2, 3, 4, 5, 6, 7, 8, 9, 11, 12], [0, 1, 2, 3, 4, 5, 6, 7, 8, 9, 10, 11, 12, 13]] (by kernel_rfl) [46, 47, 48, 49, 50, 51, 52, 45, 53, 54, 55, 12, 13, 14] [[], [], [], [2], [], [3, 4], [0, 1, 5], [6], [7], [7], [7], [], [8, 11], [9], [10]] [0, 0, 0, 0, 0, 0, 1, 1, 1, 1, 0, 2, 2, 1, 0] [0, 0, 0, 0, 0, 0, 0, 0, 0, 0, 0, 0, 2, 0, 0] [1000, 1000, 1000, 1000, 1000, 1000, 1000, 1000, 1000, 1000, 1000, 12, 1000, 1000, 1000] [.val 46 (.agg #[.slice aG nE cG, .slice bG 0 dG]), .val 47 (.int .i64 (k : Int)), .val 48 (.int .i64 (k : Int)), .val 49 (.int .i64 ((k + 1 : Nat) : Int)), .val 50 (.int .i64 (n : Int)), .val 51 (.int .i64 (rr : Int)), .mems 52 (tup3R wr.heap.size M [] [] (.int .i64 0)), .mems 45 (tup3R wr.heap.size M [] [] (.int .i64 0)), .mems 53 (graR wr.heap.size M []), .mem 54 (rowR wr.heap.size 3 1 0 []), .val 55 (.int .i64 0), .mem 12 (cell2R wr.heap.size 25 (.slice none 0 0) (.slice none 0 0)), .mem2 12 53 (tie2R wr.heap.size 25), .mem 13 (rowR wr.heap.size 3 1 0 []), .val 14 (.int .i64 0)] (by kernel_rfl) ?_ (wr.heap.size) (wr.heap.size) rfl (Below.refl _ _) rfl (fun _ => 0) ?_ ?_ ?_
        · intro j hj
          have hj3 : j < 15 := hj
          have hj2 : j = 0 ∨ j = 1 ∨ j = 2 ∨ j = 3 ∨ j = 4 ∨ j = 5 ∨ j = 6 ∨ j = 7 ∨ j = 8 ∨ j = 9 ∨ j = 10 ∨ j = 11 ∨ j = 12 ∨ j = 13 ∨ j = 14 := by omega
          clear hj hj3
          rcases hj2 with rfl | rfl | rfl | rfl | rfl | rfl | rfl | rfl | rfl | rfl | rfl | rfl | rfl | rfl | rfl
          · exact trivial
          · exact trivial
          · exact trivial
          · exact trivial
          · exact trivial
          · exact trivial
          · exact tup3R_near
          · exact tup3R_near
          · exact graR_near
          · exact rowR_near
          · exact trivial
          · exact cell2R_near
          · exact tie2R_near
          · exact rowR_near
          · exact trivial
        · intro j hj0 hj
          exact absurd hj (Nat.not_lt.2 hj0)
        · intro i hi a wx who hG hF
          have hz : a.tmps.size = 149 := hG.size
          have hi3 : i < 15 := hi
          have hi2 : i = 0 ∨ i = 1 ∨ i = 2 ∨ i = 3 ∨ i = 4 ∨ i = 5 ∨ i = 6 ∨ i = 7 ∨ i = 8 ∨ i = 9 ∨ i = 10 ∨ i = 11 ∨ i = 12 ∨ i = 13 ∨ i = 14 := by omega
          clear hi hi3
          rcases hi2 with rfl | rfl | rfl | rfl | rfl | rfl | rfl | rfl | rfl | rfl | rfl | rfl | rfl | rfl | rfl
          · exact rol_val rfl rfl rfl (by rw [hz]; decide) (ex_load rfl (eval_slot ((hG.slots 10 (by decide)).trans rfl)) (ld_gra (cell_keep g0 hG.below) (cell_keep g1 hG.below))) hG.below
          · exact rol_val rfl rfl rfl (by rw [hz]; decide) (ex_move (Or.inl rfl) (eval_slot ((hG.slots 11 (by decide)).trans rfl))) hG.below
          · exact rol_val rfl rfl rfl (by rw [hz]; decide) (ex_move (Or.inl rfl) (eval_slot ((hG.slots 11 (by decide)).trans rfl))) hG.below
          · exact rol_val rfl rfl rfl (by rw [hz]; decide) (ex_bin rfl (eval_slot (hF 2 (by decide))) rfl (by go_simp) (add1R (by omega))) hG.below
          · exact rol_val rfl rfl rfl (by rw [hz]; decide) (ex_move (Or.inl rfl) (eval_slot ((hG.slots 7 (by decide)).trans rfl))) hG.below
          · exact rol_val rfl rfl rfl (by rw [hz]; decide) (ex_bin rfl (eval_slot (hF 3 (by decide))) (eval_slot (hF 4 (by decide))) (by go_simp) (rem_intR _ n rr hn0 hrn (by omega) hrt _)) hG.below
          · refine rol_calls rfl rfl rfl (by rw [hz]; decide) (ex_call rfl (by simp [eval_slot (hF 0 (by decide)), eval_slot (hF 1 (by decide)), eval_slot (hF 5 (by decide))]) e1) (KX.out _ wx (GG.out.below hG.below)) ?_ hG.below hG.new
            rintro e w1 ⟨v, u, rfl, hg1, hu1, hb1⟩
            obtain ⟨bs, hbs, hg⟩ := to_tup3 (e := .int .i64 0) hg1 hu1 hG.new
            exact ⟨_, rfl, hb1, .inr (.inr ⟨_, bs, rfl, hbs, hg⟩)⟩
          · exact rol_movesR rfl rfl rfl (by rw [hz]; decide) (Or.inl rfl) (hF 6 (by decide)) hG.below
          · exact rol_ext_gra3 rfl rfl rfl (by rw [hz]; decide) rfl (hF 7 (by decide)) hG.below
          · exact rol_ext_row3 rfl rfl rfl (by rw [hz]; decide) rfl (hF 7 (by decide)) hG.below
          · exact rol_ext_err3 rfl rfl rfl (by rw [hz]; decide) rfl (hF 7 (by decide)) hG.below
          · exact rol_alloc_gra rfl rfl rfl (by rw [hz]; decide) rfl hG.below (Nat.le_refl _) hG.new
          · exact rol_fill_gra rfl rfl rfl rfl (hF 11 (by decide)) (hF 8 (by decide)) hG.below (Nat.le_refl _)
          · exact rol_move rfl rfl rfl (by rw [hz]; decide) (Or.inr rfl) (hF 9 (by decide)) hG.below
          · exact rol_val rfl rfl rfl (by rw [hz]; decide) (ex_move (Or.inr rfl) (eval_slot (hF 10 (by decide)))) hG.below
        · intro a wx who hG hF
          obtain ⟨v53, bs53, fv53, fo53, fp53⟩ := hF 8 (of_decide_eq_true (by kernel_rfl)) (of_decide_eq_true (by kernel_rfl))
          replace fv53 : a.tmps.getD 53 undef = v53 := eval_slot (s := 53) fv53
          obtain ⟨v13, ob13, fv13, fo13, fp13⟩ := hF 13 (of_decide_eq_true (by kernel_rfl)) (of_decide_eq_true (by kernel_rfl))
          replace fv13 : a.tmps.getD 13 undef = v13 := eval_slot (s := 13) fv13
          have fv14 : a.tmps.getD 14 undef = .int .i64 0 := eval_slot (s := 14) (hF 14 (of_decide_eq_true (by kernel_rfl)) (of_decide_eq_true (by kernel_rfl)))
          have htie := hF 12 (of_decide_eq_true (by kernel_rfl)) (of_decide_eq_true (by kernel_rfl))
          obtain ⟨pv, uv, obv, hpv, huv, -, pX, xX, yX, rfl, -, rfl, hNX, hrX⟩ := htie
          have e53 : v53 = .agg #[xX, yX] := fv53.symm.trans (eval_slot huv)
          have fv12 : a.tmps.getD 12 undef = .pointer (some ⟨pX, 0, none⟩) := eval_slot (s := 12) hpv
          clear hpv huv obv
          have hbx := hG.below
          have hnx := hG.new
          rw [hG.frame]
          simp only [List.foldl_cons, List.foldl_nil, List.setIfInBounds_toArray, List.set_cons_zero, List.set_cons_succ]
          generalize a.tmps.getD 46 undef = u46
          generalize a.tmps.getD 47 undef = u47
          generalize a.tmps.getD 48 undef = u48
          generalize a.tmps.getD 49 undef = u49
          generalize a.tmps.getD 50 undef = u50
          generalize a.tmps.getD 51 undef = u51
          generalize a.tmps.getD 52 undef = u52
          generalize a.tmps.getD 45 undef = u45
          rw [fv53]
          generalize a.tmps.getD 54 undef = u54
          generalize a.tmps.getD 55 undef = u55
          rw [fv12]
          rw [fv13]
          rw [fv14]
          clear hF hG fv53 fv13 fv14 fv12
          obtain ⟨aX, cX, bX, dX, hvX, hGX⟩ := fp53.own.lens (n := nM) (m := 0) HNM.out rfl
          rw [e53] at hvX
          injection hvX with hvX
          injection hvX with hvX
          injection hvX with q1 q2
          injection q2 with q2
          subst q1 q2
          rw [e53] at hGX ⊢
          obtain ⟨hrow13, -⟩ := fp13
          obtain ⟨aU, cU, rfl, -⟩ := intsR (l := []) hrow13 (n := 0) rfl
          replace g0 := cell_keep g0 hbx; replace g1 := cell_keep g1 hbx; replace RG := Lib.hid (row_keepB RG.out hbx); replace BB := Lib.hid (below_step BB.out hbx)
          have GX := Lib.hid hGX; have RX := Lib.hid hrX
          clear GG hGX hrX fo13 fo53 fp53 hrow13 hbx hnx e53 KX hNX
          obtain ⟨w7, hw7⟩ : ∃ r, r = wx := ⟨_, rfl⟩
          subst hw7
          obtain ⟨x0, x1, -, -⟩ := row2 RX.out
          go_upto_region 10 with fail
          obtain ⟨g0, g1, ff0, ff1⟩ := row2 RG.out
          go_upto_region 6 with fail
          obtain ⟨WY, hWY⟩ : ∃ r, (w7.setCell ⟨pG, 0, none⟩ (.slice aX nM cX)).setCell ⟨pG, 1, none⟩ (.slice bX 0 dX) = r := ⟨_, rfl⟩
          have hRI := RG.out
          have hRN := row2_set hRI (.slice aX nM cX) (.slice bX 0 dX)
          have hGX := Gra.set (a' := aX) (n' := nM) (c' := cX) (b' := bX) (m' := 0) (d' := dX) GX.out hRI
          have hBN := (BB.out.setCell (p := ⟨pG, 0, none⟩) LG.out (.slice aX nM cX)).setCell (p := ⟨pG, 1, none⟩) LG.out (.slice bX 0 dX)
          rw [hWY] at hRN hBN hGX ⊢
          clear hWY hRI ff0 ff1 g0 g1 x0 x1
          replace GX := Lib.hid hGX
          replace RG := Lib.hid hRN
          replace BB := Lib.hid hBN
          clear hRN hBN hGX
          obtain ⟨g0, g1, -, -⟩ := row2 RG.out
          go_wp2
          go_roundw
          case rel => exact ⟨k + 1, nM, M, aX, bX, cX, dX, by omega, by go_num, HM, HNM, by omega, HFM, RG, GX, BB⟩
          case measure => simp [numR]; omega
      · have hkn : k = n := by omega
        subst hkn
        clear hlt hk ff0 ff1
        obtain ⟨EA, EB, EC, ⟨k1, k2, k3⟩, ⟨k4, k5, k6⟩, ⟨k7, k8, k9⟩, ⟨k10, k11, k12⟩, ⟨l1, l2⟩, ⟨l3, l4⟩, ⟨l5, l6⟩⟩ := ring_all HRI.out (a := (p : Int)) (b := (q : Int)) ⟨by omega, by have := HPN.out; omega⟩ ⟨by omega, by have := HQN.out; omega⟩ (by rw [HNE.out]; exact hnE) HFE.out hn1
        have hf1 : fitI (-1) := ⟨by decide, by decide⟩
        have hfp : fitI (p : Int) := ⟨by omega, by have := HPN.out; omega⟩
        have hfq : fitI (q : Int) := ⟨by omega, by have := HQN.out; omega⟩
        have hrl := rng_len k
        have c1 := fun V w h => link_any V (E, []) (-1) p w h (by show E.length ≤ _; rw [HNE.out]; omega) (by show 0 ≤ _; omega) HFE.out hf1 hfp
        have c2 := fun V w h => link_any V (EA, rngI k) (-1) q w h (by show EA.length ≤ _; omega) (by show (rngI k).length ≤ _; omega) l2 hf1 hfq
        have c3 := fun V w h => unlk_any V (EB, rngI k) (-1) p w h (by show EB.length ≤ _; omega) (by show (rngI k).length ≤ _; omega) l4 hf1 hfp
        have c4 := fun V w h => unlk_any V (EC, rngI k) (-1) q w h (by show EC.length ≤ _; omega) (by show (rngI k).length ≤ _; omega) l6 hf1 hfq
        rw [k1, k2, k3] at c1
        rw [k4, k5, k6] at c2
        rw [k7, k8, k9] at c3
        rw [k10, k11, k12] at c4
        have ks := fun U V w h h' => gsame_any U V (E, []) (E, []) w h h'
        simp only [decide_true] at ks
        obtain ⟨nA, hnA⟩ : ∃ x, EA.length = x := ⟨_, rfl⟩
        obtain ⟨nB, hnB⟩ : ∃ x, EB.length = x := ⟨_, rfl⟩
        obtain ⟨nC, hnC⟩ : ∃ x, EC.length = x := ⟨_, rfl⟩
        obtain ⟨Rg, hRg⟩ : ∃ r, rngI k = r := ⟨_, rfl⟩
        rw [hRg] at c1 c2 c3 c4 hrl
        have C1 := Lib.hid c1; have C2 := Lib.hid c2; have C3 := Lib.hid c3; have C4 := Lib.hid c4; have KS := Lib.hid ks
        have HNA := Lib.hid hnA; have HNB := Lib.hid hnB; have HNC := Lib.hid hnC; have HRL := Lib.hid hrl
        clear k1 k2 k3 k4 k5 k6 k7 k8 k9 k10 k11 k12 l1 l2 l3 l4 l5 l6 hf1 hfp hfq hrl hnA hnB hnC hRg c1 c2 c3 c4 ks HRI HFE
        go_upto_region 12 with (go_at_call 20; refine (C1.out _ _ GG.out).mono ?_; rintro e w1 ⟨v1, u1, rfl, hg1, hu1, hb1⟩; obtain ⟨aA, cA, bA, dA, rfl, hG1⟩ := hg1.lens (n := nA) (m := k) HNA.out HRL.out; obtain ⟨aP, cP, rfl, hU1⟩ := intsR hu1 (n := k) HRL.out; replace g0 := cell_keep g0 hb1; replace g1 := cell_keep g1 hb1; replace RG := Lib.hid (row_keepB RG.out hb1); replace GG := Lib.hid (GG.out.below hb1); replace BB := Lib.hid (below_step BB.out hb1); have GA := Lib.hid hG1; have SP := Lib.hid hU1; clear hg1 hu1 hG1 hU1 hb1 C1)
        obtain ⟨WA, pA, hW2, hp2, hr2, hb1⟩ := boxR1 w1 (.slice aA nA cA) (.slice bA k dA) 25
        rw [hW2, hp2]
        have LA := Lib.hid (show w.heap.size ≤ pA from by rw [← hp2]; exact BB.out.size)
        replace g0 := cell_keep g0 hb1
        replace g1 := cell_keep g1 hb1
        replace RG := Lib.hid (row_keepB RG.out hb1)
        replace GG := Lib.hid (GG.out.below hb1)
        replace GA := Lib.hid (GA.out.below hb1)
        replace SP := Lib.hid (SP.out.belowB hb1)
        replace BB := Lib.hid (below_step BB.out hb1)
        obtain ⟨a0, a1, -, -⟩ := row2 hr2
        have RA := Lib.hid hr2
        clear hW2 hp2 hr2 hb1
        go_upto_region 13 with (go_at_call 20; refine (C2.out _ _ GA.out).mono ?_; rintro e w1 ⟨v1, u1, rfl, hg1, hu1, hb1⟩; obtain ⟨aB, cB, bB, dB, rfl, hG1⟩ := hg1.lens (n := nB) (m := k) HNB.out HRL.out; obtain ⟨aQ, cQ, rfl, hU1⟩ := intsR hu1 (n := 0) rfl; replace g0 := cell_keep g0 hb1; replace g1 := cell_keep g1 hb1; replace a0 := cell_keep a0 hb1; replace a1 := cell_keep a1 hb1; replace RG := Lib.hid (row_keepB RG.out hb1); replace RA := Lib.hid (row_keepB RA.out hb1); replace GG := Lib.hid (GG.out.below hb1); replace GA := Lib.hid (GA.out.below hb1); replace SP := Lib.hid (SP.out.belowB hb1); replace BB := Lib.hid (below_step BB.out hb1); have GB := Lib.hid hG1; have SQ := Lib.hid hU1; clear hg1 hu1 hG1 hU1 hb1 C2)
        obtain ⟨WB, pB, hW2, hp2, hr2, hb1⟩ := boxR1 w1 (.slice aB nB cB) (.slice bB k dB) 25
        rw [hW2, hp2]
        have LB := Lib.hid (show w.heap.size ≤ pB from by rw [← hp2]; exact BB.out.size)
        replace g0 := cell_keep g0 hb1
        replace g1 := cell_keep g1 hb1
        replace a0 := cell_keep a0 hb1
        replace a1 := cell_keep a1 hb1
        replace RG := Lib.hid (row_keepB RG.out hb1)
        replace RA := Lib.hid (row_keepB RA.out hb1)
        replace GG := Lib.hid (GG.out.below hb1)
        replace GA := Lib.hid (GA.out.below hb1)
        replace GB := Lib.hid (GB.out.below hb1)
        replace SP := Lib.hid (SP.out.belowB hb1)
        replace SQ := Lib.hid (SQ.out.belowB hb1)
        replace BB := Lib.hid (below_step BB.out hb1)
        obtain ⟨b0, b1, -, -⟩ := row2 hr2
        have RB := Lib.hid hr2
        clear hW2 hp2 hr2 hb1
        go_upto_region 14 with (go_at_call 25; refine (C3.out _ _ GB.out).mono ?_; rintro e w1 ⟨v1, u1, rfl, hg1, hu1, hb1⟩; obtain ⟨aC, cC, bC, dC, rfl, hG1⟩ := hg1.lens (n := nC) (m := k) HNC.out HRL.out; obtain ⟨aR, cR, rfl, hU1⟩ := intsR hu1 (n := 0) rfl; replace g0 := cell_keep g0 hb1; replace g1 := cell_keep g1 hb1; replace a0 := cell_keep a0 hb1; replace a1 := cell_keep a1 hb1; replace b0 := cell_keep b0 hb1; replace b1 := cell_keep b1 hb1; replace RG := Lib.hid (row_keepB RG.out hb1); replace RA := Lib.hid (row_keepB RA.out hb1); replace RB := Lib.hid (row_keepB RB.out hb1); replace GG := Lib.hid (GG.out.below hb1); replace GA := Lib.hid (GA.out.below hb1); replace GB := Lib.hid (GB.out.below hb1); replace SP := Lib.hid (SP.out.belowB hb1); replace SQ := Lib.hid (SQ.out.belowB hb1); replace BB := Lib.hid (below_step BB.out hb1); have GC := Lib.hid hG1; have SR := Lib.hid hU1; clear hg1 hu1 hG1 hU1 hb1 C3)
        obtain ⟨WC, pC, hW2, hp2, hr2, hb1⟩ := boxR1 w1 (.slice aC nC cC) (.slice bC k dC) 25
        rw [hW2, hp2]
        have LC := Lib.hid (show w.heap.size ≤ pC from by rw [← hp2]; exact BB.out.size)
        replace g0 := cell_keep g0 hb1
        replace g1 := cell_keep g1 hb1
        replace a0 := cell_keep a0 hb1
        replace a1 := cell_keep a1 hb1
        replace b0 := cell_keep b0 hb1
        replace b1 := cell_keep b1 hb1
        replace RG := Lib.hid (row_keepB RG.out hb1)
        replace RA := Lib.hid (row_keepB RA.out hb1)
        replace RB := Lib.hid (row_keepB RB.out hb1)
        replace GG := Lib.hid (GG.out.below hb1)
        replace GA := Lib.hid (GA.out.below hb1)
        replace GB := Lib.hid (GB.out.below hb1)
        replace GC := Lib.hid (GC.out.below hb1)
        replace SP := Lib.hid (SP.out.belowB hb1)
        replace SQ := Lib.hid (SQ.out.belowB hb1)
        replace SR := Lib.hid (SR.out.belowB hb1)
        replace BB := Lib.hid (below_step BB.out hb1)
        obtain ⟨c0, c1, -, -⟩ := row2 hr2
        have RC := Lib.hid hr2
        clear hW2 hp2 hr2 hb1
        go_upto_region 15 with (go_at_call 25; refine (C4.out _ _ GC.out).mono ?_; rintro e w1 ⟨v1, u1, rfl, hg1, hu1, hb1⟩; obtain ⟨aD, cD, bD, dD, rfl, hG1⟩ := hg1.lens (n := nE) (m := 0) HNE.out rfl; obtain ⟨aT, cT, rfl, hU1⟩ := intsR hu1 (n := k) HRL.out; replace g0 := cell_keep g0 hb1; replace g1 := cell_keep g1 hb1; replace a0 := cell_keep a0 hb1; replace a1 := cell_keep a1 hb1; replace b0 := cell_keep b0 hb1; replace b1 := cell_keep b1 hb1; replace c0 := cell_keep c0 hb1; replace c1 := cell_keep c1 hb1; replace RG := Lib.hid (row_keepB RG.out hb1); replace RA := Lib.hid (row_keepB RA.out hb1); replace RB := Lib.hid (row_keepB RB.out hb1); replace RC := Lib.hid (row_keepB RC.out hb1); replace GG := Lib.hid (GG.out.below hb1); replace GA := Lib.hid (GA.out.below hb1); replace GB := Lib.hid (GB.out.below hb1); replace GC := Lib.hid (GC.out.below hb1); replace SP := Lib.hid (SP.out.belowB hb1); replace SQ := Lib.hid (SQ.out.belowB hb1); replace SR := Lib.hid (SR.out.belowB hb1); replace BB := Lib.hid (below_step BB.out hb1); have GD := Lib.hid hG1; have ST := Lib.hid hU1; clear hg1 hu1 hG1 hU1 hb1 C4)
        obtain ⟨WD, pD, hW2, hp2, hr2, hb1⟩ := boxR1 w1 (.slice aD nE cD) (.slice bD 0 dD) 25
        rw [hW2, hp2]
        have LD := Lib.hid (show w.heap.size ≤ pD from by rw [← hp2]; exact BB.out.size)
        replace g0 := cell_keep g0 hb1
        replace g1 := cell_keep g1 hb1
        replace a0 := cell_keep a0 hb1
        replace a1 := cell_keep a1 hb1
        replace b0 := cell_keep b0 hb1
        replace b1 := cell_keep b1 hb1
        replace c0 := cell_keep c0 hb1
        replace c1 := cell_keep c1 hb1
        replace RG := Lib.hid (row_keepB RG.out hb1)
        replace RA := Lib.hid (row_keepB RA.out hb1)
        replace RB := Lib.hid (row_keepB RB.out hb1)
        replace RC := Lib.hid (row_keepB RC.out hb1)
        replace GG := Lib.hid (GG.out.below hb1)
        replace GA := Lib.hid (GA.out.below hb1)
        replace GB := Lib.hid (GB.out.below hb1)
        replace GC := Lib.hid (GC.out.below hb1)
        replace GD := Lib.hid (GD.out.below hb1)
        replace SP := Lib.hid (SP.out.belowB hb1)
        replace SQ := Lib.hid (SQ.out.belowB hb1)
        replace SR := Lib.hid (SR.out.belowB hb1)
        replace ST := Lib.hid (ST.out.belowB hb1)
        replace BB := Lib.hid (below_step BB.out hb1)
        obtain ⟨d0, d1, -, -⟩ := row2 hr2
        have RD := Lib.hid hr2
        clear hW2 hp2 hr2 hb1
        go_wp2_with (first
            | (go_at_call 15; refine (KS.out _ _ _ GD.out GG.out).mono ?_; rintro e w9 ⟨rfl, hb1⟩; replace g0 := cell_keep g0 hb1; replace g1 := cell_keep g1 hb1; replace a0 := cell_keep a0 hb1; replace a1 := cell_keep a1 hb1; replace b0 := cell_keep b0 hb1; replace b1 := cell_keep b1 hb1; replace c0 := cell_keep c0 hb1; replace c1 := cell_keep c1 hb1; replace d0 := cell_keep d0 hb1; replace d1 := cell_keep d1 hb1; replace RG := Lib.hid (row_keepB RG.out hb1); replace RA := Lib.hid (row_keepB RA.out hb1); replace RB := Lib.hid (row_keepB RB.out hb1); replace RC := Lib.hid (row_keepB RC.out hb1); replace RD := Lib.hid (row_keepB RD.out hb1); replace GG := Lib.hid (GG.out.below hb1); replace GA := Lib.hid (GA.out.below hb1); replace GB := Lib.hid (GB.out.below hb1); replace GC := Lib.hid (GC.out.below hb1); replace GD := Lib.hid (GD.out.below hb1); replace SP := Lib.hid (SP.out.belowB hb1); replace SQ := Lib.hid (SQ.out.belowB hb1); replace SR := Lib.hid (SR.out.belowB hb1); replace ST := Lib.hid (ST.out.belowB hb1); replace BB := Lib.hid (below_step BB.out hb1); clear hb1)
            | (go_at_call 18; refine (gawake_any _).mono ?_; rintro e w9 ⟨rfl, hb1⟩; replace g0 := cell_keep g0 hb1; replace g1 := cell_keep g1 hb1; replace a0 := cell_keep a0 hb1; replace a1 := cell_keep a1 hb1; replace b0 := cell_keep b0 hb1; replace b1 := cell_keep b1 hb1; replace c0 := cell_keep c0 hb1; replace c1 := cell_keep c1 hb1; replace d0 := cell_keep d0 hb1; replace d1 := cell_keep d1 hb1; replace RG := Lib.hid (row_keepB RG.out hb1); replace RA := Lib.hid (row_keepB RA.out hb1); replace RB := Lib.hid (row_keepB RB.out hb1); replace RC := Lib.hid (row_keepB RC.out hb1); replace RD := Lib.hid (row_keepB RD.out hb1); replace GG := Lib.hid (GG.out.below hb1); replace GA := Lib.hid (GA.out.below hb1); replace GB := Lib.hid (GB.out.below hb1); replace GC := Lib.hid (GC.out.below hb1); replace GD := Lib.hid (GD.out.below hb1); replace SP := Lib.hid (SP.out.belowB hb1); replace SQ := Lib.hid (SQ.out.belowB hb1); replace SR := Lib.hid (SR.out.belowB hb1); replace ST := Lib.hid (ST.out.belowB hb1); replace BB := Lib.hid (below_step BB.out hb1); clear hb1))
        go_ret
        exact ⟨rfl, BB.out⟩

theorem own : ownKnob Try.prog.godebug = none := by kernel_rfl
theorem laidOut : laidOutB Try.prog = true := by kernel_rfl

set_option maxRecDepth 100000 in
theorem lifted (os : Os) (started : os.Started) (H : Type) (enc : TypeId × Value → H) :
    ReturnsInHanded {} Try.checked os 8 .any (Rows.reachRingSpec.pre6 enc Try.prog Try.f8 Rows.reachRingRow.domain false) (Rows.reachRingSpec.post enc Try.prog Try.f8 false true false false) := by
  refine returnsInHanded_of_change (C := Try.checked) own started (by kernel_rfl) Try.func8
    (ChangeSpec.witness6 (enc := enc) (C := Try.checked) false ⟨#[], #[.int .u8 0, .int .u8 0, .int .u8 0], []⟩ 8 (by kernel_rfl) (by kernel_rfl) (by kernel_rfl) (by kernel_rfl)) ?_
  intro W base args ds gs before hval0 hW hcnd _
  have hval : ∀ (j : Nat) t v, Try.f8.params[j]? = some t → args[j]? = some v → Value.okWide Try.prog W .any base t v := hval0
  have hW' := hW
  obtain ⟨p, q, hA0, hV, rfl, hfz, hnd⟩ := hW
  have hA : DataW.TrodAll enc Try.prog W 0 (fun _ => true) true Try.f8.params.toList args.toList ds p := hA0
  rw [Try.params8] at hA hval
  obtain ⟨v0, vs0, d0, ds0, p0, q0, hargs, rfl, rfl, h0, r0⟩ := trodAll_cons hA
  obtain ⟨v1, vs1, d1, ds1, p1, q1, rfl, rfl, rfl, h1, r1⟩ := trodAll_cons r0
  obtain ⟨v2, vs2, d2, ds2, p2, q2, rfl, rfl, rfl, h2, r2⟩ := trodAll_cons r1
  obtain ⟨rfl, rfl, rfl⟩ := trodAll_nil r2
  obtain rfl : args = #[v0, v1, v2] := by cases args; simp_all
  obtain ⟨rfl, rfl⟩ := trodVars_none hV
  obtain ⟨a0, rfl, rfl, rfl, w0⟩ := open_int Try.underlying5 (hval 0 5 v0 rfl rfl) h0
  obtain ⟨a1, rfl, rfl, rfl, w1⟩ := open_int Try.underlying5 (hval 1 5 v1 rfl rfl) h1
  obtain ⟨a2, rfl, rfl, rfl, w2⟩ := open_int Try.underlying5 (hval 2 5 v2 rfl rfl) h2
  clear hA0 hval0
  refine (walk a0 a1 a2 W w0 w1 w2).mono fun e W' ⟨he, bel⟩ => ?_
  subst he
  exact ⟨_, rfl, _, _, _, [], _, [], hW', trodAll_mk1 (shut_bool Try.underlying4 _), (trodAll_cons_mk (shut_int Try.underlying5 w0) (trodAll_cons_mk (shut_int Try.underlying5 w1) (trodAll_cons_mk (shut_int Try.underlying5 w2) trodAll_mk0))), rfl, bel.frame _, fun h => by cases h⟩

-- the given statement
theorem proved : Rows.ReachRingSaid :=
  OpenClaim.holds_of_wide 8 Try.f8 rfl rfl rfl rfl rfl rfl rfl ⟨rfl, rfl, rfl, rfl, rfl⟩ rfl rfl rfl rfl rfl (by kernel_rfl) Try.func8 (by kernel_rfl)
    (of_decide_eq_true (by kernel_rfl)) (by unfold Func.isWrapper; first | (rw [if_pos (by decide +kernel)]; kernel_rfl) | (rw [if_neg (by decide +kernel)]; exact ⟨rfl, rfl⟩))
    (fun os started H enc _ => lifted os started H enc)
end Go.Proofs.Ytfkbpkjejnpaiaa.reachRing
