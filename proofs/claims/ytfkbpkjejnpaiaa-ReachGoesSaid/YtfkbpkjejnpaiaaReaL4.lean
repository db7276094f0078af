/- Of every numbers of 16 bits: whatever pairs come and go, the graph is the one of the edges that are left, and what came and went is the difference; no condition. -/
import Derived.Test.YtfkbpkjejnpaiaaRows
import Derived.Test.YtfkbpkjejnpaiaaReaX
import Derived.ProofKit
import Derived.OpenShut
import Derived.ShutString
import Derived.ChangeOld
namespace Go.Proofs.Ytfkbpkjejnpaiaa.reachGoes
open Go.ChangeShapes Go.WideShapes Go.ChangeAt Go.RowKit
open Go.ChangeMaps (open_string shut_string)
set_option maxRecDepth 100000
set_option linter.unusedVariables false

theorem more_live {E M : List Ed} {f t : Int} (h : okE E = true) (hm : More E f t M) : minusI (liveE E) (liveE M) = [] := minus_none fun z hz => by
  obtain ⟨h1, h2⟩ := live_mem.1 hz
  refine live_mem.2 ⟨h1, h2.mono fun x y k => (to_there hm.ok).2 ?_⟩
  have := (to_there h).1 k
  rw [hm.many]
  split <;> omega
theorem less_live {E M : List Ed} {f t : Int} (h : okE E = true) (hm : Less E f t M) : minusI (liveE M) (liveE E) = [] := minus_none fun z hz => by
  obtain ⟨h1, h2⟩ := live_mem.1 hz
  refine live_mem.2 ⟨h1, h2.mono fun x y k => (to_there h).2 ?_⟩
  have := (to_there hm.ok).1 k
  rw [hm.many] at this
  split at this <;> omega
theorem more_top {E M : List Ed} {f t : Int} {k : Nat} (hm : More E f t M) (hk : ∀ x y, manyE E x y ≤ (k : Int)) : ∀ x y, manyE M x y ≤ ((k + 1 : Nat) : Int) := fun x y => by
  have := hk x y
  rw [hm.many]
  split <;> omega
theorem less_top {E M : List Ed} {f t : Int} {k : Nat} (hm : Less E f t M) (hk : ∀ x y, manyE E x y ≤ (k : Int)) : ∀ x y, manyE M x y ≤ ((k + 1 : Nat) : Int) := fun x y => by
  have := hk x y
  rw [hm.many]
  split <;> omega
theorem zs_memR {l : List Int} {k : Nat} (h : k < l.length) : l.getD k 0 ∈ l := by
  have : l.getD k 0 = l[k] := by simp [List.getD_eq_getElem?_getD, List.getElem?_eq_getElem h]
  rw [this]; exact List.getElem_mem h
theorem shr5_u16 (z s : Int) (h : z / 32 = s) (w : World) : Sem.run Try.prog (binOp .shr 48 (.int .u16 z) (.int .u64 5)) w = .ok (.int .u16 s) w := by
  subst h
  go_simp
theorem rem7_u16 (z r : Int) (h0 : 0 ≤ z) (_ : z ≤ 65535) (h : z % 7 = r) (w : World) : Sem.run Try.prog (binOp .rem 48 (.int .u16 z) (.int .u16 7)) w = .ok (.int .u16 r) w := by
  subst h
  go_simp
  exact Int.tmod_eq_emod_of_nonneg h0
theorem rem6_u16 (z r : Int) (h0 : 0 ≤ z) (_ : z ≤ 65535) (h : z % 6 = r) (w : World) : Sem.run Try.prog (binOp .rem 48 (.int .u16 z) (.int .u16 6)) w = .ok (.int .u16 r) w := by
  subst h
  go_simp
  exact Int.tmod_eq_emod_of_nonneg h0
theorem rem3_u16 (z r : Int) (h0 : 0 ≤ z) (_ : z ≤ 65535) (h : z % 3 = r) (w : World) : Sem.run Try.prog (binOp .rem 48 (.int .u16 z) (.int .u16 3)) w = .ok (.int .u16 r) w := by
  subst h
  go_simp
  exact Int.tmod_eq_emod_of_nonneg h0
theorem gt_u16 (z : Int) (b : Bool) (h : decide (0 < z) = b) (w : World) : Sem.run Try.prog (binOp .gtr 48 (.int .u16 z) (.int .u16 0)) w = .ok (.bool b) w := by
  subst h
  go_simp
set_option maxRecDepth 100000 in
set_option maxHeartbeats 6400000 in
theorem walk (V : Value) (zs : List Int) (w : World) (hV : U16s w V zs ∧ ∀ z ∈ zs, fitU16 z) :
    Calls Try.prog 6 #[V] w fun e w' => e = .returned (.bool true) ∧ Below w.heap.size w w' := by
  obtain ⟨hV, fV⟩ := hV
  obtain ⟨va, vc, rfl, hv1, hv2, -⟩ := hV.ex
  unfold maxLen at hv2
  obtain ⟨lz, hlz⟩ : ∃ z, zs.length = z := ⟨_, rfl⟩
  rw [hlz] at hV hv1 ⊢
  have SV := Lib.hid hV; have FV := Lib.hid fV; have HLZ := Lib.hid hlz
  clear hV fV hlz
  go_enter Try.func6, Try.ntmps6
  go_upto_region 2 with fail
  obtain ⟨WG, pG, hW2, hp2, hr2, hb1⟩ := boxR1 w (.slice none 0 0) (.slice none 0 0) 25
  rw [hW2, hp2]
  have LG := Lib.hid (show w.heap.size ≤ pG from by rw [← hp2]; exact Nat.le_refl _)
  have GG0 := Lib.hid ((gra_none w).below hb1)
  have BB := Lib.hid hb1
  have RG0 := Lib.hid hr2
  clear hW2 hp2 hr2 hb1
  go_upto_region 3 with fail
  go_wp2
  go_loopw [4] (fun i wr => ∃ (k nE mE : Nat) (E : List Ed) (L0 : List Int) (aG bG : Option Addr) (cG dG : Nat), k ≤ 40 ∧ i = .int .i64 k ∧ Hid (okE E = true) ∧ Hid (liveE E = L0) ∧ Hid (E.length = nE) ∧ Hid (L0.length = mE) ∧ nE ≤ k ∧ Hid (∀ x y, manyE E x y ≤ (k : Int)) ∧ Hid (∀ e ∈ E, fitE e) ∧ Hid (wr.heap[pG]? = some (.cells #[.slice aG nE cG, .slice bG mE dG] 25 (0, 0))) ∧ Hid (Gra wr (.agg #[.slice aG nE cG, .slice bG mE dG]) (E, L0)) ∧ Hid (Below w.heap.size w wr)) (fun i _ => 40 - (numR i).toNat)
  case atStart => exact ⟨0, 0, 0, [], [], none, none, 0, 0, by omega, rfl, Lib.hid (by decide), Lib.hid live_nil, Lib.hid rfl, Lib.hid rfl, Nat.le_refl _, Lib.hid (fun x y => by show (0 : Int) ≤ _; omega), Lib.hid (fun e he => by cases he), RG0, GG0, BB⟩
  case round =>
    clear GG0 RG0 BB
    obtain ⟨k, nE, mE, E, L0, aG, bG, cG, dG, hk, rfl, HOK, HL0, HNE, HME, hnE, HTO, HFE, RG, GG, BB⟩ := hrel
    obtain ⟨g0, g1, ff0, ff1⟩ := row2 RG.out
    by_cases hlt : k < lz
    · by_cases hl4 : k < 40
      · have hki : (k : Int) < (lz : Int) := by omega
        have hk4 : (k : Int) < 40 := by omega
        obtain ⟨bv, ov, rfl, -, hcv⟩ := (SV.out.below BB.out).at k (by rw [HLZ.out]; omega)
        rw [HLZ.out] at hcv
        have hc := hcv k hlt
        have hz := FV.out _ (zs_memR (k := k) (by rw [HLZ.out]; exact hlt))
        obtain ⟨z, hz1⟩ : ∃ z, zs.getD k 0 = z := ⟨_, rfl⟩
        rw [hz1] at hc hz
        obtain ⟨z0, zm⟩ := hz
        obtain ⟨s, hs⟩ : ∃ s, z / 256 = s := ⟨_, rfl⟩
        obtain ⟨r, hr⟩ : ∃ r, s % 7 = r := ⟨_, rfl⟩
        obtain ⟨f, hf⟩ : ∃ f, r - 1 = f := ⟨_, rfl⟩
        obtain ⟨t, ht⟩ : ∃ t, z % 6 = t := ⟨_, rfl⟩
        obtain ⟨u, hu⟩ : ∃ u, z / 32 = u := ⟨_, rfl⟩
        obtain ⟨v, hv⟩ : ∃ v, u % 3 = v := ⟨_, rfl⟩
        obtain ⟨on, hon⟩ : ∃ b, decide (0 < v) = b := ⟨_, rfl⟩
        have s0 : 0 ≤ s := by omega
        have s1 : s ≤ 65535 := by omega
        have r0 : 0 ≤ r := by omega
        have r1 : r ≤ 65535 := by omega
        have u0 : 0 ≤ u := by omega
        have u1 : u ≤ 65535 := by omega
        have t0 : 0 ≤ t := by omega
        have t1 : t ≤ 65535 := by omega
        have f0 : -1 ≤ f := by omega
        have f1 : f ≤ 65535 := by omega
        clear hcv hz1
        go_upto_region 5 with fail
        clear ff0 ff1
        refine rol_run (by kernel_rfl) [[], [], [0, 1], [0, 1, 2], [0, 1, 2, 3], [0, 1, 2, 3, 4], [0, 1, 2, 3, 4, 5], [0, 1, 2, 3, 4, 5, 6], [], [], [8, 9], [8, 9, 10], [8, 9, 10, 11], [8, 9, 10, 11, 12], [0, 1, 2, 3, 4, 5, 6, 7], [0, 1, 2, 3, 4, 5, 6, 7, 8, 9, 10, 11, 12, 13, 14]] (by kernel_rfl) [26, 27, 28, 29, 30, 31, 32, 33, 34, 35, 36, 37, 38, 39, 5, 6] [[], [], [0, 1], [2], [3], [4], [5], [6], [], [], [8, 9], [10], [11], [12], [7], [13]] [0, 0, 0, 0, 0, 0, 0, 0, 0, 0, 0, 0, 0, 0, 0, 0] [0, 0, 0, 0, 0, 0, 0, 0, 0, 0, 0, 0, 0, 0, 0, 0] [1000, 1000, 1000, 1000, 1000, 1000, 1000, 1000, 1000, 1000, 1000, 1000, 1000, 1000, 1000, 1000] [.val 26 (.slice (some ⟨bv, ov, none⟩) lz vc), .val 27 (.int .i64 (k : Int)), .val 28 (.pointer (some ⟨bv, ov + k, none⟩)), .val 29 (.int .u16 z), .val 30 (.int .u16 s), .val 31 (.int .u16 r), .val 32 (.int .i64 r), .val 33 (.int .i64 f), .val 34 (.slice (some ⟨bv, ov, none⟩) lz vc), .val 35 (.int .i64 (k : Int)), .val 36 (.pointer (some ⟨bv, ov + k, none⟩)), .val 37 (.int .u16 z), .val 38 (.int .u16 t), .val 39 (.int .i64 t), .val 5 (.int .i64 f), .val 6 (.int .i64 t)] (by kernel_rfl) ?_ (wr.heap.size) (wr.heap.size) rfl (Below.refl _ _) rfl (fun _ => 0) ?_ ?_ ?_
        · intro j hj
          have hj3 : j < 16 := hj
          have hj2 : j = 0 ∨ j = 1 ∨ j = 2 ∨ j = 3 ∨ j = 4 ∨ j = 5 ∨ j = 6 ∨ j = 7 ∨ j = 8 ∨ j = 9 ∨ j = 10 ∨ j = 11 ∨ j = 12 ∨ j = 13 ∨ j = 14 ∨ j = 15 := by omega
          clear hj hj3
          rcases hj2 with rfl | rfl | rfl | rfl | rfl | rfl | rfl | rfl | rfl | rfl | rfl | rfl | rfl | rfl | rfl | rfl
          · exact trivial
          · exact trivial
          · exact trivial
          · exact trivial
          · exact trivial
          · exact trivial
          · exact trivial
          · exact trivial
          · exact trivial
          · exact trivial
          · exact trivial
          · exact trivial
          · exact trivial
          · exact trivial
          · exact trivial
          · exact trivial
        · intro j hj0 hj
          exact absurd hj (Nat.not_lt.2 hj0)
        · intro i hi a wx who hG hF
          have hz : a.tmps.size = 112 := hG.size
          have hi3 : i < 16 := hi
          have hi2 : i = 0 ∨ i = 1 ∨ i = 2 ∨ i = 3 ∨ i = 4 ∨ i = 5 ∨ i = 6 ∨ i = 7 ∨ i = 8 ∨ i = 9 ∨ i = 10 ∨ i = 11 ∨ i = 12 ∨ i = 13 ∨ i = 14 ∨ i = 15 := by omega
          clear hi hi3
          rcases hi2 with rfl | rfl | rfl | rfl | rfl | rfl | rfl | rfl | rfl | rfl | rfl | rfl | rfl | rfl | rfl | rfl
          · exact rol_val rfl rfl rfl (by rw [hz]; decide) (ex_move (Or.inl rfl) (eval_slot ((hG.slots 0 (by decide)).trans rfl))) hG.below
          · exact rol_val rfl rfl rfl (by rw [hz]; decide) (ex_move (Or.inl rfl) (eval_slot ((hG.slots 4 (by decide)).trans rfl))) hG.below
          · exact rol_val rfl rfl rfl (by rw [hz]; decide) (ex_index rfl (eval_slot (hF 0 (by decide))) (eval_slot (hF 1 (by decide))) (idx_u16 hlt)) hG.below
          · exact rol_val rfl rfl rfl (by rw [hz]; decide) (ex_load rfl (eval_slot (hF 2 (by decide))) (ld_u16 (cell_keep hc hG.below))) hG.below
          · exact rol_val rfl rfl rfl (by rw [hz]; decide) (ex_bin rfl (eval_slot (hF 3 (by decide))) rfl (by go_simp) (shr_u16 z s hs _)) hG.below
          · exact rol_val rfl rfl rfl (by rw [hz]; decide) (ex_bin rfl (eval_slot (hF 4 (by decide))) rfl (by go_simp) (rem7_u16 s r s0 s1 hr _)) hG.below
          · exact rol_val rfl rfl rfl (by rw [hz]; decide) (ex_conv rfl (eval_slot (hF 5 (by decide))) (conv_u16 r r0 r1 _)) hG.below
          · exact rol_val rfl rfl rfl (by rw [hz]; decide) (ex_bin rfl (eval_slot (hF 6 (by decide))) rfl (by go_simp) (sub_one r f r0 r1 hf _)) hG.below
          · exact rol_val rfl rfl rfl (by rw [hz]; decide) (ex_move (Or.inl rfl) (eval_slot ((hG.slots 0 (by decide)).trans rfl))) hG.below
          · exact rol_val rfl rfl rfl (by rw [hz]; decide) (ex_move (Or.inl rfl) (eval_slot ((hG.slots 4 (by decide)).trans rfl))) hG.below
          · exact rol_val rfl rfl rfl (by rw [hz]; decide) (ex_index rfl (eval_slot (hF 8 (by decide))) (eval_slot (hF 9 (by decide))) (idx_u16 hlt)) hG.below
          · exact rol_val rfl rfl rfl (by rw [hz]; decide) (ex_load rfl (eval_slot (hF 10 (by decide))) (ld_u16 (cell_keep hc hG.below))) hG.below
          · exact rol_val rfl rfl rfl (by rw [hz]; decide) (ex_bin rfl (eval_slot (hF 11 (by decide))) rfl (by go_simp) (rem6_u16 z t z0 zm ht _)) hG.below
          · exact rol_val rfl rfl rfl (by rw [hz]; decide) (ex_conv rfl (eval_slot (hF 12 (by decide))) (conv_u16 t t0 t1 _)) hG.below
          · exact rol_val rfl rfl rfl (by rw [hz]; decide) (ex_move (Or.inr rfl) (eval_slot (hF 7 (by decide)))) hG.below
          · exact rol_val rfl rfl rfl (by rw [hz]; decide) (ex_move (Or.inr rfl) (eval_slot (hF 13 (by decide)))) hG.below
        · intro a wx who hG hF
          have fv5 : a.tmps.getD 5 undef = .int .i64 f := eval_slot (s := 5) (hF 14 (of_decide_eq_true (by kernel_rfl)) (of_decide_eq_true (by kernel_rfl)))
          have fv6 : a.tmps.getD 6 undef = .int .i64 t := eval_slot (s := 6) (hF 15 (of_decide_eq_true (by kernel_rfl)) (of_decide_eq_true (by kernel_rfl)))
          have hbx := hG.below
          have hnx := hG.new
          rw [hG.frame]
          simp only [List.foldl_cons, List.foldl_nil, List.setIfInBounds_toArray, List.set_cons_zero, List.set_cons_succ]
          generalize a.tmps.getD 26 undef = u26
          generalize a.tmps.getD 27 undef = u27
          generalize a.tmps.getD 28 undef = u28
          generalize a.tmps.getD 29 undef = u29
          generalize a.tmps.getD 30 undef = u30
          generalize a.tmps.getD 31 undef = u31
          generalize a.tmps.getD 32 undef = u32
          generalize a.tmps.getD 33 undef = u33
          generalize a.tmps.getD 34 undef = u34
          generalize a.tmps.getD 35 undef = u35
          generalize a.tmps.getD 36 undef = u36
          generalize a.tmps.getD 37 undef = u37
          generalize a.tmps.getD 38 undef = u38
          generalize a.tmps.getD 39 undef = u39
          rw [fv5]
          rw [fv6]
          clear hF hG fv5 fv6
          obtain ⟨w5, hw5⟩ : ∃ r, r = wx := ⟨_, rfl⟩
          subst hw5
          replace g0 := cell_keep g0 hbx; replace g1 := cell_keep g1 hbx; replace RG := Lib.hid (row_keepB RG.out hbx); replace GG := Lib.hid (GG.out.below hbx); replace BB := Lib.hid (below_step BB.out hbx); replace hc := cell_keep hc hbx
          clear hbx hnx hs hr hf ht s0 s1 r0 r1
          go_upto_region 7 with fail
          clear hc hu hv hon u0 u1 z0 zm
          have hfI : fitI f := ⟨by omega, by omega⟩
          have htI : fitI t := ⟨by omega, by omega⟩
          have hlm : manyE E f t < topE := by
            have h1 := HTO.out f t
            have h2 : topE = 1099511627776 := rfl
            omega
          obtain ⟨q1, M, q2, q3, hM⟩ := link_of HOK.out f0 t0 hlm
          have q4 := more_live HOK.out hM
          have q5 := more_top hM HTO.out
          have q6 := hM.fit HFE.out hfI htI
          have q7 := hM.len
          have q8 := live_len M
          have q9 := minus_len (liveE M) L0
          rw [HL0.out] at q1 q2 q3 q4
          obtain ⟨R, hR⟩ : ∃ x, liveE M = x := ⟨_, rfl⟩
          rw [hR] at q2 q3 q4 q8 q9
          obtain ⟨D, hD⟩ : ∃ x, minusI R L0 = x := ⟨_, rfl⟩
          rw [hD] at q3 q9
          have hl0 := live_len E
          rw [HL0.out, HNE.out, HME.out] at hl0
          have kx := fun V w h => link_any V (E, L0) f t w h (by show E.length ≤ _; rw [HNE.out]; omega) (by show L0.length ≤ _; rw [HME.out]; omega) HFE.out hfI htI
          rw [q1, q2, q3] at kx
          rw [HNE.out] at q7
          obtain ⟨nM, hnM⟩ : ∃ x, M.length = x := ⟨_, rfl⟩
          obtain ⟨nR, hnR⟩ : ∃ x, R.length = x := ⟨_, rfl⟩
          obtain ⟨nD, hnD⟩ : ∃ x, D.length = x := ⟨_, rfl⟩
          rw [hnM] at q7 q8
          rw [hnR] at q8 q9
          have HM := Lib.hid hM; have HRM := Lib.hid hR; have HDM := Lib.hid hD; have HNM := Lib.hid hnM; have HNR := Lib.hid hnR; have HND := Lib.hid hnD; have KX := Lib.hid kx; have HT2 := Lib.hid q5; have HF2 := Lib.hid q6; have HSB := Lib.hid q4
          clear kx q1 q2 q3 q4 q5 q6 hM hR hD hnM hnR hnD hlm
          obtain ⟨g0, g1, ff0, ff1⟩ := row2 RG.out
          clear ff0 ff1
          cases on
          · go_upto_region 8 with (go_at_call 20; refine (KX.out _ _ GG.out).mono ?_; rintro e w1 ⟨v1, u1, rfl, hg1, hu1, hb1⟩; obtain ⟨aX, cX, bX, dX, rfl, hG1⟩ := hg1.lens (n := nM) (m := nR) HNM.out HNR.out; obtain ⟨aU, cU, rfl, hU1⟩ := intsR hu1 (n := nD) HND.out; replace g0 := cell_keep g0 hb1; replace g1 := cell_keep g1 hb1; replace RG := Lib.hid (row_keepB RG.out hb1); replace GG := Lib.hid (GG.out.below hb1); replace BB := Lib.hid (below_step BB.out hb1); have GX := Lib.hid hG1; have SU := Lib.hid hU1; clear hg1 hu1 hG1 hU1 hb1 KX)
            obtain ⟨WX, pX, hW2, hp2, hr2, hb1⟩ := boxR1 w1 (.slice aX nM cX) (.slice bX nR dX) 25
            have NGX := Lib.hid (show pG ≠ pX from fun e => by have h8 := (Array.getElem?_eq_some_iff.1 RG.out).1; omega)
            rw [hW2, hp2]
            have LX := Lib.hid (show w.heap.size ≤ pX from by rw [← hp2]; exact BB.out.size)
            replace g0 := cell_keep g0 hb1
            replace g1 := cell_keep g1 hb1
            replace RG := Lib.hid (row_keepB RG.out hb1)
            replace GG := Lib.hid (GG.out.below hb1)
            replace GX := Lib.hid (GX.out.below hb1)
            replace SU := Lib.hid (SU.out.belowB hb1)
            replace BB := Lib.hid (below_step BB.out hb1)
            obtain ⟨x0, x1, -, -⟩ := row2 hr2
            have RX := Lib.hid hr2
            clear hW2 hp2 hr2 hb1
            by_cases hm0 : manyE E f t = 0
            · obtain ⟨y1, y2, y3⟩ := unlk_zero HOK.out f0 t0 hm0
              rw [HL0.out] at y1 y2 y3
              have ky := fun V w h => unlk_any V (E, L0) f t w h (by show E.length ≤ _; rw [HNE.out]; omega) (by show L0.length ≤ _; rw [HME.out]; omega) HFE.out hfI htI
              rw [y1, y2, y3] at ky
              have KY := Lib.hid ky
              clear ky y1 y2 y3
              go_upto_region 10 with (go_at_call 25; refine (KY.out _ _ GG.out).mono ?_; rintro e w1 ⟨v1, u1, rfl, hg1, hu1, hb1⟩; obtain ⟨aZ, cZ, bZ, dZ, rfl, hG1⟩ := hg1.lens (n := nE) (m := mE) HNE.out HME.out; obtain ⟨aQ, cQ, rfl, hU1⟩ := intsR hu1 (n := 0) rfl; replace g0 := cell_keep g0 hb1; replace g1 := cell_keep g1 hb1; replace x0 := cell_keep x0 hb1; replace x1 := cell_keep x1 hb1; replace RG := Lib.hid (row_keepB RG.out hb1); replace RX := Lib.hid (row_keepB RX.out hb1); replace GG := Lib.hid (GG.out.below hb1); replace GX := Lib.hid (GX.out.below hb1); replace SU := Lib.hid (SU.out.belowB hb1); replace BB := Lib.hid (below_step BB.out hb1); have GZ := Lib.hid hG1; have SQ := Lib.hid hU1; obtain ⟨x0, x1, ff0, ff1⟩ := row2 RX.out; clear hg1 hu1 hG1 hU1 hb1 KY)
              obtain ⟨WY, hWY⟩ : ∃ r, (w1.setCell ⟨pX, 0, none⟩ (.slice aZ nE cZ)).setCell ⟨pX, 1, none⟩ (.slice bZ mE dZ) = r := ⟨_, rfl⟩
              have hRI := RX.out
              have hRN := row2_set hRI (.slice aZ nE cZ) (.slice bZ mE dZ)
              have hGG := Gra.set (a' := aZ) (n' := nE) (c' := cZ) (b' := bZ) (m' := mE) (d' := dZ) GG.out hRI
              have hGX := Gra.set (a' := aZ) (n' := nE) (c' := cZ) (b' := bZ) (m' := mE) (d' := dZ) GX.out hRI
              have hGZ := Gra.set (a' := aZ) (n' := nE) (c' := cZ) (b' := bZ) (m' := mE) (d' := dZ) GZ.out hRI
              have hSU := ints_set2 (a' := aZ) (n' := nE) (c' := cZ) (b' := bZ) (m' := mE) (d' := dZ) SU.out hRI
              have hSQ := ints_set2 (a' := aZ) (n' := nE) (c' := cZ) (b' := bZ) (m' := mE) (d' := dZ) SQ.out hRI
              have hRG := row_farR (g := pX) (i := 1) (row_farR (g := pX) (i := 0) RG.out NGX.out (.slice aZ nE cZ)) NGX.out (.slice bZ mE dZ)
              have hBN := (BB.out.setCell (p := ⟨pX, 0, none⟩) LX.out (.slice aZ nE cZ)).setCell (p := ⟨pX, 1, none⟩) LX.out (.slice bZ mE dZ)
              rw [hWY] at hRN hBN hGG hGX hGZ hSU hSQ hRG ⊢
              clear hWY hRI ff0 ff1 g0 g1 x0 x1
              replace GG := Lib.hid hGG
              replace GX := Lib.hid hGX
              replace GZ := Lib.hid hGZ
              replace SU := Lib.hid hSU
              replace SQ := Lib.hid hSQ
              replace RG := Lib.hid hRG
              replace RX := Lib.hid hRN
              replace BB := Lib.hid hBN
              clear hRN hBN hGG hGX hGZ hSU hSQ hRG
              obtain ⟨g0, g1, -, -⟩ := row2 RG.out
              obtain ⟨x0, x1, -, -⟩ := row2 RX.out
              go_upto_region 4 with fail
              go_wp2
              go_roundw
              case rel => exact ⟨k + 1, nE, mE, E, L0, aG, bG, cG, dG, by omega, by go_num, HOK, HL0, HNE, HME, by omega, Lib.hid (fun x y => by have := HTO.out x y; omega), HFE, RG, GG, BB⟩
              case measure => simp [numR]; omega
            · have hmp : 0 < manyE E f t := by have := (many_bd HOK.out f t).1; omega
              obtain ⟨y1, N, y2, y3, hN⟩ := unlk_of HOK.out f0 t0 hmp
              have y4 := less_live HOK.out hN
              have y5 := less_top hN HTO.out
              have y6 := hN.fit HFE.out hfI htI
              have y7 := hN.len
              have y8 := live_len N
              have y9 := minus_len L0 (liveE N)
              rw [HL0.out] at y1 y2 y3 y4
              obtain ⟨S, hS⟩ : ∃ x, liveE N = x := ⟨_, rfl⟩
              rw [hS] at y2 y3 y4 y8 y9
              obtain ⟨F, hF⟩ : ∃ x, minusI L0 S = x := ⟨_, rfl⟩
              rw [hF] at y3 y9
              have ky := fun V w h => unlk_any V (E, L0) f t w h (by show E.length ≤ _; rw [HNE.out]; omega) (by show L0.length ≤ _; rw [HME.out]; omega) HFE.out hfI htI
              rw [y1, y2, y3] at ky
              rw [HNE.out] at y7
              obtain ⟨nN, hnN⟩ : ∃ x, N.length = x := ⟨_, rfl⟩
              obtain ⟨nS, hnS⟩ : ∃ x, S.length = x := ⟨_, rfl⟩
              obtain ⟨nF, hnF⟩ : ∃ x, F.length = x := ⟨_, rfl⟩
              rw [hnN] at y7 y8
              rw [hnS] at y8
              rw [HME.out, hnF] at y9
              have HN := Lib.hid hN; have HSN := Lib.hid hS; have HFN := Lib.hid hF; have HNN := Lib.hid hnN; have HNS := Lib.hid hnS; have HNF := Lib.hid hnF; have KY := Lib.hid ky; have HT3 := Lib.hid y5; have HF3 := Lib.hid y6; have HSB2 := Lib.hid y4
              clear ky y1 y2 y3 y4 y5 y6 hN hS hF hnN hnS hnF hmp hm0
              go_upto_region 10 with (go_at_call 25; refine (KY.out _ _ GG.out).mono ?_; rintro e w1 ⟨v1, u1, rfl, hg1, hu1, hb1⟩; obtain ⟨aZ, cZ, bZ, dZ, rfl, hG1⟩ := hg1.lens (n := nN) (m := nS) HNN.out HNS.out; obtain ⟨aQ, cQ, rfl, hU1⟩ := intsR hu1 (n := nF) HNF.out; replace g0 := cell_keep g0 hb1; replace g1 := cell_keep g1 hb1; replace x0 := cell_keep x0 hb1; replace x1 := cell_keep x1 hb1; replace RG := Lib.hid (row_keepB RG.out hb1); replace RX := Lib.hid (row_keepB RX.out hb1); replace GG := Lib.hid (GG.out.below hb1); replace GX := Lib.hid (GX.out.below hb1); replace SU := Lib.hid (SU.out.belowB hb1); replace BB := Lib.hid (below_step BB.out hb1); have GZ := Lib.hid hG1; have SQ := Lib.hid hU1; obtain ⟨x0, x1, ff0, ff1⟩ := row2 RX.out; clear hg1 hu1 hG1 hU1 hb1 KY)
              obtain ⟨WY, hWY⟩ : ∃ r, (w1.setCell ⟨pX, 0, none⟩ (.slice aZ nN cZ)).setCell ⟨pX, 1, none⟩ (.slice bZ nS dZ) = r := ⟨_, rfl⟩
              have hRI := RX.out
              have hRN := row2_set hRI (.slice aZ nN cZ) (.slice bZ nS dZ)
              have hGG := Gra.set (a' := aZ) (n' := nN) (c' := cZ) (b' := bZ) (m' := nS) (d' := dZ) GG.out hRI
              have hGX := Gra.set (a' := aZ) (n' := nN) (c' := cZ) (b' := bZ) (m' := nS) (d' := dZ) GX.out hRI
              have hGZ := Gra.set (a' := aZ) (n' := nN) (c' := cZ) (b' := bZ) (m' := nS) (d' := dZ) GZ.out hRI
              have hSU := ints_set2 (a' := aZ) (n' := nN) (c' := cZ) (b' := bZ) (m' := nS) (d' := dZ) SU.out hRI
              have hSQ := ints_set2 (a' := aZ) (n' := nN) (c' := cZ) (b' := bZ) (m' := nS) (d' := dZ) SQ.out hRI
              have hRG := row_farR (g := pX) (i := 1) (row_farR (g := pX) (i := 0) RG.out NGX.out (.slice aZ nN cZ)) NGX.out (.slice bZ nS dZ)
              have hBN := (BB.out.setCell (p := ⟨pX, 0, none⟩) LX.out (.slice aZ nN cZ)).setCell (p := ⟨pX, 1, none⟩) LX.out (.slice bZ nS dZ)
              rw [hWY] at hRN hBN hGG hGX hGZ hSU hSQ hRG ⊢
              clear hWY hRI ff0 ff1 g0 g1 x0 x1
              replace GG := Lib.hid hGG
              replace GX := Lib.hid hGX
              replace GZ := Lib.hid hGZ
              replace SU := Lib.hid hSU
              replace SQ := Lib.hid hSQ
              replace RG := Lib.hid hRG
              replace RX := Lib.hid hRN
              replace BB := Lib.hid hBN
              clear hRN hBN hGG hGX hGZ hSU hSQ hRG
              obtain ⟨g0, g1, -, -⟩ := row2 RG.out
              obtain ⟨x0, x1, -, -⟩ := row2 RX.out
              have hok2 := HN.out.ok
              have hch : chkE N = 0 := by unfold chkE; rw [hok2]; rfl
              have ko := fun V w h => gof_any V N w h (by rw [HNN.out]; omega) HF3.out
              rw [hch, gOf_ok hok2, HSN.out] at ko
              have KO := Lib.hid ko
              have kp := fun U V w h h' => gsame_any U V (N, S) (N, S) w h h'
              simp only [decide_true] at kp
              have KP := Lib.hid kp
              have ki := fun U V w h h' => refints_any U V F F w h h'
              simp only [decide_true] at ki
              have KI := Lib.hid ki
              have HOK2 := Lib.hid hok2
              clear ko kp ki hok2 hch
              go_upto_region 11 with fail
              go_upto_region 12 with (go_at_call 12; refine (KO.out _ _ (gra_fst GZ.out)).mono ?_; rintro e w1 ⟨v1, rfl, hg1, hb1⟩; obtain ⟨aY, cY, bY, dY, rfl, hG1⟩ := hg1.lens (n := nN) (m := nS) HNN.out HNS.out; replace g0 := cell_keep g0 hb1; replace g1 := cell_keep g1 hb1; replace x0 := cell_keep x0 hb1; replace x1 := cell_keep x1 hb1; replace RG := Lib.hid (row_keepB RG.out hb1); replace RX := Lib.hid (row_keepB RX.out hb1); replace GG := Lib.hid (GG.out.below hb1); replace GZ := Lib.hid (GZ.out.below hb1); replace SQ := Lib.hid (SQ.out.belowB hb1); replace BB := Lib.hid (below_step BB.out hb1); have GY := Lib.hid hG1; clear hg1 hG1 hb1 KO)
              obtain ⟨WY, pY, hW2, hp2, hr2, hb1⟩ := boxR1 w1 (.slice aY nN cY) (.slice bY nS dY) 25
              rw [hW2, hp2]
              have LY := Lib.hid (show w.heap.size ≤ pY from by rw [← hp2]; exact BB.out.size)
              replace g0 := cell_keep g0 hb1
              replace g1 := cell_keep g1 hb1
              replace x0 := cell_keep x0 hb1
              replace x1 := cell_keep x1 hb1
              replace RG := Lib.hid (row_keepB RG.out hb1)
              replace RX := Lib.hid (row_keepB RX.out hb1)
              replace GG := Lib.hid (GG.out.below hb1)
              replace GZ := Lib.hid (GZ.out.below hb1)
              replace GY := Lib.hid (GY.out.below hb1)
              replace SQ := Lib.hid (SQ.out.belowB hb1)
              replace BB := Lib.hid (below_step BB.out hb1)
              obtain ⟨y0, y1, -, -⟩ := row2 hr2
              have RY := Lib.hid hr2
              clear hW2 hp2 hr2 hb1
              go_upto_region 14 with (go_at_call 15; refine (KP.out _ _ _ GZ.out GY.out).mono ?_; rintro e w9 ⟨rfl, hb1⟩; replace g0 := cell_keep g0 hb1; replace g1 := cell_keep g1 hb1; replace x0 := cell_keep x0 hb1; replace x1 := cell_keep x1 hb1; replace y0 := cell_keep y0 hb1; replace y1 := cell_keep y1 hb1; replace RG := Lib.hid (row_keepB RG.out hb1); replace RX := Lib.hid (row_keepB RX.out hb1); replace RY := Lib.hid (row_keepB RY.out hb1); replace GG := Lib.hid (GG.out.below hb1); replace GZ := Lib.hid (GZ.out.below hb1); replace GY := Lib.hid (GY.out.below hb1); replace SQ := Lib.hid (SQ.out.belowB hb1); replace BB := Lib.hid (below_step BB.out hb1); clear hb1)
              obtain ⟨wz, hwz⟩ : ∃ r, r = w9 := ⟨_, rfl⟩
              subst hwz
              clear GY RY y0 y1
              refine rol_run (by kernel_rfl) [[], [0], [], [2], [0, 1], [0, 1, 2, 3, 4]] (by kernel_rfl) [89, 90, 91, 92, 13, 14] [[], [0], [], [2], [1], [3]] [0, 0, 0, 0, 0, 0] [0, 0, 0, 0, 0, 0] [1000, 1000, 1000, 1000, 1000, 1000] [.val 89 (.pointer (some ⟨pG, 1, none⟩)), .val 90 (.slice bG mE dG), .val 91 (.pointer (some ⟨pX, 1, none⟩)), .val 92 (.slice bZ nS dZ), .val 13 (.slice bG mE dG), .val 14 (.slice bZ nS dZ)] (by kernel_rfl) ?_ (wz.heap.size) (wz.heap.size) rfl (Below.refl _ _) rfl (fun _ => 0) ?_ ?_ ?_
              · intro j hj
                have hj3 : j < 6 := hj
                have hj2 : j = 0 ∨ j = 1 ∨ j = 2 ∨ j = 3 ∨ j = 4 ∨ j = 5 := by omega
                clear hj hj3
                rcases hj2 with rfl | rfl | rfl | rfl | rfl | rfl
                · exact trivial
                · exact trivial
                · exact trivial
                · exact trivial
                · exact trivial
                · exact trivial
              · intro j hj0 hj
                exact absurd hj (Nat.not_lt.2 hj0)
              · intro i hi a wx who hG hF
                have hz : a.tmps.size = 112 := hG.size
                have hi3 : i < 6 := hi
                have hi2 : i = 0 ∨ i = 1 ∨ i = 2 ∨ i = 3 ∨ i = 4 ∨ i = 5 := by omega
                clear hi hi3
                rcases hi2 with rfl | rfl | rfl | rfl | rfl | rfl
                · exact rol_val rfl rfl rfl (by rw [hz]; decide) (ex_field rfl (eval_slot ((hG.slots 3 (by decide)).trans rfl)) (by go_simp)) hG.below
                · exact rol_val rfl rfl rfl (by rw [hz]; decide) (ex_load rfl (eval_slot (hF 0 (by decide))) (ld_ints (cell_keep g1 hG.below))) hG.below
                · exact rol_val rfl rfl rfl (by rw [hz]; decide) (ex_field rfl (eval_slot ((hG.slots 8 (by decide)).trans rfl)) (by go_simp)) hG.below
                · exact rol_val rfl rfl rfl (by rw [hz]; decide) (ex_load rfl (eval_slot (hF 2 (by decide))) (ld_ints (cell_keep x1 hG.below))) hG.below
                · exact rol_val rfl rfl rfl (by rw [hz]; decide) (ex_move (Or.inr rfl) (eval_slot (hF 1 (by decide)))) hG.below
                · exact rol_val rfl rfl rfl (by rw [hz]; decide) (ex_move (Or.inr rfl) (eval_slot (hF 3 (by decide)))) hG.below
              · intro a wx who hG hF
                have fv13 : a.tmps.getD 13 undef = .slice bG mE dG := eval_slot (s := 13) (hF 4 (of_decide_eq_true (by kernel_rfl)) (of_decide_eq_true (by kernel_rfl)))
                have fv14 : a.tmps.getD 14 undef = .slice bZ nS dZ := eval_slot (s := 14) (hF 5 (of_decide_eq_true (by kernel_rfl)) (of_decide_eq_true (by kernel_rfl)))
                have hbx := hG.below
                have hnx := hG.new
                rw [hG.frame]
                simp only [List.foldl_cons, List.foldl_nil, List.setIfInBounds_toArray, List.set_cons_zero, List.set_cons_succ]
                generalize a.tmps.getD 89 undef = u89
                generalize a.tmps.getD 90 undef = u90
                generalize a.tmps.getD 91 undef = u91
                generalize a.tmps.getD 92 undef = u92
                rw [fv13]
                rw [fv14]
                clear hF hG fv13 fv14
                obtain ⟨wy, hwy⟩ : ∃ r, r = wx := ⟨_, rfl⟩
                subst hwy
                replace g0 := cell_keep g0 hbx
                replace g1 := cell_keep g1 hbx
                replace x0 := cell_keep x0 hbx
                replace x1 := cell_keep x1 hbx
                replace RG := Lib.hid (row_keepB RG.out hbx)
                replace RX := Lib.hid (row_keepB RX.out hbx)
                replace GG := Lib.hid (GG.out.below hbx)
                replace GZ := Lib.hid (GZ.out.below hbx)
                replace SQ := Lib.hid (SQ.out.belowB hbx)
                replace BB := Lib.hid (below_step BB.out hbx)
                have SR := Lib.hid (gra_snd GZ.out); have SL := Lib.hid (gra_snd GG.out)
                clear hbx hnx
                go_upto_region 17 with fail
                clear GG
                go_upto_region 19 with (first
                    | (go_at_call 24; refine (refminus_any _ _ _ _ _ (by first | exact SL.out | exact SR.out) (by first | exact SR.out | exact SL.out) (by first | (rw [HME.out]; omega) | (rw [HNS.out]; omega))).mono ?_; rintro e w1 ⟨v1, rfl, hrow, hb1⟩; replace g0 := cell_keep g0 hb1; replace g1 := cell_keep g1 hb1; replace x0 := cell_keep x0 hb1; replace x1 := cell_keep x1 hb1; replace RG := Lib.hid (row_keepB RG.out hb1); replace RX := Lib.hid (row_keepB RX.out hb1); replace GZ := Lib.hid (GZ.out.below hb1); replace SQ := Lib.hid (SQ.out.belowB hb1); replace SR := Lib.hid (SR.out.belowB hb1); replace SL := Lib.hid (SL.out.belowB hb1); replace BB := Lib.hid (below_step BB.out hb1); first | (rw [HFN.out] at hrow; obtain ⟨aA, cA, rfl, hd⟩ := intsR hrow HNF.out; have SA := Lib.hid hd; clear hrow hd hb1) | (rw [HSB2.out] at hrow; obtain ⟨aB, cB, rfl, hd⟩ := intsR (l := []) hrow (n := 0) rfl; clear hrow hd hb1))
                    | (go_at_call 23; refine (KI.out _ _ _ SQ.out SA.out).mono ?_; rintro e w9 ⟨rfl, hb1⟩; replace g0 := cell_keep g0 hb1; replace g1 := cell_keep g1 hb1; replace x0 := cell_keep x0 hb1; replace x1 := cell_keep x1 hb1; replace RG := Lib.hid (row_keepB RG.out hb1); replace RX := Lib.hid (row_keepB RX.out hb1); replace GZ := Lib.hid (GZ.out.below hb1); replace SQ := Lib.hid (SQ.out.belowB hb1); replace SR := Lib.hid (SR.out.belowB hb1); replace SL := Lib.hid (SL.out.belowB hb1); replace SA := Lib.hid (SA.out.belowB hb1); replace BB := Lib.hid (below_step BB.out hb1); clear hb1))
                obtain ⟨x0, x1, -, -⟩ := row2 RX.out
                obtain ⟨g0, g1, ff0, ff1⟩ := row2 RG.out
                go_upto_region 4 with fail
                clear x0 x1
                obtain ⟨WY, hWY⟩ : ∃ r, (w1.setCell ⟨pG, 0, none⟩ (.slice aZ nN cZ)).setCell ⟨pG, 1, none⟩ (.slice bZ nS dZ) = r := ⟨_, rfl⟩
                have hRI := RG.out
                have hRN := row2_set hRI (.slice aZ nN cZ) (.slice bZ nS dZ)
                have hGZ := Gra.set (a' := aZ) (n' := nN) (c' := cZ) (b' := bZ) (m' := nS) (d' := dZ) GZ.out hRI
                have hBN := (BB.out.setCell (p := ⟨pG, 0, none⟩) LG.out (.slice aZ nN cZ)).setCell (p := ⟨pG, 1, none⟩) LG.out (.slice bZ nS dZ)
                rw [hWY] at hRN hBN hGZ ⊢
                clear hWY hRI ff0 ff1 g0 g1
                replace GZ := Lib.hid hGZ
                replace RG := Lib.hid hRN
                replace BB := Lib.hid hBN
                clear hRN hBN hGZ
                obtain ⟨g0, g1, -, -⟩ := row2 RG.out
                go_wp2
                go_roundw
                case rel => exact ⟨k + 1, nN, nS, N, S, aZ, bZ, cZ, dZ, by omega, by go_num, HOK2, HSN, HNN, HNS, by omega, HT3, HF3, RG, GZ, BB⟩
                case measure => simp [numR]; omega
          · go_upto_region 8 with (go_at_call 20; refine (KX.out _ _ GG.out).mono ?_; rintro e w1 ⟨v1, u1, rfl, hg1, hu1, hb1⟩; obtain ⟨aX, cX, bX, dX, rfl, hG1⟩ := hg1.lens (n := nM) (m := nR) HNM.out HNR.out; obtain ⟨aU, cU, rfl, hU1⟩ := intsR hu1 (n := nD) HND.out; replace g0 := cell_keep g0 hb1; replace g1 := cell_keep g1 hb1; replace RG := Lib.hid (row_keepB RG.out hb1); replace GG := Lib.hid (GG.out.below hb1); replace BB := Lib.hid (below_step BB.out hb1); have GX := Lib.hid hG1; have SU := Lib.hid hU1; clear hg1 hu1 hG1 hU1 hb1 KX)
            obtain ⟨WX, pX, hW2, hp2, hr2, hb1⟩ := boxR1 w1 (.slice aX nM cX) (.slice bX nR dX) 25
            have NGX := Lib.hid (show pG ≠ pX from fun e => by have h8 := (Array.getElem?_eq_some_iff.1 RG.out).1; omega)
            rw [hW2, hp2]
            have LX := Lib.hid (show w.heap.size ≤ pX from by rw [← hp2]; exact BB.out.size)
            replace g0 := cell_keep g0 hb1
            replace g1 := cell_keep g1 hb1
            replace RG := Lib.hid (row_keepB RG.out hb1)
            replace GG := Lib.hid (GG.out.below hb1)
            replace GX := Lib.hid (GX.out.below hb1)
            replace SU := Lib.hid (SU.out.belowB hb1)
            replace BB := Lib.hid (below_step BB.out hb1)
            obtain ⟨x0, x1, -, -⟩ := row2 hr2
            have RX := Lib.hid hr2
            clear hW2 hp2 hr2 hb1
            have hok2 := HM.out.ok
            have hch : chkE M = 0 := by unfold chkE; rw [hok2]; rfl
            have ko := fun V w h => gof_any V M w h (by rw [HNM.out]; omega) HF2.out
            rw [hch, gOf_ok hok2, HRM.out] at ko
            have KO := Lib.hid ko
            have kp := fun U V w h h' => gsame_any U V (M, R) (M, R) w h h'
            simp only [decide_true] at kp
            have KP := Lib.hid kp
            have ki := fun U V w h h' => refints_any U V D D w h h'
            simp only [decide_true] at ki
            have KI := Lib.hid ki
            have HOK2 := Lib.hid hok2
            clear ko kp ki hok2 hch
            go_upto_region 11 with fail
            go_upto_region 12 with (go_at_call 12; refine (KO.out _ _ (gra_fst GX.out)).mono ?_; rintro e w1 ⟨v1, rfl, hg1, hb1⟩; obtain ⟨aY, cY, bY, dY, rfl, hG1⟩ := hg1.lens (n := nM) (m := nR) HNM.out HNR.out; replace g0 := cell_keep g0 hb1; replace g1 := cell_keep g1 hb1; replace x0 := cell_keep x0 hb1; replace x1 := cell_keep x1 hb1; replace RG := Lib.hid (row_keepB RG.out hb1); replace RX := Lib.hid (row_keepB RX.out hb1); replace GG := Lib.hid (GG.out.below hb1); replace GX := Lib.hid (GX.out.below hb1); replace SU := Lib.hid (SU.out.belowB hb1); replace BB := Lib.hid (below_step BB.out hb1); have GY := Lib.hid hG1; clear hg1 hG1 hb1 KO)
            obtain ⟨WY, pY, hW2, hp2, hr2, hb1⟩ := boxR1 w1 (.slice aY nM cY) (.slice bY nR dY) 25
            rw [hW2, hp2]
            have LY := Lib.hid (show w.heap.size ≤ pY from by rw [← hp2]; exact BB.out.size)
            replace g0 := cell_keep g0 hb1
            replace g1 := cell_keep g1 hb1
            replace x0 := cell_keep x0 hb1
            replace x1 := cell_keep x1 hb1
            replace RG := Lib.hid (row_keepB RG.out hb1)
            replace RX := Lib.hid (row_keepB RX.out hb1)
            replace GG := Lib.hid (GG.out.below hb1)
            replace GX := Lib.hid (GX.out.below hb1)
            replace GY := Lib.hid (GY.out.below hb1)
            replace SU := Lib.hid (SU.out.belowB hb1)
            replace BB := Lib.hid (below_step BB.out hb1)
            obtain ⟨y0, y1, -, -⟩ := row2 hr2
            have RY := Lib.hid hr2
            clear hW2 hp2 hr2 hb1
            go_upto_region 14 with (go_at_call 15; refine (KP.out _ _ _ GX.out GY.out).mono ?_; rintro e w9 ⟨rfl, hb1⟩; replace g0 := cell_keep g0 hb1; replace g1 := cell_keep g1 hb1; replace x0 := cell_keep x0 hb1; replace x1 := cell_keep x1 hb1; replace y0 := cell_keep y0 hb1; replace y1 := cell_keep y1 hb1; replace RG := Lib.hid (row_keepB RG.out hb1); replace RX := Lib.hid (row_keepB RX.out hb1); replace RY := Lib.hid (row_keepB RY.out hb1); replace GG := Lib.hid (GG.out.below hb1); replace GX := Lib.hid (GX.out.below hb1); replace GY := Lib.hid (GY.out.below hb1); replace SU := Lib.hid (SU.out.belowB hb1); replace BB := Lib.hid (below_step BB.out hb1); clear hb1)
            obtain ⟨wz, hwz⟩ : ∃ r, r = w9 := ⟨_, rfl⟩
            subst hwz
            clear GY RY y0 y1
            refine rol_run (by kernel_rfl) [[], [0], [], [2], [0, 1], [0, 1, 2, 3, 4]] (by kernel_rfl) [89, 90, 91, 92, 13, 14] [[], [0], [], [2], [1], [3]] [0, 0, 0, 0, 0, 0] [0, 0, 0, 0, 0, 0] [1000, 1000, 1000, 1000, 1000, 1000] [.val 89 (.pointer (some ⟨pG, 1, none⟩)), .val 90 (.slice bG mE dG), .val 91 (.pointer (some ⟨pX, 1, none⟩)), .val 92 (.slice bX nR dX), .val 13 (.slice bG mE dG), .val 14 (.slice bX nR dX)] (by kernel_rfl) ?_ (wz.heap.size) (wz.heap.size) rfl (Below.refl _ _) rfl (fun _ => 0) ?_ ?_ ?_
            · intro j hj
              have hj3 : j < 6 := hj
              have hj2 : j = 0 ∨ j = 1 ∨ j = 2 ∨ j = 3 ∨ j = 4 ∨ j = 5 := by omega
              clear hj hj3
              rcases hj2 with rfl | rfl | rfl | rfl | rfl | rfl
              · exact trivial
              · exact trivial
              · exact trivial
              · exact trivial
              · exact trivial
              · exact trivial
            · intro j hj0 hj
              exact absurd hj (Nat.not_lt.2 hj0)
            · intro i hi a wx who hG hF
              have hz : a.tmps.size = 112 := hG.size
              have hi3 : i < 6 := hi
              have hi2 : i = 0 ∨ i = 1 ∨ i = 2 ∨ i = 3 ∨ i = 4 ∨ i = 5 := by omega
              clear hi hi3
              rcases hi2 with rfl | rfl | rfl | rfl | rfl | rfl
              · exact rol_val rfl rfl rfl (by rw [hz]; decide) (ex_field rfl (eval_slot ((hG.slots 3 (by decide)).trans rfl)) (by go_simp)) hG.below
              · exact rol_val rfl rfl rfl (by rw [hz]; decide) (ex_load rfl (eval_slot (hF 0 (by decide))) (ld_ints (cell_keep g1 hG.below))) hG.below
              · exact rol_val rfl rfl rfl (by rw [hz]; decide) (ex_field rfl (eval_slot ((hG.slots 8 (by decide)).trans rfl)) (by go_simp)) hG.below
              · exact rol_val rfl rfl rfl (by rw [hz]; decide) (ex_load rfl (eval_slot (hF 2 (by decide))) (ld_ints (cell_keep x1 hG.below))) hG.below
              · exact rol_val rfl rfl rfl (by rw [hz]; decide) (ex_move (Or.inr rfl) (eval_slot (hF 1 (by decide)))) hG.below
              · exact rol_val rfl rfl rfl (by rw [hz]; decide) (ex_move (Or.inr rfl) (eval_slot (hF 3 (by decide)))) hG.below
            · intro a wx who hG hF
              have fv13 : a.tmps.getD 13 undef = .slice bG mE dG := eval_slot (s := 13) (hF 4 (of_decide_eq_true (by kernel_rfl)) (of_decide_eq_true (by kernel_rfl)))
              have fv14 : a.tmps.getD 14 undef = .slice bX nR dX := eval_slot (s := 14) (hF 5 (of_decide_eq_true (by kernel_rfl)) (of_decide_eq_true (by kernel_rfl)))
              have hbx := hG.below
              have hnx := hG.new
              rw [hG.frame]
              simp only [List.foldl_cons, List.foldl_nil, List.setIfInBounds_toArray, List.set_cons_zero, List.set_cons_succ]
              generalize a.tmps.getD 89 undef = u89
              generalize a.tmps.getD 90 undef = u90
              generalize a.tmps.getD 91 undef = u91
              generalize a.tmps.getD 92 undef = u92
              rw [fv13]
              rw [fv14]
              clear hF hG fv13 fv14
              obtain ⟨wy, hwy⟩ : ∃ r, r = wx := ⟨_, rfl⟩
              subst hwy
              replace g0 := cell_keep g0 hbx
              replace g1 := cell_keep g1 hbx
              replace x0 := cell_keep x0 hbx
              replace x1 := cell_keep x1 hbx
              replace RG := Lib.hid (row_keepB RG.out hbx)
              replace RX := Lib.hid (row_keepB RX.out hbx)
              replace GG := Lib.hid (GG.out.below hbx)
              replace GX := Lib.hid (GX.out.below hbx)
              replace SU := Lib.hid (SU.out.belowB hbx)
              replace BB := Lib.hid (below_step BB.out hbx)
              have SR := Lib.hid (gra_snd GX.out); have SL := Lib.hid (gra_snd GG.out)
              clear hbx hnx
              go_upto_region 17 with fail
              clear GG
              go_upto_region 19 with (first
                  | (go_at_call 24; refine (refminus_any _ _ _ _ _ (by first | exact SL.out | exact SR.out) (by first | exact SR.out | exact SL.out) (by first | (rw [HME.out]; omega) | (rw [HNR.out]; omega))).mono ?_; rintro e w1 ⟨v1, rfl, hrow, hb1⟩; replace g0 := cell_keep g0 hb1; replace g1 := cell_keep g1 hb1; replace x0 := cell_keep x0 hb1; replace x1 := cell_keep x1 hb1; replace RG := Lib.hid (row_keepB RG.out hb1); replace RX := Lib.hid (row_keepB RX.out hb1); replace GX := Lib.hid (GX.out.below hb1); replace SU := Lib.hid (SU.out.belowB hb1); replace SR := Lib.hid (SR.out.belowB hb1); replace SL := Lib.hid (SL.out.belowB hb1); replace BB := Lib.hid (below_step BB.out hb1); first | (rw [HDM.out] at hrow; obtain ⟨aA, cA, rfl, hd⟩ := intsR hrow HND.out; have SA := Lib.hid hd; clear hrow hd hb1) | (rw [HSB.out] at hrow; obtain ⟨aB, cB, rfl, hd⟩ := intsR (l := []) hrow (n := 0) rfl; clear hrow hd hb1))
                  | (go_at_call 23; refine (KI.out _ _ _ SU.out SA.out).mono ?_; rintro e w9 ⟨rfl, hb1⟩; replace g0 := cell_keep g0 hb1; replace g1 := cell_keep g1 hb1; replace x0 := cell_keep x0 hb1; replace x1 := cell_keep x1 hb1; replace RG := Lib.hid (row_keepB RG.out hb1); replace RX := Lib.hid (row_keepB RX.out hb1); replace GX := Lib.hid (GX.out.below hb1); replace SU := Lib.hid (SU.out.belowB hb1); replace SR := Lib.hid (SR.out.belowB hb1); replace SL := Lib.hid (SL.out.belowB hb1); replace SA := Lib.hid (SA.out.belowB hb1); replace BB := Lib.hid (below_step BB.out hb1); clear hb1))
              obtain ⟨x0, x1, -, -⟩ := row2 RX.out
              obtain ⟨g0, g1, ff0, ff1⟩ := row2 RG.out
              go_upto_region 4 with fail
              clear x0 x1
              obtain ⟨WY, hWY⟩ : ∃ r, (w1.setCell ⟨pG, 0, none⟩ (.slice aX nM cX)).setCell ⟨pG, 1, none⟩ (.slice bX nR dX) = r := ⟨_, rfl⟩
              have hRI := RG.out
              have hRN := row2_set hRI (.slice aX nM cX) (.slice bX nR dX)
              have hGX := Gra.set (a' := aX) (n' := nM) (c' := cX) (b' := bX) (m' := nR) (d' := dX) GX.out hRI
              have hBN := (BB.out.setCell (p := ⟨pG, 0, none⟩) LG.out (.slice aX nM cX)).setCell (p := ⟨pG, 1, none⟩) LG.out (.slice bX nR dX)
              rw [hWY] at hRN hBN hGX ⊢
              clear hWY hRI ff0 ff1 g0 g1
              replace GX := Lib.hid hGX
              replace RG := Lib.hid hRN
              replace BB := Lib.hid hBN
              clear hRN hBN hGX
              obtain ⟨g0, g1, -, -⟩ := row2 RG.out
              go_wp2
              go_roundw
              case rel => exact ⟨k + 1, nM, nR, M, R, aX, bX, cX, dX, by omega, by go_num, HOK2, HRM, HNM, HNR, by omega, HT2, HF2, RG, GX, BB⟩
              case measure => simp [numR]; omega
      · replace BB := BB
        go_wp2_with (go_at_call 18; refine (gawake_any _).mono ?_; rintro e w9 ⟨rfl, hb1⟩; replace BB := Lib.hid (below_step BB.out hb1); clear hb1)
        go_ret
        exact ⟨rfl, BB.out⟩
    · replace BB := BB
      go_wp2_with (go_at_call 18; refine (gawake_any _).mono ?_; rintro e w9 ⟨rfl, hb1⟩; replace BB := Lib.hid (below_step BB.out hb1); clear hb1)
      go_ret
      exact ⟨rfl, BB.out⟩

theorem own : ownKnob Try.prog.godebug = none := by kernel_rfl
theorem laidOut : laidOutB Try.prog = true := by kernel_rfl

set_option maxRecDepth 100000 in
theorem lifted (os : Os) (started : os.Started) (H : Type) (enc : TypeId × Value → H) :
    ReturnsInHanded {} Try.checked os 6 .any (Rows.reachGoesSpec.pre6 enc Try.prog Try.f6 Rows.reachGoesRow.domain false) (Rows.reachGoesSpec.post enc Try.prog Try.f6 false true false false) := by
  refine returnsInHanded_of_change (C := Try.checked) own started (by kernel_rfl) Try.func6
    (ChangeSpec.witness6 (enc := enc) (C := Try.checked) false ⟨#[], #[.slice none 0 0], []⟩ 8 (by kernel_rfl) (by kernel_rfl) (by kernel_rfl) (by kernel_rfl)) ?_
  intro W base args ds gs before hval0 hW hcnd _
  have hval : ∀ (j : Nat) t v, Try.f6.params[j]? = some t → args[j]? = some v → Value.okWide Try.prog W .any base t v := hval0
  have hW' := hW
  obtain ⟨p, q, hA0, hV, rfl, hfz, hnd⟩ := hW
  have hA : DataW.TrodAll enc Try.prog W 0 (fun _ => true) true Try.f6.params.toList args.toList ds p := hA0
  rw [Try.params6] at hA hval
  obtain ⟨v0, vs0, d0, ds0, p0, q0, hargs, rfl, rfl, h0, r0⟩ := trodAll_cons hA
  obtain ⟨rfl, rfl, rfl⟩ := trodAll_nil r0
  obtain rfl : args = #[v0] := by cases args; simp_all
  obtain ⟨rfl, rfl⟩ := trodVars_none hV
  obtain ⟨a0, len0, cap0, rfl⟩ := okWide_slice Try.underlying47 (hval 0 47 v0 rfl rfl)
  have k0 := h0
  have lt0 : ∀ x ∈ p0, x.block < W.heap.size := by obtain ⟨m, hm⟩ := k0; exact DataW.trod_lt m _ _ _ hm
  obtain ⟨z0, w0⟩ : ∃ zs, U16s W (.slice a0 len0 cap0) zs ∧ ∀ e ∈ zs, fitU16 e := by
    obtain ⟨fuel, hf⟩ := h0
    exact u16s_open (by simpa [Value.cells] using hf)
  clear hA0 hval0
  refine (walk _ z0 W w0).mono fun e W' ⟨he, bel⟩ => ?_
  subst he
  exact ⟨_, rfl, _, _, _, [], _, [], hW', trodAll_mk1 (shut_bool Try.underlying4 _), (trodAll_cons_mk (Below.trod laidOut (by kernel_rfl) (of_decide_eq_true (by kernel_rfl)) k0 bel lt0) trodAll_mk0), rfl, bel.frame _, fun h => by cases h⟩

-- the given statement
theorem proved : Rows.ReachGoesSaid :=
  OpenClaim.holds_of_wide 6 Try.f6 rfl rfl rfl rfl rfl rfl rfl ⟨rfl, rfl, rfl, rfl, rfl⟩ rfl rfl rfl rfl rfl (by kernel_rfl) Try.func6 (by kernel_rfl)
    (of_decide_eq_true (by kernel_rfl)) (by unfold Func.isWrapper; first | (rw [if_pos (by decide +kernel)]; kernel_rfl) | (rw [if_neg (by decide +kernel)]; exact ⟨rfl, rfl⟩))
    (fun os started H enc _ => lifted os started H enc)
end Go.Proofs.Ytfkbpkjejnpaiaa.reachGoes
