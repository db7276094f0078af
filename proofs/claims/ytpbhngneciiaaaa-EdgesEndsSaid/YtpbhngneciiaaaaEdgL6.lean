/- Of every edges (no more than are looked at): there are no more ends than twice the pairs; a pair of ends that are there adds none; no condition. -/
import Derived.Test.YtpbhngneciiaaaaRows
import Derived.Test.YtpbhngneciiaaaaEdgP
import Derived.ProofKit
import Derived.OpenShut
import Derived.ShutString
import Derived.ChangeOld
namespace Go.Proofs.Ytpbhngneciiaaaa.edgesEnds
open Go.ChangeShapes Go.WideShapes Go.ChangeAt Go.RowKit
open Go.ChangeMaps (open_string shut_string)
set_option maxRecDepth 100000
set_option linter.unusedVariables false

theorem fit_add {x : List Ed} {f t : Int} (hx : ∀ e ∈ x, fitE e) (hf : fitI f) (ht : fitI t) : ∀ e ∈ addL x f t, fitE e := by
  intro e he
  unfold addL at he
  split at he
  · rename_i h
    have hm : mayE x f t = true := by
      cases hm : mayE x f t
      · unfold addK at h; rw [hm] at h; simp at h
      · rfl
    have hb := many_bd (mayE_ok hm).1 f t
    rcases mem_with.1 he with ⟨k, _⟩ | ⟨rfl, _⟩ | ⟨k, _⟩
    · exact hx e k
    · exact ⟨hf, ht, by have h1 := hb.1; have h2 : manyE x f t ≤ 1099511627776 := hb.2; constructor <;> simp only <;> omega⟩
    · exact hx e k
  · cases he
theorem ends_add {x : List Ed} {f t : Int} (hx : okE x = true) (hf : f = -1 ∨ f ∈ metE x) (ht : t ∈ metE x) :
    (addK x f t = 0 ∨ addK x f t = 4) ∧ (addK x f t = 0 → endsV (addL x f t) = (endsE x : Int) ∧ chkE (addL x f t) = 0) := by
  have ho := (okE_iff.1 hx).1
  have h0 : ∀ z, z ∈ metE x → 0 ≤ z := fun z hz => by
    obtain ⟨e, he, ⟨h1, h2⟩ | h⟩ := (metE_mem _ _).1 hz
    · omega
    · have := oneE_iff.1 (ho e he); omega
  have hf0 : -1 ≤ f := by rcases hf with h | h
                          · omega
                          · have := h0 f h; omega
  have hm : mayE x f t = true := mayE_of hx hf0 (h0 t ht)
  have hK : addK x f t = if manyE x f t = topE then 4 else 0 := by unfold addK; rw [hm]; rfl
  refine ⟨?_, fun h => ?_⟩
  · rw [hK]; split
    · exact .inr rfl
    · exact .inl rfl
  · have hb := many_bd hx f t
    have hT : ¬ manyE x f t = topE := fun e => by rw [hK, if_pos e] at h; cases h
    have hA : addL x f t = withE x (f, t, manyE x f t + 1) := by unfold addL; rw [if_pos h]
    have hok : okE (withE x (f, t, manyE x f t + 1)) = true := with_ok hx hf0 (h0 t ht) (by show manyE x f t + 1 ≤ topE; omega)
    rw [hA]
    unfold endsV chkE
    rw [hok]
    exact ⟨by simp only [if_true]; rw [ends_with hf ht (by omega)], rfl⟩
theorem cast_mod (a : Int) (n : Nat) (h : 0 ≤ a) : a.tmod (n : Int) = ((a.toNat % n : Nat) : Int) := by
  rw [Int.tmod_eq_emod_of_nonneg h, Int.natCast_emod, Int.toNat_of_nonneg h]
theorem conv_u8 (z : Int) (h0 : 0 ≤ z) (h1 : z ≤ 255) (w : World) : Sem.run Try.prog (Go.convert 5 3 (.int .u8 z)) w = .ok (.int .i64 z) w := by
  go_simp
  rw [IntKind.wrap_i64]; omega
theorem rem_int (a : Int) (n i : Nat) (hn : 0 < n) (hi : i < n) (hb : n ≤ 1000) (h : a.tmod (n : Int) = (i : Int)) (w : World) : Sem.run Try.prog (binOp .rem 3 (.int .i64 a) (.int .i64 (n : Int))) w = .ok (.int .i64 (i : Int)) w := by
  have hz : ¬ n = 0 := by omega
  go_simp
theorem quo_u8 (a b : Int) (h0 : 0 ≤ a) (h1 : a ≤ 255) (h : a / 2 = b) (w : World) : Sem.run Try.prog (binOp .quo 5 (.int .u8 a) (.int .u8 2)) w = .ok (.int .u8 b) w := by
  subst h
  go_simp
  rw [Int.tdiv_eq_ediv_of_nonneg h0, IntKind.wrap_u8]; omega
theorem to_met {x : List Ed} {k : Nat} (h : k < x.length) : (x.getD k zE).2.1 ∈ metE x := (metE_mem _ _).2 ⟨_, ed_mem h, .inr rfl⟩
set_option maxRecDepth 100000 in
set_option maxHeartbeats 6400000 in
theorem walk (U : Value) (l : List Ed) (a : Int) (w : World) (hU : Eds w U l ∧ ∀ e ∈ l, fitE e) (hf : (Lit.int .u8 a).wf = true) :
    Calls Try.prog 8 #[U, .int .u8 a] w fun e w' => e = .returned (.bool true) ∧ Below w.heap.size w w' := by
  obtain ⟨hU, fU⟩ := hU
  obtain ⟨ua, uc, rfl, -⟩ := hU.ex
  have k0 := fun V w h => efew_any V l w h
  have hx40 := fewE_len l
  obtain ⟨x, hx⟩ : ∃ x, fewE l = x := ⟨_, rfl⟩
  have fX : ∀ e ∈ x, fitE e := by rw [← hx]; exact fun e he => fU e (List.mem_of_mem_take he)
  obtain ⟨n, hn⟩ : ∃ n, x.length = n := ⟨_, rfl⟩
  rw [hx] at k0 hx40
  rw [hn] at k0 hx40
  obtain ⟨ln, hln⟩ : ∃ ln, l.length = ln := ⟨_, rfl⟩
  rw [hln] at hU ⊢
  have hsm : x.length ≤ 1000000 := by rw [hn]; omega
  have SU := Lib.hid hU; have HN := Lib.hid hn; have B := Lib.hid (Below.refl w.heap.size w); have FX := Lib.hid fX; have HSM := Lib.hid hsm
  clear hU hx hn hln fU fX hsm
  obtain ⟨f0, f1⟩ := bounds_u8 hf
  have k1 := fun V w h => ends_any V x w h HSM.out FX.out
  unfold endsV chkE at k1
  clear hf
  go_enter Try.func8, Try.ntmps8
  go_upto_region 2 with (go_at_call 9; refine (k0 _ _ SU.out).mono ?_; rintro e w1 ⟨a1, c1, rfl, hN, rfl⟩; have SX := Lib.hid hN; clear hN k0)
  obtain ⟨o, ho⟩ : ∃ o, okE x = o := ⟨_, rfl⟩
  rw [ho] at k1
  cases o
  · simp only [Bool.false_eq_true, if_false] at k1
    clear ho
    go_wp2_with (first
      | (go_at_call 13; refine (k1 _ _ SX.out).mono ?_; rintro e w2 ⟨rfl, hb2⟩; replace SX := Lib.hid (SX.out.below hb2); replace B := Lib.hid (below_step B.out hb2); clear hb2 k1)
      | (go_at_call 16; refine (eawake_any _).mono ?_; rintro e w9 ⟨rfl, hb9⟩; replace B := Lib.hid (below_step B.out hb9); clear hb9))
    go_ret
    exact ⟨rfl, B.out⟩
  · simp only [if_true] at k1
    have hle := metE_len x
    have hze := ends_zero (l := x)
    have hee : endsE x = (metE x).length := rfl
    rw [← hee, HN.out] at hle
    obtain ⟨N0, hN0⟩ : ∃ z, endsE x = z := ⟨_, rfl⟩
    rw [hN0] at k1 hle hze
    have hz2 : N0 = 0 ↔ n = 0 := hze.trans (by rw [← HN.out]; exact List.length_eq_zero_iff.symm)
    go_upto_region 5 with (go_at_call 13; refine (k1 _ _ SX.out).mono ?_; rintro e w2 ⟨rfl, hb2⟩; replace SX := Lib.hid (SX.out.below hb2); replace B := Lib.hid (below_step B.out hb2); clear hb2 k1)
    by_cases hn0 : n = 0
    · have e0 := hz2.2 hn0
      subst hn0 e0
      clear hle hze hz2 hee hN0 ho
      go_wp2_with (go_at_call 16; refine (eawake_any _).mono ?_; rintro e w9 ⟨rfl, hb9⟩; replace B := Lib.hid (below_step B.out hb9); clear hb9)
      go_ret
      exact ⟨rfl, B.out⟩
    · have hp : 0 < n := by omega
      have hp0 : 0 < N0 := by have : N0 ≠ 0 := fun e => hn0 (hz2.1 e); omega
      have d1 : decide (2 * (n : Int) < (N0 : Int)) = false := by simp; omega
      have d2 : decide ((N0 : Int) < 0) = false := by simp
      have d3 : ((N0 : Int) == 0) = false := by simp; omega
      have d4 : ((n : Int) == 0) = false := by simp; omega
      have hbn : n ≤ 40 := hx40
      obtain ⟨i1, hi1⟩ : ∃ i, a.toNat % n = i := ⟨_, rfl⟩
      obtain ⟨i2, hi2⟩ : ∃ i, (a / 2).toNat % n = i := ⟨_, rfl⟩
      have hl1 : i1 < n := by rw [← hi1]; exact Nat.mod_lt _ hp
      have hl2 : i2 < n := by rw [← hi2]; exact Nat.mod_lt _ hp
      have hr1 : a.tmod (n : Int) = (i1 : Int) := by rw [← hi1]; exact cast_mod a n f0
      have hr2 : (a / 2).tmod (n : Int) = (i2 : Int) := by rw [← hi2]; exact cast_mod _ n (by omega)
      obtain ⟨a2, ha2⟩ : ∃ z, a / 2 = z := ⟨_, rfl⟩
      rw [ha2] at hr2
      have g0 : 0 ≤ a2 := by omega
      have g1 : a2 ≤ 255 := by omega
      have cv := fun (z : Int) (h0 : 0 ≤ z) (h1 : z ≤ 255) (w : World) => conv_u8 z h0 h1 w
      have rm1 := fun (w : World) => rem_int a n i1 hp hl1 (by omega) hr1 w
      have rm2 := fun (w : World) => rem_int a2 n i2 hp hl2 (by omega) hr2 w
      have qu := fun (w : World) => quo_u8 a a2 f0 f1 ha2 w
      have htm1 := to_met (x := x) (k := i1) (by rw [HN.out]; exact hl1)
      have htm2 := to_met (x := x) (k := i2) (by rw [HN.out]; exact hl2)
      have hfx1 := FX.out _ (ed_mem (k := i1) (by rw [HN.out]; exact hl1))
      have hfx2 := FX.out _ (ed_mem (k := i2) (by rw [HN.out]; exact hl2))
      obtain ⟨b, off, hab, -, hc0, hc1, hc2⟩ := SX.out.at i1 (by rw [HN.out]; exact hl1)
      obtain ⟨b', off', hab', -, hd0, hd1, hd2⟩ := SX.out.at i2 (by rw [HN.out]; exact hl2)
      rw [hab] at hab'
      injection hab' with hab'
      injection hab' with q1 q2
      subst q1 q2 hab
      obtain ⟨X, hX⟩ : ∃ z, x.getD i1 zE = z := ⟨_, rfl⟩
      obtain ⟨Y, hY⟩ : ∃ z, x.getD i2 zE = z := ⟨_, rfl⟩
      rw [hX] at hc0 hc1 hc2 htm1 hfx1
      rw [hY] at hd0 hd1 hd2 htm2 hfx2
      obtain ⟨x1, x2, x3⟩ := X
      obtain ⟨y1, y2, y3⟩ := Y
      simp only at hc0 hc1 hc2 htm1 hd0 hd1 hd2 htm2
      obtain ⟨pa1, pa2⟩ := ends_add ho (.inr htm1) htm2
      obtain ⟨pb1, pb2⟩ := ends_add ho (.inl rfl) htm1 (f := -1)
      rw [hN0] at pa2 pb2
      have k2 := fun V w h => add_any V x x2 y2 w h HSM.out
      have k3 := fun V w h => add_any V x (-1) x2 w h HSM.out
      have fA := fit_add FX.out hfx1.2.1 hfx2.2.1
      have fB := fit_add FX.out (show fitI (-1) from ⟨by decide, by decide⟩) hfx1.2.1
      have hla := addL_len x x2 y2
      have hlb := addL_len x (-1) x2
      rw [HN.out] at hla hlb
      have sA : (addL x x2 y2).length ≤ 1000000 := by omega
      have sB : (addL x (-1) x2).length ≤ 1000000 := by omega
      have k4 := fun V w h => ends_any V (addL x x2 y2) w h sA fA
      have k5 := fun V w h => ends_any V (addL x (-1) x2) w h sB fB
      obtain ⟨A, hA⟩ : ∃ z, addL x x2 y2 = z := ⟨_, rfl⟩
      obtain ⟨BB, hB⟩ : ∃ z, addL x (-1) x2 = z := ⟨_, rfl⟩
      obtain ⟨KA, hKA⟩ : ∃ z, addK x x2 y2 = z := ⟨_, rfl⟩
      obtain ⟨KB, hKB⟩ : ∃ z, addK x (-1) x2 = z := ⟨_, rfl⟩
      rw [hA] at k2 k4 pa2 hla
      rw [hB] at k3 k5 pb2 hlb
      rw [hKA] at k2 pa1 pa2
      rw [hKB] at k3 pb1 pb2
      obtain ⟨ma, hma⟩ : ∃ z, A.length = z := ⟨_, rfl⟩
      obtain ⟨mb, hmb⟩ : ∃ z, BB.length = z := ⟨_, rfl⟩
      rw [hma] at k2 hla
      rw [hmb] at k3 hlb
      obtain ⟨VA, hVA⟩ : ∃ z, endsV A = z := ⟨_, rfl⟩
      obtain ⟨CA, hCA⟩ : ∃ z, chkE A = z := ⟨_, rfl⟩
      obtain ⟨VB, hVB⟩ : ∃ z, endsV BB = z := ⟨_, rfl⟩
      obtain ⟨CB, hCB⟩ : ∃ z, chkE BB = z := ⟨_, rfl⟩
      rw [hVA, hCA] at k4 pa2
      rw [hVB, hCB] at k5 pb2
      have HMA := Lib.hid hma; have HMB := Lib.hid hmb; have PA1 := Lib.hid pa1; have PA2 := Lib.hid pa2; have PB1 := Lib.hid pb1; have PB2 := Lib.hid pb2
      clear hze hz2 hle ho hi1 hi2 hr1 hr2 ha2 htm1 htm2 hfx1 hfx2 hX hY fA fB sA sB hA hB hKA hKB hma hmb hVA hCA hVB hCB pa1 pa2 pb1 pb2 hN0 hee
      go_upto_region 9 with fail
      refine rol_run (by kernel_rfl) [[], [], [1], [], [3], [1, 2, 3, 4], [0, 1, 2, 3, 4, 5], [0, 1, 2, 3, 4, 5, 6], [], [], [9], [9, 10], [], [12], [9, 10, 11, 12, 13], [8, 9, 10, 11, 12, 13, 14], [8, 9, 10, 11, 12, 13, 14, 15], [], [], [0, 1, 2, 3, 4, 5, 6, 7, 17, 18], [0, 1, 2, 3, 4, 5, 6, 7, 8, 9, 10, 11, 12, 13, 14, 15, 16, 17, 18, 19]] (by kernel_rfl) [48, 49, 50, 51, 52, 53, 54, 55, 56, 57, 58, 59, 60, 61, 62, 63, 64, 7, 8] [[], [], [1], [], [3], [2, 4], [0, 5], [6], [], [], [9], [10], [], [12], [11, 13], [8, 14], [15], [], [], [17, 7], [18, 16]] [0, 0, 0, 0, 0, 0, 0, 0, 0, 0, 0, 0, 0, 0, 0, 0, 0, 1, 2, 1, 2] [0, 0, 0, 0, 0, 0, 0, 0, 0, 0, 0, 0, 0, 0, 0, 0, 0, 1, 2, 1, 2] [1000, 1000, 1000, 1000, 1000, 1000, 1000, 1000, 1000, 1000, 1000, 1000, 1000, 1000, 1000, 1000, 1000, 19, 20, 1000, 1000] [.val 48 (.slice (some ⟨b, off, none⟩) n c1), .val 49 (.int .u8 a), .val 50 (.int .i64 a), .val 51 (.slice (some ⟨b, off, none⟩) n c1), .val 52 (.int .i64 (n : Int)), .val 53 (.int .i64 (i1 : Int)), .val 54 (.pointer (some ⟨b, off + i1 * 3, none⟩)), .val 55 (.agg #[.int .i64 x1, .int .i64 x2, .int .i64 x3]), .val 56 (.slice (some ⟨b, off, none⟩) n c1), .val 57 (.int .u8 a), .val 58 (.int .u8 a2), .val 59 (.int .i64 a2), .val 60 (.slice (some ⟨b, off, none⟩) n c1), .val 61 (.int .i64 (n : Int)), .val 62 (.int .i64 (i2 : Int)), .val 63 (.pointer (some ⟨b, off + i2 * 3, none⟩)), .val 64 (.agg #[.int .i64 y1, .int .i64 y2, .int .i64 y3]), .mem 7 (cell3P w2.heap.size (.int .i64 0) (.int .i64 0) (.int .i64 0)), .mem 8 (cell3P w2.heap.size (.int .i64 0) (.int .i64 0) (.int .i64 0)), .mem 7 (cell3P w2.heap.size (.int .i64 x1) (.int .i64 x2) (.int .i64 x3)), .mem 8 (cell3P w2.heap.size (.int .i64 y1) (.int .i64 y2) (.int .i64 y3))] (by kernel_rfl) ?_ (w2.heap.size) (w2.heap.size) rfl (Below.refl _ _) rfl (fun _ => 0) ?_ ?_ ?_
      · intro j hj
        have hj3 : j < 21 := hj
        have hj2 : j = 0 ∨ j = 1 ∨ j = 2 ∨ j = 3 ∨ j = 4 ∨ j = 5 ∨ j = 6 ∨ j = 7 ∨ j = 8 ∨ j = 9 ∨ j = 10 ∨ j = 11 ∨ j = 12 ∨ j = 13 ∨ j = 14 ∨ j = 15 ∨ j = 16 ∨ j = 17 ∨ j = 18 ∨ j = 19 ∨ j = 20 := by omega
        clear hj hj3
        rcases hj2 with rfl | rfl | rfl | rfl | rfl | rfl | rfl | rfl | rfl | rfl | rfl | rfl | rfl | rfl | rfl | rfl | rfl | rfl | rfl | rfl | rfl
        · exact trivial
        · exact trivial
        · exact trivial
        · exact trivial
        · exact trivial
        · exact trivial
        · exact trivial
        · exact trivial
        · exact trivial
        · exact trivial
        · exact trivial
        · exact trivial
        · exact trivial
        · exact trivial
        · exact trivial
        · exact trivial
        · exact trivial
        · exact cell3P_near
        · exact cell3P_near
        · exact cell3P_near
        · exact cell3P_near
      · intro j hj0 hj
        exact absurd hj (Nat.not_lt.2 hj0)
      · intro i hi A0 wx who hG hF
        have hz : A0.tmps.size = 125 := hG.size
        have hi3 : i < 21 := hi
        have hi2 : i = 0 ∨ i = 1 ∨ i = 2 ∨ i = 3 ∨ i = 4 ∨ i = 5 ∨ i = 6 ∨ i = 7 ∨ i = 8 ∨ i = 9 ∨ i = 10 ∨ i = 11 ∨ i = 12 ∨ i = 13 ∨ i = 14 ∨ i = 15 ∨ i = 16 ∨ i = 17 ∨ i = 18 ∨ i = 19 ∨ i = 20 := by omega
        clear hi hi3
        rcases hi2 with rfl | rfl | rfl | rfl | rfl | rfl | rfl | rfl | rfl | rfl | rfl | rfl | rfl | rfl | rfl | rfl | rfl | rfl | rfl | rfl | rfl
        · exact rol_val rfl rfl rfl (by rw [hz]; decide) (ex_move (Or.inl rfl) (eval_slot ((hG.slots 0 (by decide)).trans rfl))) hG.below
        · exact rol_val rfl rfl rfl (by rw [hz]; decide) (ex_move (Or.inl rfl) (eval_slot ((hG.slots 1 (by decide)).trans rfl))) hG.below
        · exact rol_val rfl rfl rfl (by rw [hz]; decide) (ex_conv rfl (eval_slot (hF 1 (by decide))) (cv a f0 f1 _)) hG.below
        · exact rol_val rfl rfl rfl (by rw [hz]; decide) (ex_move (Or.inl rfl) (eval_slot ((hG.slots 0 (by decide)).trans rfl))) hG.below
        · exact rol_val rfl rfl rfl (by rw [hz]; decide) (ex_len rfl (eval_slot (hF 3 (by decide))) (by go_simp)) hG.below
        · exact rol_val rfl rfl rfl (by rw [hz]; decide) (ex_bin rfl (eval_slot (hF 2 (by decide))) (eval_slot (hF 4 (by decide))) (by go_simp) (rm1 _)) hG.below
        · exact rol_val rfl rfl rfl (by rw [hz]; decide) (ex_index rfl (eval_slot (hF 0 (by decide))) (eval_slot (hF 5 (by decide))) (idx_ed hl1)) hG.below
        · exact rol_val rfl rfl rfl (by rw [hz]; decide) (ex_load rfl (eval_slot (hF 6 (by decide))) (ld_ed (cell_keep hc0 hG.below) (cell_keep hc1 hG.below) (cell_keep hc2 hG.below))) hG.below
        · exact rol_val rfl rfl rfl (by rw [hz]; decide) (ex_move (Or.inl rfl) (eval_slot ((hG.slots 0 (by decide)).trans rfl))) hG.below
        · exact rol_val rfl rfl rfl (by rw [hz]; decide) (ex_move (Or.inl rfl) (eval_slot ((hG.slots 1 (by decide)).trans rfl))) hG.below
        · exact rol_val rfl rfl rfl (by rw [hz]; decide) (ex_bin rfl (eval_slot (hF 9 (by decide))) rfl (by go_simp) (qu _)) hG.below
        · exact rol_val rfl rfl rfl (by rw [hz]; decide) (ex_conv rfl (eval_slot (hF 10 (by decide))) (cv a2 g0 g1 _)) hG.below
        · exact rol_val rfl rfl rfl (by rw [hz]; decide) (ex_move (Or.inl rfl) (eval_slot ((hG.slots 0 (by decide)).trans rfl))) hG.below
        · exact rol_val rfl rfl rfl (by rw [hz]; decide) (ex_len rfl (eval_slot (hF 12 (by decide))) (by go_simp)) hG.below
        · exact rol_val rfl rfl rfl (by rw [hz]; decide) (ex_bin rfl (eval_slot (hF 11 (by decide))) (eval_slot (hF 13 (by decide))) (by go_simp) (rm2 _)) hG.below
        · exact rol_val rfl rfl rfl (by rw [hz]; decide) (ex_index rfl (eval_slot (hF 8 (by decide))) (eval_slot (hF 14 (by decide))) (idx_ed hl2)) hG.below
        · exact rol_val rfl rfl rfl (by rw [hz]; decide) (ex_load rfl (eval_slot (hF 15 (by decide))) (ld_ed (cell_keep hd0 hG.below) (cell_keep hd1 hG.below) (cell_keep hd2 hG.below))) hG.below
        · exact rol_alloc_ed rfl rfl rfl (by rw [hz]; decide) rfl hG.below (Nat.le_refl _) hG.below.size
        · exact rol_alloc_ed rfl rfl rfl (by rw [hz]; decide) rfl hG.below (Nat.le_refl _) hG.below.size
        · exact rol_fill_ed rfl rfl rfl rfl (hF 17 (by decide)) (eval_slot (hF 7 (by decide))) hG.below (Nat.le_refl _)
        · exact rol_fill_ed rfl rfl rfl rfl (hF 18 (by decide)) (eval_slot (hF 16 (by decide))) hG.below (Nat.le_refl _)
      · intro A0 wx who hG hF
        have hb19 := hF 19 (of_decide_eq_true (by kernel_rfl)) (of_decide_eq_true (by kernel_rfl))
        have hb20 := hF 20 (of_decide_eq_true (by kernel_rfl)) (of_decide_eq_true (by kernel_rfl))
        obtain ⟨_, _, hv7, -, b7, rfl, -, -, hh7⟩ := hb19
        obtain ⟨_, _, hv8, -, b8, rfl, -, -, hh8⟩ := hb20
        have fv7 : A0.tmps.getD 7 undef = .pointer (some ⟨b7, 0, none⟩) := eval_slot hv7
        have fv8 : A0.tmps.getD 8 undef = .pointer (some ⟨b8, 0, none⟩) := eval_slot hv8
        clear hv7 hv8
        have hbx := hG.below
        have hnx := hG.new
        rw [hG.frame]
        simp only [List.foldl_cons, List.foldl_nil, List.setIfInBounds_toArray, List.set_cons_zero, List.set_cons_succ]
        generalize A0.tmps.getD 48 undef = u48
        generalize A0.tmps.getD 49 undef = u49
        generalize A0.tmps.getD 50 undef = u50
        generalize A0.tmps.getD 51 undef = u51
        generalize A0.tmps.getD 52 undef = u52
        generalize A0.tmps.getD 53 undef = u53
        generalize A0.tmps.getD 54 undef = u54
        generalize A0.tmps.getD 55 undef = u55
        generalize A0.tmps.getD 56 undef = u56
        generalize A0.tmps.getD 57 undef = u57
        generalize A0.tmps.getD 58 undef = u58
        generalize A0.tmps.getD 59 undef = u59
        generalize A0.tmps.getD 60 undef = u60
        generalize A0.tmps.getD 61 undef = u61
        generalize A0.tmps.getD 62 undef = u62
        generalize A0.tmps.getD 63 undef = u63
        generalize A0.tmps.getD 64 undef = u64
        rw [fv7]
        rw [fv8]
        clear hF hG fv7 fv8
        obtain ⟨-, c7, -, -⟩ := row3 hh7
        obtain ⟨-, c8, -, -⟩ := row3 hh8
        replace SX := Lib.hid (SX.out.below hbx); replace B := Lib.hid (below_step B.out hbx)
        clear hbx hnx hh7 hh8 cv rm1 rm2 qu
        go_upto_region 11 with (go_at_call 22; refine (k2 _ _ SX.out).mono ?_; rintro e w3 ⟨v3, rfl, hown, hb3⟩; obtain ⟨a3, c3, rfl, hE⟩ := edsO (by rw [HMA.out]; exact hown); rw [HMA.out] at hE ⊢; have S3 := Lib.hid hE; replace SX := Lib.hid (SX.out.below hb3); replace B := Lib.hid (below_step B.out hb3); replace c7 := cell_keep c7 hb3; clear hown hb3 hE k2)
        go_upto_region 12 with (go_at_call 13; refine (k4 _ _ S3.out).mono ?_; rintro e w4 ⟨rfl, hb4⟩; replace SX := Lib.hid (SX.out.below hb4); replace B := Lib.hid (below_step B.out hb4); replace c7 := cell_keep c7 hb4; clear hb4 k4)
        go_upto_region 13 with (go_at_call 22; refine (k3 _ _ SX.out).mono ?_; rintro e w5 ⟨v5, rfl, hown, hb5⟩; obtain ⟨a5, c5, rfl, hE⟩ := edsO (by rw [HMB.out]; exact hown); rw [HMB.out] at hE ⊢; have S5 := Lib.hid hE; replace B := Lib.hid (below_step B.out hb5); clear hown hb5 hE k3)
        go_upto_region 14 with (go_at_call 13; refine (k5 _ _ S5.out).mono ?_; rintro e w6 ⟨rfl, hb6⟩; replace B := Lib.hid (below_step B.out hb6); clear hb6 k5)
        rcases PA1.out with ea | ea
        · obtain ⟨ea1, ea2⟩ := PA2.out ea
          subst ea ea1 ea2
          rcases PB1.out with eb | eb
          · obtain ⟨eb1, eb2⟩ := PB2.out eb
            subst eb eb1 eb2
            go_wp2_with (go_at_call 16; refine (eawake_any _).mono ?_; rintro e w9 ⟨rfl, hb9⟩; replace B := Lib.hid (below_step B.out hb9); clear hb9)
            go_ret
            exact ⟨rfl, B.out⟩
          · subst eb
            go_wp2_with (go_at_call 16; refine (eawake_any _).mono ?_; rintro e w9 ⟨rfl, hb9⟩; replace B := Lib.hid (below_step B.out hb9); clear hb9)
            go_ret
            exact ⟨rfl, B.out⟩
        · subst ea
          go_wp2_with (go_at_call 16; refine (eawake_any _).mono ?_; rintro e w9 ⟨rfl, hb9⟩; replace B := Lib.hid (below_step B.out hb9); clear hb9)
          go_ret
          exact ⟨rfl, B.out⟩

theorem own : ownKnob Try.prog.godebug = none := by kernel_rfl
theorem laidOut : laidOutB Try.prog = true := by kernel_rfl

set_option maxRecDepth 100000 in
theorem lifted (os : Os) (started : os.Started) (H : Type) (enc : TypeId × Value → H) :
    ReturnsInHanded {} Try.checked os 8 .any (Rows.edgesEndsSpec.pre6 enc Try.prog Try.f8 Rows.edgesEndsRow.domain false) (Rows.edgesEndsSpec.post enc Try.prog Try.f8 false true false false) := by
  refine returnsInHanded_of_change (C := Try.checked) own started (by kernel_rfl) Try.func8
    (ChangeSpec.witness6 (enc := enc) (C := Try.checked) false ⟨#[], #[.slice none 0 0, .int .u8 0], []⟩ 8 (by kernel_rfl) (by kernel_rfl) (by kernel_rfl) (by kernel_rfl)) ?_
  intro W base args ds gs before hval0 hW hcnd _
  have hval : ∀ (j : Nat) t v, Try.f8.params[j]? = some t → args[j]? = some v → Value.okWide Try.prog W .any base t v := hval0
  have hW' := hW
  obtain ⟨p, q, hA0, hV, rfl, hfz, hnd⟩ := hW
  have hA : DataW.TrodAll enc Try.prog W 0 (fun _ => true) true Try.f8.params.toList args.toList ds p := hA0
  rw [Try.params8] at hA hval
  obtain ⟨v0, vs0, d0, ds0, p0, q0, hargs, rfl, rfl, h0, r0⟩ := trodAll_cons hA
  obtain ⟨v1, vs1, d1, ds1, p1, q1, rfl, rfl, rfl, h1, r1⟩ := trodAll_cons r0
  obtain ⟨rfl, rfl, rfl⟩ := trodAll_nil r1
  obtain rfl : args = #[v0, v1] := by cases args; simp_all
  obtain ⟨rfl, rfl⟩ := trodVars_none hV
  obtain ⟨a0, len0, cap0, rfl⟩ := okWide_slice Try.underlying22 (hval 0 22 v0 rfl rfl)
  have k0 := h0
  have lt0 : ∀ x ∈ p0, x.block < W.heap.size := by obtain ⟨m, hm⟩ := k0; exact DataW.trod_lt m _ _ _ hm
  obtain ⟨z0, w0⟩ : ∃ zs, Eds W (.slice a0 len0 cap0) zs ∧ ∀ e ∈ zs, fitE e := by
    obtain ⟨fuel, hf⟩ := h0
    exact eds_open (by simpa [Value.cells] using hf)
  obtain ⟨a1, rfl, rfl, rfl, w1⟩ := open_int Try.underlying5 (hval 1 5 v1 rfl rfl) h1
  clear hA0 hval0
  refine (walk _ z0 a1 W w0 w1).mono fun e W' ⟨he, bel⟩ => ?_
  subst he
  exact ⟨_, rfl, _, _, _, [], _, [], hW', trodAll_mk1 (shut_bool Try.underlying4 _), (trodAll_cons_mk (Below.trod laidOut (by kernel_rfl) (of_decide_eq_true (by kernel_rfl)) k0 bel lt0) (trodAll_cons_mk (shut_int Try.underlying5 w1) trodAll_mk0)), rfl, bel.frame _, fun h => by cases h⟩

-- the given statement
theorem proved : Rows.EdgesEndsSaid :=
  OpenClaim.holds_of_wide 8 Try.f8 rfl rfl rfl rfl rfl rfl rfl ⟨rfl, rfl, rfl, rfl, rfl⟩ rfl rfl rfl rfl rfl (by kernel_rfl) Try.func8 (by kernel_rfl)
    (of_decide_eq_true (by kernel_rfl)) (by unfold Func.isWrapper; first | (rw [if_pos (by decide +kernel)]; kernel_rfl) | (rw [if_neg (by decide +kernel)]; exact ⟨rfl, rfl⟩))
    (fun os started H enc _ => lifted os started H enc)
end Go.Proofs.Ytpbhngneciiaaaa.edgesEnds
