/- Which changes may be: of the document. -/
import Derived.Test.YtlbibgofhhdgoaaGreatLisN
namespace Go.Proofs.YtlbibgofhhdgoaaGreat
open Go.RowKit Go.Maps
set_option linter.unusedVariables false
set_option maxRecDepth 100000

theorem bin_neNil {p : Tx} {b c : Bool} {w : World} (h : decide (p = []) = b) (hc : c = !b) : Sem.run Tryz.prog (binOp .neq 9 (.string (mkB p)) (.string { data := #[] })) w = .ok (.bool c) w := by
  subst hc
  have e := nil_beq p
  rw [h] at e
  go_simp
theorem lt_none {p : Nat → Prop} : ∀ i, i < 0 → p i := fun i h => absurd h (Nat.not_lt_zero i)
theorem lt_step {p : Nat → Prop} {n : Nat} (h : ∀ i, i < n → p i) (hn : p n) : ∀ i, i < n + 1 → p i := fun i hi => by
  rcases Nat.lt_succ_iff_lt_or_eq.1 hi with k | rfl
  · exact h i k
  · exact hn
section
variable {P : Program} {ops : Array Oper} {Q : Exit → Act → World → Prop} {a a0 : Act} {w w0 : World} {who : Nat → Nat} {i B M r ro Z : Nat} {o : Oper} {S pre role : List Nat} {FF : List RLeaf}
theorem rv (ho : ops[i]? = some o) (hw : Region.wanted o (yielded ops a.tmps) = true) {s : Nat} (hd : o.dst = some s) (hz : a.tmps.size = Z) (hs : decide (s < Z) = true) {v : Value} (hr : Sem.run P (execOp a.eval o) w = .ok (.value v) w) (hG : Lane a0 S B M w0 a w) :
    wpOp P ops Q i (RPost ops i r ro (.val s v) B w0 a w who) a w := rol_val ho hw hd (by rw [hz]; exact of_decide_eq_true hs) hr hG.below
theorem hat (hF : ∀ d ∈ pre, (FF.getD d .any).holds (role.getD d 0) a w who) (d : Nat) (hm : pre.contains d = true) {s : Nat} {v : Value} (hk : FF.getD d .any = .val s v) : a.tmps[s]? = some v := by
  have h := hF d (by simpa using hm)
  rw [hk] at h; exact h
theorem ev (hF : ∀ d ∈ pre, (FF.getD d .any).holds (role.getD d 0) a w who) (d : Nat) (hm : pre.contains d = true) {s : Nat} {v : Value} (hk : FF.getD d .any = .val s v) : a.eval (.tmp s) = v := eval_slot (hat hF d hm hk)
theorem ry (ho : ops[i]? = some o) (hF : ∀ d ∈ pre, (FF.getD d .any).holds (role.getD d 0) a w who) (d : Nat) (hm : pre.contains d = true) {t : Nat} {b : Bool} (hk : FF.getD d .any = .val t (.bool b)) (hg : o.guard = some (d, b)) (he : dstOf ops d = some t) {s : Nat} (hd : o.dst = some s) (hz : a.tmps.size = Z) (hs : decide (s < Z) = true) {v : Value} (hr : Sem.run P (execOp a.eval o) w = .ok (.value v) w) (hG : Lane a0 S B M w0 a w) :
    wpOp P ops Q i (RPost ops i r ro (.val s v) B w0 a w who) a w := rv ho (want_yes hg he (hat hF d hm hk)) hd hz hs hr hG
theorem rn (ho : ops[i]? = some o) (hF : ∀ d ∈ pre, (FF.getD d .any).holds (role.getD d 0) a w who) (d : Nat) (hm : pre.contains d = true) {t : Nat} {b b' : Bool} (hk : FF.getD d .any = .val t (.bool b')) (hg : o.guard = some (d, b)) (he : dstOf ops d = some t) (hn : (b' != b) = true) {s : Nat} (hd : o.dst = some s) (hz : a.tmps.size = Z) (hs : decide (s < Z) = true) (hG : Lane a0 S B M w0 a w) :
    wpOp P ops Q i (RPost ops i r ro (.val s undef) B w0 a w who) a w := rol_val_skip ho (want_no hg he (hat hF d hm hk) (by simpa using hn)) hd (by rw [hz]; exact of_decide_eq_true hs) hG.below
theorem ru (ho : ops[i]? = some o) (hF : ∀ d ∈ pre, (FF.getD d .any).holds (role.getD d 0) a w who) (d : Nat) (hm : pre.contains d = true) {t : Nat} {b : Bool} (hk : FF.getD d .any = .val t undef) (hg : o.guard = some (d, b)) (he : dstOf ops d = some t) {s : Nat} (hd : o.dst = some s) (hz : a.tmps.size = Z) (hs : decide (s < Z) = true) (hG : Lane a0 S B M w0 a w) :
    wpOp P ops Q i (RPost ops i r ro (.val s undef) B w0 a w who) a w := rol_val_skip ho (want_undef hg he (hat hF d hm hk)) hd (by rw [hz]; exact of_decide_eq_true hs) hG.below
end

set_option maxHeartbeats 6400000 in
theorem refchanges_any (V : Value) (l : List Ch) (w : World) (h : Chs w V l) (hs : ∀ x ∈ l, smallC x) (hl : l.length ≤ 1000000) :
    Calls Tryz.prog 23 #[V] w fun e w' => e = .returned (.bool (okCs l)) ∧ Below w.heap.size w w' := by
  obtain ⟨A, c, rfl, h1, h2, -, -⟩ := h.ex
  unfold maxLen at h2
  obtain ⟨n, hn⟩ : ∃ n, l.length = n := ⟨_, rfl⟩
  rw [hn] at h1 h hl ⊢
  obtain ⟨R, hR⟩ : ∃ R, okCs l = R := ⟨_, rfl⟩
  rw [hR]
  have HR := Lib.hid (show R = chainA okCh ltC zC l from hR.symm)
  have HN := Lib.hid hn; have SU := Lib.hid h; have HS := Lib.hid hs
  clear h hn hs hR
  have e1 : ∀ args w, (callFunc 17 args).run Tryz.prog w = .ok (.enter 17 args) w := enters_of Tryz.func17 (by kernel_rfl) rfl
  have e2 : ∀ args w, (callFunc 44 args).run Tryz.prog w = .ok (.enter 44 args) w := enters_of Tryz.func44 (by kernel_rfl) rfl
  have e3 : ∀ args w, (callFunc 45 args).run Tryz.prog w = .ok (.enter 45 args) w := enters_of Tryz.func45 (by kernel_rfl) rfl
  go_enter Tryz.func23, Tryz.ntmps23
  go_wp2
  go_loopw [3] (fun i wr => ∃ k : Nat, k ≤ n ∧ i = .int .i64 k ∧ Hid (∀ j, j < k → chainB okCh ltC zC l j = true) ∧ Hid (Below w.heap.size w wr)) (fun i _ => n - (intOf i).toNat)
  case atStart => exact ⟨0, Nat.zero_le _, rfl, Lib.hid fun j hj => absurd hj (Nat.not_lt_zero j), Lib.hid (Below.refl _ _)⟩
  case round =>
    obtain ⟨k, hk, rfl, HM, HB⟩ := hrel
    by_cases hlt : k < n
    · have hkl : k < l.length := by rw [HN.out]; exact hlt
      have hkb : (k : Int) < (n : Int) := by omega
      obtain ⟨b, off, rfl, -, hc0, hc1, hc2⟩ := (SU.out.below HB.out).at k hkl
      obtain ⟨m, hm⟩ : ∃ m, k - 1 = m := ⟨_, rfl⟩
      have hp0 : wr.cell? ⟨b, off + m * 3, none⟩ = some (.string (mkB (l.getD m zC).1)) := by
        obtain ⟨b', off', e, -, q, -, -⟩ := (SU.out.below HB.out).at m (by omega)
        cases e; exact q
      have hxs := (HS.out _ (gd_in (z := zC) (show m < l.length by omega))).1
      have hst : chainB okCh ltC zC l k = (okCh (l.getD k zC) && (decide (k = 0) || ltB (l.getD m zC).1 (l.getD k zC).1)) := by unfold chainB ltC; rw [← hm]
      have hys := HS.out _ (gd_in (z := zC) hkl)
      obtain ⟨y, hy⟩ : ∃ y, l.getD k zC = y := ⟨_, rfl⟩
      rw [hy] at hc0 hc1 hc2 hst hys
      obtain ⟨y0, y1, y2⟩ := y
      obtain ⟨x0, hx⟩ : ∃ x, (l.getD m zC).1 = x := ⟨_, rfl⟩
      rw [hx] at hp0 hst hxs
      simp only at hc0 hc1 hc2 hst hys
      obtain ⟨ys0, ys1, ys2⟩ := hys
      simp only at ys0 ys1 ys2
      have kp := fun w => refpmay_b y0 w ys0
      have k1 := fun w => refvmay_b y1 w ys1
      have k2 := fun w => refvmay_b y2 w ys2
      have kc := fun w => refcmp_l x0 y0 w hxs ys0
      have hck : okCh (y0, y1, y2) = (pathB y0 && ((decide (y1 = []) || okV y1) && (decide (y2 = []) || okV y2) && !decide (y1 = y2))) := by unfold okCh okTx; simp
      rw [hck] at hst
      obtain ⟨C, hC⟩ : ∃ C, Lib.compareBytes x0 y0 = C := ⟨_, rfl⟩
      rw [hC] at kc
      have hlt3 : ltB x0 y0 = !decide (0 ≤ C) := by unfold ltB; rw [hC]; by_cases q : 0 ≤ C <;> simp [q] <;> omega
      rw [hlt3] at hst
      obtain ⟨oP, ho0⟩ : ∃ o, pathB y0 = o := ⟨_, rfl⟩
      obtain ⟨oe1, ho1⟩ : ∃ o, decide (y1 = []) = o := ⟨_, rfl⟩
      obtain ⟨ov1, ho2⟩ : ∃ o, okV y1 = o := ⟨_, rfl⟩
      obtain ⟨oe2, ho3⟩ : ∃ o, decide (y2 = []) = o := ⟨_, rfl⟩
      obtain ⟨ov2, ho4⟩ : ∃ o, okV y2 = o := ⟨_, rfl⟩
      obtain ⟨oeq, ho5⟩ : ∃ o, decide (y1 = y2) = o := ⟨_, rfl⟩
      obtain ⟨oge, ho6⟩ : ∃ o, decide (0 ≤ C) = o := ⟨_, rfl⟩
      rw [ho0, ho1, ho2, ho3, ho4, ho5, ho6] at hst
      rw [ho0] at kp; rw [ho2] at k1; rw [ho4] at k2
      obtain ⟨X, hX⟩ : ∃ X, chainB okCh ltC zC l k = X := ⟨_, rfl⟩
      obtain ⟨oz, hoz⟩ : ∃ o, decide (k = 0) = o := ⟨_, rfl⟩
      rw [hX, hoz] at hst
      have HSZ := Lib.hid (show k = 0 → X = ((oP && ((oe1 || ov1) && (oe2 || ov2) && !oeq)) && (true || !oge)) from fun q => by rw [hst, ← hoz, decide_eq_true q])
      have HSN := Lib.hid (show ¬ k = 0 → X = ((oP && ((oe1 || ov1) && (oe2 || ov2) && !oeq)) && (false || !oge)) from fun q => by rw [hst, ← hoz, decide_eq_false q])
      have HSX := Lib.hid hst; have HX := Lib.hid hX
      have HKL := Lib.hid hkl; have KP := Lib.hid kp; have K1 := Lib.hid k1; have K2 := Lib.hid k2; have KC := Lib.hid kc; have HE1 := Lib.hid ho1; have HE2 := Lib.hid ho3; have HEQ := Lib.hid ho5; have HGE := Lib.hid ho6
      have HKN := Lib.hid hlt; have HMN := Lib.hid (show m < n by omega); have HKB := Lib.hid (show k ≤ 1000000 by omega); have HNW := Lib.hid (Nat.le_refl wr.heap.size)
      have C0 := Lib.hid hc0; have C1 := Lib.hid hc1; have C2 := Lib.hid hc2; have Q0 := Lib.hid hp0
      clear hst hkl kp k1 k2 kc hy hx ho0 ho1 ho2 ho3 ho4 ho5 ho6 hck ys0 ys1 ys2 hxs hc0 hc1 hc2 hp0 hC hlt3 hX hoz
      go_upto_region 4 with fail
      go_cut [82] from 10 to 82 (fun s82 wx => s82 = .bool (!X) ∧ Hid (Below w.heap.size w wx))
      case first =>
        cases oP with
        | true =>
          cases oe1 with
          | true =>
            cases oe2 with
            | true =>
              cases oeq with
              | true =>
                refine rol_run (by kernel_rfl) [[], [], [0, 1], [2], [3], [4], [5], [6], [7], [7], [7, 8, 9], [7, 10], [7, 11], [7, 12], [7, 13], [14], [14], [14], [14], [14], [14], [14], [7, 14], [7, 22], [23], [24], [24], [24, 25, 26], [24, 27], [24, 28], [24, 29], [24, 30], [31], [31], [31], [31], [31], [31], [31], [24, 31], [24, 39], [40], [41], [41], [41, 42, 43], [41, 44], [41, 45], [41], [41], [41, 47, 48], [41, 49], [41, 50], [41, 46, 51], [41, 52], [53], [54], [54], [54], [57], [57], [57], [57], [57], [57], [57], [57], [57], [57], [57], [57], [57], [54], [54]] (by kernel_rfl) [10, 11, 12, 13, 14, 15, 16, 17, 18, 19, 20, 21, 22, 23, 24, 25, 26, 27, 28, 29, 30, 31, 32, 33, 34, 35, 36, 37, 38, 39, 40, 41, 42, 43, 44, 45, 46, 47, 48, 49, 50, 51, 52, 53, 54, 55, 56, 57, 58, 59, 60, 61, 62, 63, 64, 65, 66, 67, 68, 69, 70, 71, 72, 73, 74, 75, 76, 77, 78, 79, 80, 81, 82] [[], [], [0, 1], [2], [3], [4], [5], [6], [7], [7], [7, 8, 9], [7, 10], [7, 11], [7, 12], [7, 13], [14], [14], [14], [14], [14], [14], [14], [7, 14], [7, 22], [23], [24], [24], [24, 25, 26], [24, 27], [24, 28], [24, 29], [24, 30], [31], [31], [31], [31], [31], [31], [31], [24, 31], [24, 39], [40], [41], [41], [41, 42, 43], [41, 44], [41, 45], [41], [41], [41, 47, 48], [41, 49], [41, 50], [41, 46, 51], [41, 52], [53], [54], [54], [54], [57], [57], [57], [57], [57], [57], [57], [57], [57], [57], [57], [57], [57], [54], [54]] (List.replicate 73 0) (List.replicate 73 0) (List.replicate 73 1000) [.val 10 (.slice (some ⟨b, off, none⟩) n c), .val 11 (.int .i64 (k : Int)), .val 12 (.pointer (some ⟨b, off + k * 3, none⟩)), .val 13 (.pointer (some ⟨b, off + k * 3, none⟩)), .val 14 (.string (mkB y0)), .val 15 (.bool true), .val 16 (.bool false), .val 17 (.bool false), .val 18 (.slice (some ⟨b, off, none⟩) n c), .val 19 (.int .i64 (k : Int)), .val 20 (.pointer (some ⟨b, off + k * 3, none⟩)), .val 21 (.pointer (some ⟨b, off + k * 3 + 1, none⟩)), .val 22 (.string (mkB y1)), .val 23 (.bool false), .val 24 (.bool false), .val 25 undef, .val 26 undef, .val 27 undef, .val 28 undef, .val 29 undef, .val 30 undef, .val 31 undef, .val 32 (.bool false), .val 33 (.bool false), .val 34 (.bool false), .val 35 (.slice (some ⟨b, off, none⟩) n c), .val 36 (.int .i64 (k : Int)), .val 37 (.pointer (some ⟨b, off + k * 3, none⟩)), .val 38 (.pointer (some ⟨b, off + k * 3 + 2, none⟩)), .val 39 (.string (mkB y2)), .val 40 (.bool false), .val 41 (.bool false), .val 42 undef, .val 43 undef, .val 44 undef, .val 45 undef, .val 46 undef, .val 47 undef, .val 48 undef, .val 49 (.bool false), .val 50 (.bool false), .val 51 (.bool false), .val 52 (.slice (some ⟨b, off, none⟩) n c), .val 53 (.int .i64 (k : Int)), .val 54 (.pointer (some ⟨b, off + k * 3, none⟩)), .val 55 (.pointer (some ⟨b, off + k * 3 + 1, none⟩)), .val 56 (.string (mkB y1)), .val 57 (.slice (some ⟨b, off, none⟩) n c), .val 58 (.int .i64 (k : Int)), .val 59 (.pointer (some ⟨b, off + k * 3, none⟩)), .val 60 (.pointer (some ⟨b, off + k * 3 + 2, none⟩)), .val 61 (.string (mkB y2)), .val 62 (.bool true), .val 63 (.bool true), .val 64 (.bool true), .val 65 undef, .val 66 undef, .val 67 undef, .val 68 undef, .val 69 undef, .val 70 undef, .val 71 undef, .val 72 undef, .val 73 undef, .val 74 undef, .val 75 undef, .val 76 undef, .val 77 undef, .val 78 undef, .val 79 undef, .val 80 undef, .val 81 undef, .val 82 (.bool true)] (by kernel_rfl) ?_ (wr.heap.size) (wr.heap.size) rfl (Below.refl _ _) rfl (fun _ => 0) ?_ ?_ ?_
                · intro j hj
                  have hj3 : j < 73 := hj
                  clear hj
                  revert j
                  iterate 73 refine lt_step ?_ ?_
                  · exact lt_none
                  all_goals exact trivial
                · intro j hj0 hj
                  exact absurd hj (Nat.not_lt.2 hj0)
                · intro i hi
                  have hi3 : i < 73 := hi
                  clear hi
                  revert i
                  iterate 73 refine lt_step ?_ ?_
                  · exact lt_none
                  all_goals intro a wx who hG hF
                  all_goals have hz : a.tmps.size = 83 := hG.size
                  · exact rv rfl rfl rfl hz rfl (ex_move (Or.inl rfl) (eval_slot ((hG.slots 0 (by decide)).trans rfl))) hG
                  · exact rv rfl rfl rfl hz rfl (ex_move (Or.inl rfl) (eval_slot ((hG.slots 3 (by decide)).trans rfl))) hG
                  · exact rv rfl rfl rfl hz rfl (ex_index rfl (ev hF 0 rfl rfl) (ev hF 1 rfl rfl) (idx_ch HKN.out)) hG
                  · exact rv rfl rfl rfl hz rfl (ex_field rfl (ev hF 2 rfl rfl) (by go_simp)) hG
                  · exact rv rfl rfl rfl hz rfl (ex_load rfl (ev hF 3 rfl rfl) (ld_strT (cell_keep C0.out hG.below))) hG
                  · refine rol_call rfl rfl rfl (by rw [hz]; decide) (ex_call rfl (by simp [eval_slot (hF 4 (by decide))]) e1) (KP.out wx) ?_ hG.below (Nat.le_trans HNW.out hG.new)
                    rintro e w1 ⟨rfl, hb1⟩
                    exact ⟨_, rfl, hb1, .inl rfl⟩
                  · exact rv rfl rfl rfl hz rfl (ex_un rfl (ev hF 5 rfl rfl) rfl) hG
                  · exact rv rfl rfl rfl hz rfl (ex_move (Or.inl rfl) (ev hF 6 rfl rfl)) hG
                  · exact ry rfl hF 7 rfl rfl rfl rfl rfl hz rfl (ex_move (Or.inl rfl) (eval_slot ((hG.slots 0 (by decide)).trans rfl))) hG
                  · exact ry rfl hF 7 rfl rfl rfl rfl rfl hz rfl (ex_move (Or.inl rfl) (eval_slot ((hG.slots 3 (by decide)).trans rfl))) hG
                  · exact ry rfl hF 7 rfl rfl rfl rfl rfl hz rfl (ex_index rfl (ev hF 8 rfl rfl) (ev hF 9 rfl rfl) (idx_ch HKN.out)) hG
                  · exact ry rfl hF 7 rfl rfl rfl rfl rfl hz rfl (ex_field rfl (ev hF 10 rfl rfl) (by go_simp)) hG
                  · exact ry rfl hF 7 rfl rfl rfl rfl rfl hz rfl (ex_load rfl (ev hF 11 rfl rfl) (ld_strT (cell_keep C1.out hG.below))) hG
                  · exact ry rfl hF 7 rfl rfl rfl rfl rfl hz rfl (ex_bin rfl (ev hF 12 rfl rfl) rfl (by go_simp) (bin_neNil HE1.out rfl)) hG
                  · exact ry rfl hF 7 rfl rfl rfl rfl rfl hz rfl (ex_move (Or.inl rfl) (ev hF 13 rfl rfl)) hG
                  iterate 7 exact rn rfl hF 14 rfl rfl rfl rfl rfl rfl hz rfl hG
                  · exact ry rfl hF 7 rfl rfl rfl rfl rfl hz rfl (ex_pick_no rfl (ev hF 14 rfl rfl) rfl) hG
                  · exact rv rfl rfl rfl hz rfl (ex_pick_no rfl (ev hF 7 rfl rfl) (ev hF 22 rfl rfl)) hG
                  · exact rv rfl rfl rfl hz rfl (ex_move (Or.inl rfl) (ev hF 23 rfl rfl)) hG
                  · exact ry rfl hF 24 rfl rfl rfl rfl rfl hz rfl (ex_move (Or.inl rfl) (eval_slot ((hG.slots 0 (by decide)).trans rfl))) hG
                  · exact ry rfl hF 24 rfl rfl rfl rfl rfl hz rfl (ex_move (Or.inl rfl) (eval_slot ((hG.slots 3 (by decide)).trans rfl))) hG
                  · exact ry rfl hF 24 rfl rfl rfl rfl rfl hz rfl (ex_index rfl (ev hF 25 rfl rfl) (ev hF 26 rfl rfl) (idx_ch HKN.out)) hG
                  · exact ry rfl hF 24 rfl rfl rfl rfl rfl hz rfl (ex_field rfl (ev hF 27 rfl rfl) (by go_simp)) hG
                  · exact ry rfl hF 24 rfl rfl rfl rfl rfl hz rfl (ex_load rfl (ev hF 28 rfl rfl) (ld_strT (cell_keep C2.out hG.below))) hG
                  · exact ry rfl hF 24 rfl rfl rfl rfl rfl hz rfl (ex_bin rfl (ev hF 29 rfl rfl) rfl (by go_simp) (bin_neNil HE2.out rfl)) hG
                  · exact ry rfl hF 24 rfl rfl rfl rfl rfl hz rfl (ex_move (Or.inl rfl) (ev hF 30 rfl rfl)) hG
                  iterate 7 exact rn rfl hF 31 rfl rfl rfl rfl rfl rfl hz rfl hG
                  · exact ry rfl hF 24 rfl rfl rfl rfl rfl hz rfl (ex_pick_no rfl (ev hF 31 rfl rfl) rfl) hG
                  · exact rv rfl rfl rfl hz rfl (ex_pick_no rfl (ev hF 24 rfl rfl) (ev hF 39 rfl rfl)) hG
                  · exact rv rfl rfl rfl hz rfl (ex_move (Or.inl rfl) (ev hF 40 rfl rfl)) hG
                  · exact ry rfl hF 41 rfl rfl rfl rfl rfl hz rfl (ex_move (Or.inl rfl) (eval_slot ((hG.slots 0 (by decide)).trans rfl))) hG
                  · exact ry rfl hF 41 rfl rfl rfl rfl rfl hz rfl (ex_move (Or.inl rfl) (eval_slot ((hG.slots 3 (by decide)).trans rfl))) hG
                  · exact ry rfl hF 41 rfl rfl rfl rfl rfl hz rfl (ex_index rfl (ev hF 42 rfl rfl) (ev hF 43 rfl rfl) (idx_ch HKN.out)) hG
                  · exact ry rfl hF 41 rfl rfl rfl rfl rfl hz rfl (ex_field rfl (ev hF 44 rfl rfl) (by go_simp)) hG
                  · exact ry rfl hF 41 rfl rfl rfl rfl rfl hz rfl (ex_load rfl (ev hF 45 rfl rfl) (ld_strT (cell_keep C1.out hG.below))) hG
                  · exact ry rfl hF 41 rfl rfl rfl rfl rfl hz rfl (ex_move (Or.inl rfl) (eval_slot ((hG.slots 0 (by decide)).trans rfl))) hG
                  · exact ry rfl hF 41 rfl rfl rfl rfl rfl hz rfl (ex_move (Or.inl rfl) (eval_slot ((hG.slots 3 (by decide)).trans rfl))) hG
                  · exact ry rfl hF 41 rfl rfl rfl rfl rfl hz rfl (ex_index rfl (ev hF 47 rfl rfl) (ev hF 48 rfl rfl) (idx_ch HKN.out)) hG
                  · exact ry rfl hF 41 rfl rfl rfl rfl rfl hz rfl (ex_field rfl (ev hF 49 rfl rfl) (by go_simp)) hG
                  · exact ry rfl hF 41 rfl rfl rfl rfl rfl hz rfl (ex_load rfl (ev hF 50 rfl rfl) (ld_strT (cell_keep C2.out hG.below))) hG
                  · exact ry rfl hF 41 rfl rfl rfl rfl rfl hz rfl (ex_bin rfl (ev hF 46 rfl rfl) (ev hF 51 rfl rfl) (by go_simp) (bin_eqL HEQ.out)) hG
                  · exact rv rfl rfl rfl hz rfl (ex_pick_no rfl (ev hF 41 rfl rfl) (ev hF 52 rfl rfl)) hG
                  · exact rv rfl rfl rfl hz rfl (ex_move (Or.inl rfl) (ev hF 53 rfl rfl)) hG
                  iterate 3 exact rn rfl hF 54 rfl rfl rfl rfl rfl rfl hz rfl hG
                  iterate 13 exact ru rfl hF 57 rfl rfl rfl rfl rfl hz rfl hG
                  · exact rn rfl hF 54 rfl rfl rfl rfl rfl rfl hz rfl hG
                  · exact rv rfl rfl rfl hz rfl (ex_pick_yes rfl (ev hF 54 rfl rfl) rfl) hG
                · intro a wx who hG hF
                  have fv82 : a.tmps.getD 82 undef = .bool true := eval_slot (s := 82) (hF 72 (of_decide_eq_true (by kernel_rfl)) (of_decide_eq_true (by kernel_rfl)))
                  have hbx := hG.below
                  have hnx := hG.new
                  rw [hG.frame]
                  simp only [List.foldl_cons, List.foldl_nil, List.setIfInBounds_toArray, List.set_cons_zero, List.set_cons_succ]
                  rw [fv82]
                  generalize Array.getD a.tmps = uu
                  clear hF hG fv82
                  go_wp2_with fail
                  go_meet
                  exact ⟨by rw [HSX.out]; rfl, Lib.hid (below_step HB.out hbx)⟩
              | false =>
                by_cases h0 : k = 0
                · have HZ := Lib.hid (show decide (0 < k) = false by simp [h0])
                  replace HSX := Lib.hid (HSZ.out h0)
                  clear h0 hm
                  refine rol_run (by kernel_rfl) [[], [], [0, 1], [2], [3], [4], [5], [6], [7], [7], [7, 8, 9], [7, 10], [7, 11], [7, 12], [7, 13], [14], [14], [14], [14], [14], [14], [14], [7, 14], [7, 22], [23], [24], [24], [24, 25, 26], [24, 27], [24, 28], [24, 29], [24, 30], [31], [31], [31], [31], [31], [31], [31], [24, 31], [24, 39], [40], [41], [41], [41, 42, 43], [41, 44], [41, 45], [41], [41], [41, 47, 48], [41, 49], [41, 50], [41, 46, 51], [41, 52], [53], [54], [54, 55], [54, 56], [57], [57], [57], [57], [57], [57], [57], [57], [57], [57], [57], [57], [57], [54, 57], [54, 71]] (by kernel_rfl) [10, 11, 12, 13, 14, 15, 16, 17, 18, 19, 20, 21, 22, 23, 24, 25, 26, 27, 28, 29, 30, 31, 32, 33, 34, 35, 36, 37, 38, 39, 40, 41, 42, 43, 44, 45, 46, 47, 48, 49, 50, 51, 52, 53, 54, 55, 56, 57, 58, 59, 60, 61, 62, 63, 64, 65, 66, 67, 68, 69, 70, 71, 72, 73, 74, 75, 76, 77, 78, 79, 80, 81, 82] [[], [], [0, 1], [2], [3], [4], [5], [6], [7], [7], [7, 8, 9], [7, 10], [7, 11], [7, 12], [7, 13], [14], [14], [14], [14], [14], [14], [14], [7, 14], [7, 22], [23], [24], [24], [24, 25, 26], [24, 27], [24, 28], [24, 29], [24, 30], [31], [31], [31], [31], [31], [31], [31], [24, 31], [24, 39], [40], [41], [41], [41, 42, 43], [41, 44], [41, 45], [41], [41], [41, 47, 48], [41, 49], [41, 50], [41, 46, 51], [41, 52], [53], [54], [54, 55], [54, 56], [57], [57], [57], [57], [57], [57], [57], [57], [57], [57], [57], [57], [57], [54, 57], [54, 71]] (List.replicate 73 0) (List.replicate 73 0) (List.replicate 73 1000) [.val 10 (.slice (some ⟨b, off, none⟩) n c), .val 11 (.int .i64 (k : Int)), .val 12 (.pointer (some ⟨b, off + k * 3, none⟩)), .val 13 (.pointer (some ⟨b, off + k * 3, none⟩)), .val 14 (.string (mkB y0)), .val 15 (.bool true), .val 16 (.bool false), .val 17 (.bool false), .val 18 (.slice (some ⟨b, off, none⟩) n c), .val 19 (.int .i64 (k : Int)), .val 20 (.pointer (some ⟨b, off + k * 3, none⟩)), .val 21 (.pointer (some ⟨b, off + k * 3 + 1, none⟩)), .val 22 (.string (mkB y1)), .val 23 (.bool false), .val 24 (.bool false), .val 25 undef, .val 26 undef, .val 27 undef, .val 28 undef, .val 29 undef, .val 30 undef, .val 31 undef, .val 32 (.bool false), .val 33 (.bool false), .val 34 (.bool false), .val 35 (.slice (some ⟨b, off, none⟩) n c), .val 36 (.int .i64 (k : Int)), .val 37 (.pointer (some ⟨b, off + k * 3, none⟩)), .val 38 (.pointer (some ⟨b, off + k * 3 + 2, none⟩)), .val 39 (.string (mkB y2)), .val 40 (.bool false), .val 41 (.bool false), .val 42 undef, .val 43 undef, .val 44 undef, .val 45 undef, .val 46 undef, .val 47 undef, .val 48 undef, .val 49 (.bool false), .val 50 (.bool false), .val 51 (.bool false), .val 52 (.slice (some ⟨b, off, none⟩) n c), .val 53 (.int .i64 (k : Int)), .val 54 (.pointer (some ⟨b, off + k * 3, none⟩)), .val 55 (.pointer (some ⟨b, off + k * 3 + 1, none⟩)), .val 56 (.string (mkB y1)), .val 57 (.slice (some ⟨b, off, none⟩) n c), .val 58 (.int .i64 (k : Int)), .val 59 (.pointer (some ⟨b, off + k * 3, none⟩)), .val 60 (.pointer (some ⟨b, off + k * 3 + 2, none⟩)), .val 61 (.string (mkB y2)), .val 62 (.bool false), .val 63 (.bool false), .val 64 (.bool false), .val 65 (.int .i64 (k : Int)), .val 66 (.bool false), .val 67 (.bool false), .val 68 undef, .val 69 undef, .val 70 undef, .val 71 undef, .val 72 undef, .val 73 undef, .val 74 undef, .val 75 undef, .val 76 undef, .val 77 undef, .val 78 undef, .val 79 undef, .val 80 undef, .val 81 (.bool false), .val 82 (.bool false)] (by kernel_rfl) ?_ (wr.heap.size) (wr.heap.size) rfl (Below.refl _ _) rfl (fun _ => 0) ?_ ?_ ?_
                  · intro j hj
                    have hj3 : j < 73 := hj
                    clear hj
                    revert j
                    iterate 73 refine lt_step ?_ ?_
                    · exact lt_none
                    all_goals exact trivial
                  · intro j hj0 hj
                    exact absurd hj (Nat.not_lt.2 hj0)
                  · intro i hi
                    have hi3 : i < 73 := hi
                    clear hi
                    revert i
                    iterate 73 refine lt_step ?_ ?_
                    · exact lt_none
                    all_goals intro a wx who hG hF
                    all_goals have hz : a.tmps.size = 83 := hG.size
                    · exact rv rfl rfl rfl hz rfl (ex_move (Or.inl rfl) (eval_slot ((hG.slots 0 (by decide)).trans rfl))) hG
                    · exact rv rfl rfl rfl hz rfl (ex_move (Or.inl rfl) (eval_slot ((hG.slots 3 (by decide)).trans rfl))) hG
                    · exact rv rfl rfl rfl hz rfl (ex_index rfl (ev hF 0 rfl rfl) (ev hF 1 rfl rfl) (idx_ch HKN.out)) hG
                    · exact rv rfl rfl rfl hz rfl (ex_field rfl (ev hF 2 rfl rfl) (by go_simp)) hG
                    · exact rv rfl rfl rfl hz rfl (ex_load rfl (ev hF 3 rfl rfl) (ld_strT (cell_keep C0.out hG.below))) hG
                    · refine rol_call rfl rfl rfl (by rw [hz]; decide) (ex_call rfl (by simp [eval_slot (hF 4 (by decide))]) e1) (KP.out wx) ?_ hG.below (Nat.le_trans HNW.out hG.new)
                      rintro e w1 ⟨rfl, hb1⟩
                      exact ⟨_, rfl, hb1, .inl rfl⟩
                    · exact rv rfl rfl rfl hz rfl (ex_un rfl (ev hF 5 rfl rfl) rfl) hG
                    · exact rv rfl rfl rfl hz rfl (ex_move (Or.inl rfl) (ev hF 6 rfl rfl)) hG
                    · exact ry rfl hF 7 rfl rfl rfl rfl rfl hz rfl (ex_move (Or.inl rfl) (eval_slot ((hG.slots 0 (by decide)).trans rfl))) hG
                    · exact ry rfl hF 7 rfl rfl rfl rfl rfl hz rfl (ex_move (Or.inl rfl) (eval_slot ((hG.slots 3 (by decide)).trans rfl))) hG
                    · exact ry rfl hF 7 rfl rfl rfl rfl rfl hz rfl (ex_index rfl (ev hF 8 rfl rfl) (ev hF 9 rfl rfl) (idx_ch HKN.out)) hG
                    · exact ry rfl hF 7 rfl rfl rfl rfl rfl hz rfl (ex_field rfl (ev hF 10 rfl rfl) (by go_simp)) hG
                    · exact ry rfl hF 7 rfl rfl rfl rfl rfl hz rfl (ex_load rfl (ev hF 11 rfl rfl) (ld_strT (cell_keep C1.out hG.below))) hG
                    · exact ry rfl hF 7 rfl rfl rfl rfl rfl hz rfl (ex_bin rfl (ev hF 12 rfl rfl) rfl (by go_simp) (bin_neNil HE1.out rfl)) hG
                    · exact ry rfl hF 7 rfl rfl rfl rfl rfl hz rfl (ex_move (Or.inl rfl) (ev hF 13 rfl rfl)) hG
                    iterate 7 exact rn rfl hF 14 rfl rfl rfl rfl rfl rfl hz rfl hG
                    · exact ry rfl hF 7 rfl rfl rfl rfl rfl hz rfl (ex_pick_no rfl (ev hF 14 rfl rfl) rfl) hG
                    · exact rv rfl rfl rfl hz rfl (ex_pick_no rfl (ev hF 7 rfl rfl) (ev hF 22 rfl rfl)) hG
                    · exact rv rfl rfl rfl hz rfl (ex_move (Or.inl rfl) (ev hF 23 rfl rfl)) hG
                    · exact ry rfl hF 24 rfl rfl rfl rfl rfl hz rfl (ex_move (Or.inl rfl) (eval_slot ((hG.slots 0 (by decide)).trans rfl))) hG
                    · exact ry rfl hF 24 rfl rfl rfl rfl rfl hz rfl (ex_move (Or.inl rfl) (eval_slot ((hG.slots 3 (by decide)).trans rfl))) hG
                    · exact ry rfl hF 24 rfl rfl rfl rfl rfl hz rfl (ex_index rfl (ev hF 25 rfl rfl) (ev hF 26 rfl rfl) (idx_ch HKN.out)) hG
                    · exact ry rfl hF 24 rfl rfl rfl rfl rfl hz rfl (ex_field rfl (ev hF 27 rfl rfl) (by go_simp)) hG
                    · exact ry rfl hF 24 rfl rfl rfl rfl rfl hz rfl (ex_load rfl (ev hF 28 rfl rfl) (ld_strT (cell_keep C2.out hG.below))) hG
                    · exact ry rfl hF 24 rfl rfl rfl rfl rfl hz rfl (ex_bin rfl (ev hF 29 rfl rfl) rfl (by go_simp) (bin_neNil HE2.out rfl)) hG
                    · exact ry rfl hF 24 rfl rfl rfl rfl rfl hz rfl (ex_move (Or.inl rfl) (ev hF 30 rfl rfl)) hG
                    iterate 7 exact rn rfl hF 31 rfl rfl rfl rfl rfl rfl hz rfl hG
                    · exact ry rfl hF 24 rfl rfl rfl rfl rfl hz rfl (ex_pick_no rfl (ev hF 31 rfl rfl) rfl) hG
                    · exact rv rfl rfl rfl hz rfl (ex_pick_no rfl (ev hF 24 rfl rfl) (ev hF 39 rfl rfl)) hG
                    · exact rv rfl rfl rfl hz rfl (ex_move (Or.inl rfl) (ev hF 40 rfl rfl)) hG
                    · exact ry rfl hF 41 rfl rfl rfl rfl rfl hz rfl (ex_move (Or.inl rfl) (eval_slot ((hG.slots 0 (by decide)).trans rfl))) hG
                    · exact ry rfl hF 41 rfl rfl rfl rfl rfl hz rfl (ex_move (Or.inl rfl) (eval_slot ((hG.slots 3 (by decide)).trans rfl))) hG
                    · exact ry rfl hF 41 rfl rfl rfl rfl rfl hz rfl (ex_index rfl (ev hF 42 rfl rfl) (ev hF 43 rfl rfl) (idx_ch HKN.out)) hG
                    · exact ry rfl hF 41 rfl rfl rfl rfl rfl hz rfl (ex_field rfl (ev hF 44 rfl rfl) (by go_simp)) hG
                    · exact ry rfl hF 41 rfl rfl rfl rfl rfl hz rfl (ex_load rfl (ev hF 45 rfl rfl) (ld_strT (cell_keep C1.out hG.below))) hG
                    · exact ry rfl hF 41 rfl rfl rfl rfl rfl hz rfl (ex_move (Or.inl rfl) (eval_slot ((hG.slots 0 (by decide)).trans rfl))) hG
                    · exact ry rfl hF 41 rfl rfl rfl rfl rfl hz rfl (ex_move (Or.inl rfl) (eval_slot ((hG.slots 3 (by decide)).trans rfl))) hG
                    · exact ry rfl hF 41 rfl rfl rfl rfl rfl hz rfl (ex_index rfl (ev hF 47 rfl rfl) (ev hF 48 rfl rfl) (idx_ch HKN.out)) hG
                    · exact ry rfl hF 41 rfl rfl rfl rfl rfl hz rfl (ex_field rfl (ev hF 49 rfl rfl) (by go_simp)) hG
                    · exact ry rfl hF 41 rfl rfl rfl rfl rfl hz rfl (ex_load rfl (ev hF 50 rfl rfl) (ld_strT (cell_keep C2.out hG.below))) hG
                    · exact ry rfl hF 41 rfl rfl rfl rfl rfl hz rfl (ex_bin rfl (ev hF 46 rfl rfl) (ev hF 51 rfl rfl) (by go_simp) (bin_eqL HEQ.out)) hG
                    · exact rv rfl rfl rfl hz rfl (ex_pick_no rfl (ev hF 41 rfl rfl) (ev hF 52 rfl rfl)) hG
                    · exact rv rfl rfl rfl hz rfl (ex_move (Or.inl rfl) (ev hF 53 rfl rfl)) hG
                    · exact ry rfl hF 54 rfl rfl rfl rfl rfl hz rfl (ex_move (Or.inl rfl) (eval_slot ((hG.slots 3 (by decide)).trans rfl))) hG
                    · exact ry rfl hF 54 rfl rfl rfl rfl rfl hz rfl (ex_bin rfl (ev hF 55 rfl rfl) rfl (by go_simp) (bin_gt0L HZ.out)) hG
                    · exact ry rfl hF 54 rfl rfl rfl rfl rfl hz rfl (ex_move (Or.inl rfl) (ev hF 56 rfl rfl)) hG
                    iterate 13 exact rn rfl hF 57 rfl rfl rfl rfl rfl rfl hz rfl hG
                    · exact ry rfl hF 54 rfl rfl rfl rfl rfl hz rfl (ex_pick_no rfl (ev hF 57 rfl rfl) rfl) hG
                    · exact rv rfl rfl rfl hz rfl (ex_pick_no rfl (ev hF 54 rfl rfl) (ev hF 71 rfl rfl)) hG
                  · intro a wx who hG hF
                    have fv82 : a.tmps.getD 82 undef = .bool false := eval_slot (s := 82) (hF 72 (of_decide_eq_true (by kernel_rfl)) (of_decide_eq_true (by kernel_rfl)))
                    have hbx := hG.below
                    have hnx := hG.new
                    rw [hG.frame]
                    simp only [List.foldl_cons, List.foldl_nil, List.setIfInBounds_toArray, List.set_cons_zero, List.set_cons_succ]
                    rw [fv82]
                    generalize Array.getD a.tmps = uu
                    clear hF hG fv82
                    go_wp2_with fail
                    go_meet
                    exact ⟨by rw [HSX.out]; rfl, Lib.hid (below_step HB.out hbx)⟩
                · have HZ := Lib.hid (show decide (0 < k) = true by simp; omega)
                  have HM2 := Lib.hid (show k = m + 1 by omega)
                  replace HSX := Lib.hid (HSN.out h0)
                  clear h0 hm
                  cases oge with
                  | true =>
                    refine rol_run (by kernel_rfl) [[], [], [0, 1], [2], [3], [4], [5], [6], [7], [7], [7, 8, 9], [7, 10], [7, 11], [7, 12], [7, 13], [14], [14], [14], [14], [14], [14], [14], [7, 14], [7, 22], [23], [24], [24], [24, 25, 26], [24, 27], [24, 28], [24, 29], [24, 30], [31], [31], [31], [31], [31], [31], [31], [24, 31], [24, 39], [40], [41], [41], [41, 42, 43], [41, 44], [41, 45], [41], [41], [41, 47, 48], [41, 49], [41, 50], [41, 46, 51], [41, 52], [53], [54], [54, 55], [54, 56], [57], [57], [57, 59], [57, 58, 60], [57, 61], [57, 62], [57], [57], [57, 64, 65], [57, 66], [57, 67], [57, 63, 68], [57, 69], [54, 57, 70], [54, 71]] (by kernel_rfl) [10, 11, 12, 13, 14, 15, 16, 17, 18, 19, 20, 21, 22, 23, 24, 25, 26, 27, 28, 29, 30, 31, 32, 33, 34, 35, 36, 37, 38, 39, 40, 41, 42, 43, 44, 45, 46, 47, 48, 49, 50, 51, 52, 53, 54, 55, 56, 57, 58, 59, 60, 61, 62, 63, 64, 65, 66, 67, 68, 69, 70, 71, 72, 73, 74, 75, 76, 77, 78, 79, 80, 81, 82] [[], [], [0, 1], [2], [3], [4], [5], [6], [7], [7], [7, 8, 9], [7, 10], [7, 11], [7, 12], [7, 13], [14], [14], [14], [14], [14], [14], [14], [7, 14], [7, 22], [23], [24], [24], [24, 25, 26], [24, 27], [24, 28], [24, 29], [24, 30], [31], [31], [31], [31], [31], [31], [31], [24, 31], [24, 39], [40], [41], [41], [41, 42, 43], [41, 44], [41, 45], [41], [41], [41, 47, 48], [41, 49], [41, 50], [41, 46, 51], [41, 52], [53], [54], [54, 55], [54, 56], [57], [57], [57, 59], [57, 58, 60], [57, 61], [57, 62], [57], [57], [57, 64, 65], [57, 66], [57, 67], [57, 63, 68], [57, 69], [54, 57, 70], [54, 71]] (List.replicate 73 0) (List.replicate 73 0) (List.replicate 73 1000) [.val 10 (.slice (some ⟨b, off, none⟩) n c), .val 11 (.int .i64 (k : Int)), .val 12 (.pointer (some ⟨b, off + k * 3, none⟩)), .val 13 (.pointer (some ⟨b, off + k * 3, none⟩)), .val 14 (.string (mkB y0)), .val 15 (.bool true), .val 16 (.bool false), .val 17 (.bool false), .val 18 (.slice (some ⟨b, off, none⟩) n c), .val 19 (.int .i64 (k : Int)), .val 20 (.pointer (some ⟨b, off + k * 3, none⟩)), .val 21 (.pointer (some ⟨b, off + k * 3 + 1, none⟩)), .val 22 (.string (mkB y1)), .val 23 (.bool false), .val 24 (.bool false), .val 25 undef, .val 26 undef, .val 27 undef, .val 28 undef, .val 29 undef, .val 30 undef, .val 31 undef, .val 32 (.bool false), .val 33 (.bool false), .val 34 (.bool false), .val 35 (.slice (some ⟨b, off, none⟩) n c), .val 36 (.int .i64 (k : Int)), .val 37 (.pointer (some ⟨b, off + k * 3, none⟩)), .val 38 (.pointer (some ⟨b, off + k * 3 + 2, none⟩)), .val 39 (.string (mkB y2)), .val 40 (.bool false), .val 41 (.bool false), .val 42 undef, .val 43 undef, .val 44 undef, .val 45 undef, .val 46 undef, .val 47 undef, .val 48 undef, .val 49 (.bool false), .val 50 (.bool false), .val 51 (.bool false), .val 52 (.slice (some ⟨b, off, none⟩) n c), .val 53 (.int .i64 (k : Int)), .val 54 (.pointer (some ⟨b, off + k * 3, none⟩)), .val 55 (.pointer (some ⟨b, off + k * 3 + 1, none⟩)), .val 56 (.string (mkB y1)), .val 57 (.slice (some ⟨b, off, none⟩) n c), .val 58 (.int .i64 (k : Int)), .val 59 (.pointer (some ⟨b, off + k * 3, none⟩)), .val 60 (.pointer (some ⟨b, off + k * 3 + 2, none⟩)), .val 61 (.string (mkB y2)), .val 62 (.bool false), .val 63 (.bool false), .val 64 (.bool false), .val 65 (.int .i64 (k : Int)), .val 66 (.bool true), .val 67 (.bool true), .val 68 (.slice (some ⟨b, off, none⟩) n c), .val 69 (.int .i64 (k : Int)), .val 70 (.int .i64 (m : Int)), .val 71 (.pointer (some ⟨b, off + m * 3, none⟩)), .val 72 (.pointer (some ⟨b, off + m * 3, none⟩)), .val 73 (.string (mkB x0)), .val 74 (.slice (some ⟨b, off, none⟩) n c), .val 75 (.int .i64 (k : Int)), .val 76 (.pointer (some ⟨b, off + k * 3, none⟩)), .val 77 (.pointer (some ⟨b, off + k * 3, none⟩)), .val 78 (.string (mkB y0)), .val 79 (.int .i64 C), .val 80 (.bool true), .val 81 (.bool true), .val 82 (.bool true)] (by kernel_rfl) ?_ (wr.heap.size) (wr.heap.size) rfl (Below.refl _ _) rfl (fun _ => 0) ?_ ?_ ?_
                    · intro j hj
                      have hj3 : j < 73 := hj
                      clear hj
                      revert j
                      iterate 73 refine lt_step ?_ ?_
                      · exact lt_none
                      all_goals exact trivial
                    · intro j hj0 hj
                      exact absurd hj (Nat.not_lt.2 hj0)
                    · intro i hi
                      have hi3 : i < 73 := hi
                      clear hi
                      revert i
                      iterate 73 refine lt_step ?_ ?_
                      · exact lt_none
                      all_goals intro a wx who hG hF
                      all_goals have hz : a.tmps.size = 83 := hG.size
                      · exact rv rfl rfl rfl hz rfl (ex_move (Or.inl rfl) (eval_slot ((hG.slots 0 (by decide)).trans rfl))) hG
                      · exact rv rfl rfl rfl hz rfl (ex_move (Or.inl rfl) (eval_slot ((hG.slots 3 (by decide)).trans rfl))) hG
                      · exact rv rfl rfl rfl hz rfl (ex_index rfl (ev hF 0 rfl rfl) (ev hF 1 rfl rfl) (idx_ch HKN.out)) hG
                      · exact rv rfl rfl rfl hz rfl (ex_field rfl (ev hF 2 rfl rfl) (by go_simp)) hG
                      · exact rv rfl rfl rfl hz rfl (ex_load rfl (ev hF 3 rfl rfl) (ld_strT (cell_keep C0.out hG.below))) hG
                      · refine rol_call rfl rfl rfl (by rw [hz]; decide) (ex_call rfl (by simp [eval_slot (hF 4 (by decide))]) e1) (KP.out wx) ?_ hG.below (Nat.le_trans HNW.out hG.new)
                        rintro e w1 ⟨rfl, hb1⟩
                        exact ⟨_, rfl, hb1, .inl rfl⟩
                      · exact rv rfl rfl rfl hz rfl (ex_un rfl (ev hF 5 rfl rfl) rfl) hG
                      · exact rv rfl rfl rfl hz rfl (ex_move (Or.inl rfl) (ev hF 6 rfl rfl)) hG
                      · exact ry rfl hF 7 rfl rfl rfl rfl rfl hz rfl (ex_move (Or.inl rfl) (eval_slot ((hG.slots 0 (by decide)).trans rfl))) hG
                      · exact ry rfl hF 7 rfl rfl rfl rfl rfl hz rfl (ex_move (Or.inl rfl) (eval_slot ((hG.slots 3 (by decide)).trans rfl))) hG
                      · exact ry rfl hF 7 rfl rfl rfl rfl rfl hz rfl (ex_index rfl (ev hF 8 rfl rfl) (ev hF 9 rfl rfl) (idx_ch HKN.out)) hG
                      · exact ry rfl hF 7 rfl rfl rfl rfl rfl hz rfl (ex_field rfl (ev hF 10 rfl rfl) (by go_simp)) hG
                      · exact ry rfl hF 7 rfl rfl rfl rfl rfl hz rfl (ex_load rfl (ev hF 11 rfl rfl) (ld_strT (cell_keep C1.out hG.below))) hG
                      · exact ry rfl hF 7 rfl rfl rfl rfl rfl hz rfl (ex_bin rfl (ev hF 12 rfl rfl) rfl (by go_simp) (bin_neNil HE1.out rfl)) hG
                      · exact ry rfl hF 7 rfl rfl rfl rfl rfl hz rfl (ex_move (Or.inl rfl) (ev hF 13 rfl rfl)) hG
                      iterate 7 exact rn rfl hF 14 rfl rfl rfl rfl rfl rfl hz rfl hG
                      · exact ry rfl hF 7 rfl rfl rfl rfl rfl hz rfl (ex_pick_no rfl (ev hF 14 rfl rfl) rfl) hG
                      · exact rv rfl rfl rfl hz rfl (ex_pick_no rfl (ev hF 7 rfl rfl) (ev hF 22 rfl rfl)) hG
                      · exact rv rfl rfl rfl hz rfl (ex_move (Or.inl rfl) (ev hF 23 rfl rfl)) hG
                      · exact ry rfl hF 24 rfl rfl rfl rfl rfl hz rfl (ex_move (Or.inl rfl) (eval_slot ((hG.slots 0 (by decide)).trans rfl))) hG
                      · exact ry rfl hF 24 rfl rfl rfl rfl rfl hz rfl (ex_move (Or.inl rfl) (eval_slot ((hG.slots 3 (by decide)).trans rfl))) hG
                      · exact ry rfl hF 24 rfl rfl rfl rfl rfl hz rfl (ex_index rfl (ev hF 25 rfl rfl) (ev hF 26 rfl rfl) (idx_ch HKN.out)) hG
                      · exact ry rfl hF 24 rfl rfl rfl rfl rfl hz rfl (ex_field rfl (ev hF 27 rfl rfl) (by go_simp)) hG
                      · exact ry rfl hF 24 rfl rfl rfl rfl rfl hz rfl (ex_load rfl (ev hF 28 rfl rfl) (ld_strT (cell_keep C2.out hG.below))) hG
                      · exact ry rfl hF 24 rfl rfl rfl rfl rfl hz rfl (ex_bin rfl (ev hF 29 rfl rfl) rfl (by go_simp) (bin_neNil HE2.out rfl)) hG
                      · exact ry rfl hF 24 rfl rfl rfl rfl rfl hz rfl (ex_move (Or.inl rfl) (ev hF 30 rfl rfl)) hG
                      iterate 7 exact rn rfl hF 31 rfl rfl rfl rfl rfl rfl hz rfl hG
                      · exact ry rfl hF 24 rfl rfl rfl rfl rfl hz rfl (ex_pick_no rfl (ev hF 31 rfl rfl) rfl) hG
                      · exact rv rfl rfl rfl hz rfl (ex_pick_no rfl (ev hF 24 rfl rfl) (ev hF 39 rfl rfl)) hG
                      · exact rv rfl rfl rfl hz rfl (ex_move (Or.inl rfl) (ev hF 40 rfl rfl)) hG
                      · exact ry rfl hF 41 rfl rfl rfl rfl rfl hz rfl (ex_move (Or.inl rfl) (eval_slot ((hG.slots 0 (by decide)).trans rfl))) hG
                      · exact ry rfl hF 41 rfl rfl rfl rfl rfl hz rfl (ex_move (Or.inl rfl) (eval_slot ((hG.slots 3 (by decide)).trans rfl))) hG
                      · exact ry rfl hF 41 rfl rfl rfl rfl rfl hz rfl (ex_index rfl (ev hF 42 rfl rfl) (ev hF 43 rfl rfl) (idx_ch HKN.out)) hG
                      · exact ry rfl hF 41 rfl rfl rfl rfl rfl hz rfl (ex_field rfl (ev hF 44 rfl rfl) (by go_simp)) hG
                      · exact ry rfl hF 41 rfl rfl rfl rfl rfl hz rfl (ex_load rfl (ev hF 45 rfl rfl) (ld_strT (cell_keep C1.out hG.below))) hG
                      · exact ry rfl hF 41 rfl rfl rfl rfl rfl hz rfl (ex_move (Or.inl rfl) (eval_slot ((hG.slots 0 (by decide)).trans rfl))) hG
                      · exact ry rfl hF 41 rfl rfl rfl rfl rfl hz rfl (ex_move (Or.inl rfl) (eval_slot ((hG.slots 3 (by decide)).trans rfl))) hG
                      · exact ry rfl hF 41 rfl rfl rfl rfl rfl hz rfl (ex_index rfl (ev hF 47 rfl rfl) (ev hF 48 rfl rfl) (idx_ch HKN.out)) hG
                      · exact ry rfl hF 41 rfl rfl rfl rfl rfl hz rfl (ex_field rfl (ev hF 49 rfl rfl) (by go_simp)) hG
                      · exact ry rfl hF 41 rfl rfl rfl rfl rfl hz rfl (ex_load rfl (ev hF 50 rfl rfl) (ld_strT (cell_keep C2.out hG.below))) hG
                      · exact ry rfl hF 41 rfl rfl rfl rfl rfl hz rfl (ex_bin rfl (ev hF 46 rfl rfl) (ev hF 51 rfl rfl) (by go_simp) (bin_eqL HEQ.out)) hG
                      · exact rv rfl rfl rfl hz rfl (ex_pick_no rfl (ev hF 41 rfl rfl) (ev hF 52 rfl rfl)) hG
                      · exact rv rfl rfl rfl hz rfl (ex_move (Or.inl rfl) (ev hF 53 rfl rfl)) hG
                      · exact ry rfl hF 54 rfl rfl rfl rfl rfl hz rfl (ex_move (Or.inl rfl) (eval_slot ((hG.slots 3 (by decide)).trans rfl))) hG
                      · exact ry rfl hF 54 rfl rfl rfl rfl rfl hz rfl (ex_bin rfl (ev hF 55 rfl rfl) rfl (by go_simp) (bin_gt0L HZ.out)) hG
                      · exact ry rfl hF 54 rfl rfl rfl rfl rfl hz rfl (ex_move (Or.inl rfl) (ev hF 56 rfl rfl)) hG
                      · exact ry rfl hF 57 rfl rfl rfl rfl rfl hz rfl (ex_move (Or.inl rfl) (eval_slot ((hG.slots 0 (by decide)).trans rfl))) hG
                      · exact ry rfl hF 57 rfl rfl rfl rfl rfl hz rfl (ex_move (Or.inl rfl) (eval_slot ((hG.slots 3 (by decide)).trans rfl))) hG
                      · exact ry rfl hF 57 rfl rfl rfl rfl rfl hz rfl (ex_bin rfl (ev hF 59 rfl rfl) rfl (by go_simp) (bin_sub1 HM2.out HKB.out)) hG
                      · exact ry rfl hF 57 rfl rfl rfl rfl rfl hz rfl (ex_index rfl (ev hF 58 rfl rfl) (ev hF 60 rfl rfl) (idx_ch HMN.out)) hG
                      · exact ry rfl hF 57 rfl rfl rfl rfl rfl hz rfl (ex_field rfl (ev hF 61 rfl rfl) (by go_simp)) hG
                      · exact ry rfl hF 57 rfl rfl rfl rfl rfl hz rfl (ex_load rfl (ev hF 62 rfl rfl) (ld_strT (cell_keep Q0.out hG.below))) hG
                      · exact ry rfl hF 57 rfl rfl rfl rfl rfl hz rfl (ex_move (Or.inl rfl) (eval_slot ((hG.slots 0 (by decide)).trans rfl))) hG
                      · exact ry rfl hF 57 rfl rfl rfl rfl rfl hz rfl (ex_move (Or.inl rfl) (eval_slot ((hG.slots 3 (by decide)).trans rfl))) hG
                      · exact ry rfl hF 57 rfl rfl rfl rfl rfl hz rfl (ex_index rfl (ev hF 64 rfl rfl) (ev hF 65 rfl rfl) (idx_ch HKN.out)) hG
                      · exact ry rfl hF 57 rfl rfl rfl rfl rfl hz rfl (ex_field rfl (ev hF 66 rfl rfl) (by go_simp)) hG
                      · exact ry rfl hF 57 rfl rfl rfl rfl rfl hz rfl (ex_load rfl (ev hF 67 rfl rfl) (ld_strT (cell_keep C0.out hG.below))) hG
                      · refine rol_call rfl (want_yes rfl rfl (hF 57 (by decide))) rfl (by rw [hz]; decide) (ex_call rfl (by simp [eval_slot (hF 63 (by decide)), eval_slot (hF 68 (by decide))]) e3) (KC.out wx) ?_ hG.below (Nat.le_trans HNW.out hG.new)
                        rintro e w1 ⟨rfl, hb1⟩
                        exact ⟨_, rfl, hb1, .inl rfl⟩
                      · exact ry rfl hF 57 rfl rfl rfl rfl rfl hz rfl (ex_bin rfl (ev hF 69 rfl rfl) rfl (by go_simp) (bin_geq0 HGE.out)) hG
                      · exact ry rfl hF 54 rfl rfl rfl rfl rfl hz rfl (ex_pick_yes rfl (ev hF 57 rfl rfl) (ev hF 70 rfl rfl)) hG
                      · exact rv rfl rfl rfl hz rfl (ex_pick_no rfl (ev hF 54 rfl rfl) (ev hF 71 rfl rfl)) hG
                    · intro a wx who hG hF
                      have fv82 : a.tmps.getD 82 undef = .bool true := eval_slot (s := 82) (hF 72 (of_decide_eq_true (by kernel_rfl)) (of_decide_eq_true (by kernel_rfl)))
                      have hbx := hG.below
                      have hnx := hG.new
                      rw [hG.frame]
                      simp only [List.foldl_cons, List.foldl_nil, List.setIfInBounds_toArray, List.set_cons_zero, List.set_cons_succ]
                      rw [fv82]
                      generalize Array.getD a.tmps = uu
                      clear hF hG fv82
                      go_wp2_with fail
                      go_meet
                      exact ⟨by rw [HSX.out]; rfl, Lib.hid (below_step HB.out hbx)⟩
                  | false =>
                    refine rol_run (by kernel_rfl) [[], [], [0, 1], [2], [3], [4], [5], [6], [7], [7], [7, 8, 9], [7, 10], [7, 11], [7, 12], [7, 13], [14], [14], [14], [14], [14], [14], [14], [7, 14], [7, 22], [23], [24], [24], [24, 25, 26], [24, 27], [24, 28], [24, 29], [24, 30], [31], [31], [31], [31], [31], [31], [31], [24, 31], [24, 39], [40], [41], [41], [41, 42, 43], [41, 44], [41, 45], [41], [41], [41, 47, 48], [41, 49], [41, 50], [41, 46, 51], [41, 52], [53], [54], [54, 55], [54, 56], [57], [57], [57, 59], [57, 58, 60], [57, 61], [57, 62], [57], [57], [57, 64, 65], [57, 66], [57, 67], [57, 63, 68], [57, 69], [54, 57, 70], [54, 71]] (by kernel_rfl) [10, 11, 12, 13, 14, 15, 16, 17, 18, 19, 20, 21, 22, 23, 24, 25, 26, 27, 28, 29, 30, 31, 32, 33, 34, 35, 36, 37, 38, 39, 40, 41, 42, 43, 44, 45, 46, 47, 48, 49, 50, 51, 52, 53, 54, 55, 56, 57, 58, 59, 60, 61, 62, 63, 64, 65, 66, 67, 68, 69, 70, 71, 72, 73, 74, 75, 76, 77, 78, 79, 80, 81, 82] [[], [], [0, 1], [2], [3], [4], [5], [6], [7], [7], [7, 8, 9], [7, 10], [7, 11], [7, 12], [7, 13], [14], [14], [14], [14], [14], [14], [14], [7, 14], [7, 22], [23], [24], [24], [24, 25, 26], [24, 27], [24, 28], [24, 29], [24, 30], [31], [31], [31], [31], [31], [31], [31], [24, 31], [24, 39], [40], [41], [41], [41, 42, 43], [41, 44], [41, 45], [41], [41], [41, 47, 48], [41, 49], [41, 50], [41, 46, 51], [41, 52], [53], [54], [54, 55], [54, 56], [57], [57], [57, 59], [57, 58, 60], [57, 61], [57, 62], [57], [57], [57, 64, 65], [57, 66], [57, 67], [57, 63, 68], [57, 69], [54, 57, 70], [54, 71]] (List.replicate 73 0) (List.replicate 73 0) (List.replicate 73 1000) [.val 10 (.slice (some ⟨b, off, none⟩) n c), .val 11 (.int .i64 (k : Int)), .val 12 (.pointer (some ⟨b, off + k * 3, none⟩)), .val 13 (.pointer (some ⟨b, off + k * 3, none⟩)), .val 14 (.string (mkB y0)), .val 15 (.bool true), .val 16 (.bool false), .val 17 (.bool false), .val 18 (.slice (some ⟨b, off, none⟩) n c), .val 19 (.int .i64 (k : Int)), .val 20 (.pointer (some ⟨b, off + k * 3, none⟩)), .val 21 (.pointer (some ⟨b, off + k * 3 + 1, none⟩)), .val 22 (.string (mkB y1)), .val 23 (.bool false), .val 24 (.bool false), .val 25 undef, .val 26 undef, .val 27 undef, .val 28 undef, .val 29 undef, .val 30 undef, .val 31 undef, .val 32 (.bool false), .val 33 (.bool false), .val 34 (.bool false), .val 35 (.slice (some ⟨b, off, none⟩) n c), .val 36 (.int .i64 (k : Int)), .val 37 (.pointer (some ⟨b, off + k * 3, none⟩)), .val 38 (.pointer (some ⟨b, off + k * 3 + 2, none⟩)), .val 39 (.string (mkB y2)), .val 40 (.bool false), .val 41 (.bool false), .val 42 undef, .val 43 undef, .val 44 undef, .val 45 undef, .val 46 undef, .val 47 undef, .val 48 undef, .val 49 (.bool false), .val 50 (.bool false), .val 51 (.bool false), .val 52 (.slice (some ⟨b, off, none⟩) n c), .val 53 (.int .i64 (k : Int)), .val 54 (.pointer (some ⟨b, off + k * 3, none⟩)), .val 55 (.pointer (some ⟨b, off + k * 3 + 1, none⟩)), .val 56 (.string (mkB y1)), .val 57 (.slice (some ⟨b, off, none⟩) n c), .val 58 (.int .i64 (k : Int)), .val 59 (.pointer (some ⟨b, off + k * 3, none⟩)), .val 60 (.pointer (some ⟨b, off + k * 3 + 2, none⟩)), .val 61 (.string (mkB y2)), .val 62 (.bool false), .val 63 (.bool false), .val 64 (.bool false), .val 65 (.int .i64 (k : Int)), .val 66 (.bool true), .val 67 (.bool true), .val 68 (.slice (some ⟨b, off, none⟩) n c), .val 69 (.int .i64 (k : Int)), .val 70 (.int .i64 (m : Int)), .val 71 (.pointer (some ⟨b, off + m * 3, none⟩)), .val 72 (.pointer (some ⟨b, off + m * 3, none⟩)), .val 73 (.string (mkB x0)), .val 74 (.slice (some ⟨b, off, none⟩) n c), .val 75 (.int .i64 (k : Int)), .val 76 (.pointer (some ⟨b, off + k * 3, none⟩)), .val 77 (.pointer (some ⟨b, off + k * 3, none⟩)), .val 78 (.string (mkB y0)), .val 79 (.int .i64 C), .val 80 (.bool false), .val 81 (.bool false), .val 82 (.bool false)] (by kernel_rfl) ?_ (wr.heap.size) (wr.heap.size) rfl (Below.refl _ _) rfl (fun _ => 0) ?_ ?_ ?_
                    · intro j hj
                      have hj3 : j < 73 := hj
                      clear hj
                      revert j
                      iterate 73 refine lt_step ?_ ?_
                      · exact lt_none
                      all_goals exact trivial
                    · intro j hj0 hj
                      exact absurd hj (Nat.not_lt.2 hj0)
                    · intro i hi
                      have hi3 : i < 73 := hi
                      clear hi
                      revert i
                      iterate 73 refine lt_step ?_ ?_
                      · exact lt_none
                      all_goals intro a wx who hG hF
                      all_goals have hz : a.tmps.size = 83 := hG.size
                      · exact rv rfl rfl rfl hz rfl (ex_move (Or.inl rfl) (eval_slot ((hG.slots 0 (by decide)).trans rfl))) hG
                      · exact rv rfl rfl rfl hz rfl (ex_move (Or.inl rfl) (eval_slot ((hG.slots 3 (by decide)).trans rfl))) hG
                      · exact rv rfl rfl rfl hz rfl (ex_index rfl (ev hF 0 rfl rfl) (ev hF 1 rfl rfl) (idx_ch HKN.out)) hG
                      · exact rv rfl rfl rfl hz rfl (ex_field rfl (ev hF 2 rfl rfl) (by go_simp)) hG
                      · exact rv rfl rfl rfl hz rfl (ex_load rfl (ev hF 3 rfl rfl) (ld_strT (cell_keep C0.out hG.below))) hG
                      · refine rol_call rfl rfl rfl (by rw [hz]; decide) (ex_call rfl (by simp [eval_slot (hF 4 (by decide))]) e1) (KP.out wx) ?_ hG.below (Nat.le_trans HNW.out hG.new)
                        rintro e w1 ⟨rfl, hb1⟩
                        exact ⟨_, rfl, hb1, .inl rfl⟩
                      · exact rv rfl rfl rfl hz rfl (ex_un rfl (ev hF 5 rfl rfl) rfl) hG
                      · exact rv rfl rfl rfl hz rfl (ex_move (Or.inl rfl) (ev hF 6 rfl rfl)) hG
                      · exact ry rfl hF 7 rfl rfl rfl rfl rfl hz rfl (ex_move (Or.inl rfl) (eval_slot ((hG.slots 0 (by decide)).trans rfl))) hG
                      · exact ry rfl hF 7 rfl rfl rfl rfl rfl hz rfl (ex_move (Or.inl rfl) (eval_slot ((hG.slots 3 (by decide)).trans rfl))) hG
                      · exact ry rfl hF 7 rfl rfl rfl rfl rfl hz rfl (ex_index rfl (ev hF 8 rfl rfl) (ev hF 9 rfl rfl) (idx_ch HKN.out)) hG
                      · exact ry rfl hF 7 rfl rfl rfl rfl rfl hz rfl (ex_field rfl (ev hF 10 rfl rfl) (by go_simp)) hG
                      · exact ry rfl hF 7 rfl rfl rfl rfl rfl hz rfl (ex_load rfl (ev hF 11 rfl rfl) (ld_strT (cell_keep C1.out hG.below))) hG
                      · exact ry rfl hF 7 rfl rfl rfl rfl rfl hz rfl (ex_bin rfl (ev hF 12 rfl rfl) rfl (by go_simp) (bin_neNil HE1.out rfl)) hG
                      · exact ry rfl hF 7 rfl rfl rfl rfl rfl hz rfl (ex_move (Or.inl rfl) (ev hF 13 rfl rfl)) hG
                      iterate 7 exact rn rfl hF 14 rfl rfl rfl rfl rfl rfl hz rfl hG
                      · exact ry rfl hF 7 rfl rfl rfl rfl rfl hz rfl (ex_pick_no rfl (ev hF 14 rfl rfl) rfl) hG
                      · exact rv rfl rfl rfl hz rfl (ex_pick_no rfl (ev hF 7 rfl rfl) (ev hF 22 rfl rfl)) hG
                      · exact rv rfl rfl rfl hz rfl (ex_move (Or.inl rfl) (ev hF 23 rfl rfl)) hG
                      · exact ry rfl hF 24 rfl rfl rfl rfl rfl hz rfl (ex_move (Or.inl rfl) (eval_slot ((hG.slots 0 (by decide)).trans rfl))) hG
                      · exact ry rfl hF 24 rfl rfl rfl rfl rfl hz rfl (ex_move (Or.inl rfl) (eval_slot ((hG.slots 3 (by decide)).trans rfl))) hG
                      · exact ry rfl hF 24 rfl rfl rfl rfl rfl hz rfl (ex_index rfl (ev hF 25 rfl rfl) (ev hF 26 rfl rfl) (idx_ch HKN.out)) hG
                      · exact ry rfl hF 24 rfl rfl rfl rfl rfl hz rfl (ex_field rfl (ev hF 27 rfl rfl) (by go_simp)) hG
                      · exact ry rfl hF 24 rfl rfl rfl rfl rfl hz rfl (ex_load rfl (ev hF 28 rfl rfl) (ld_strT (cell_keep C2.out hG.below))) hG
                      · exact ry rfl hF 24 rfl rfl rfl rfl rfl hz rfl (ex_bin rfl (ev hF 29 rfl rfl) rfl (by go_simp) (bin_neNil HE2.out rfl)) hG
                      · exact ry rfl hF 24 rfl rfl rfl rfl rfl hz rfl (ex_move (Or.inl rfl) (ev hF 30 rfl rfl)) hG
                      iterate 7 exact rn rfl hF 31 rfl rfl rfl rfl rfl rfl hz rfl hG
                      · exact ry rfl hF 24 rfl rfl rfl rfl rfl hz rfl (ex_pick_no rfl (ev hF 31 rfl rfl) rfl) hG
                      · exact rv rfl rfl rfl hz rfl (ex_pick_no rfl (ev hF 24 rfl rfl) (ev hF 39 rfl rfl)) hG
                      · exact rv rfl rfl rfl hz rfl (ex_move (Or.inl rfl) (ev hF 40 rfl rfl)) hG
                      · exact ry rfl hF 41 rfl rfl rfl rfl rfl hz rfl (ex_move (Or.inl rfl) (eval_slot ((hG.slots 0 (by decide)).trans rfl))) hG
                      · exact ry rfl hF 41 rfl rfl rfl rfl rfl hz rfl (ex_move (Or.inl rfl) (eval_slot ((hG.slots 3 (by decide)).trans rfl))) hG
                      · exact ry rfl hF 41 rfl rfl rfl rfl rfl hz rfl (ex_index rfl (ev hF 42 rfl rfl) (ev hF 43 rfl rfl) (idx_ch HKN.out)) hG
                      · exact ry rfl hF 41 rfl rfl rfl rfl rfl hz rfl (ex_field rfl (ev hF 44 rfl rfl) (by go_simp)) hG
                      · exact ry rfl hF 41 rfl rfl rfl rfl rfl hz rfl (ex_load rfl (ev hF 45 rfl rfl) (ld_strT (cell_keep C1.out hG.below))) hG
                      · exact ry rfl hF 41 rfl rfl rfl rfl rfl hz rfl (ex_move (Or.inl rfl) (eval_slot ((hG.slots 0 (by decide)).trans rfl))) hG
                      · exact ry rfl hF 41 rfl rfl rfl rfl rfl hz rfl (ex_move (Or.inl rfl) (eval_slot ((hG.slots 3 (by decide)).trans rfl))) hG
                      · exact ry rfl hF 41 rfl rfl rfl rfl rfl hz rfl (ex_index rfl (ev hF 47 rfl rfl) (ev hF 48 rfl rfl) (idx_ch HKN.out)) hG
                      · exact ry rfl hF 41 rfl rfl rfl rfl rfl hz rfl (ex_field rfl (ev hF 49 rfl rfl) (by go_simp)) hG
                      · exact ry rfl hF 41 rfl rfl rfl rfl rfl hz rfl (ex_load rfl (ev hF 50 rfl rfl) (ld_strT (cell_keep C2.out hG.below))) hG
                      · exact ry rfl hF 41 rfl rfl rfl rfl rfl hz rfl (ex_bin rfl (ev hF 46 rfl rfl) (ev hF 51 rfl rfl) (by go_simp) (bin_eqL HEQ.out)) hG
                      · exact rv rfl rfl rfl hz rfl (ex_pick_no rfl (ev hF 41 rfl rfl) (ev hF 52 rfl rfl)) hG
                      · exact rv rfl rfl rfl hz rfl (ex_move (Or.inl rfl) (ev hF 53 rfl rfl)) hG
                      · exact ry rfl hF 54 rfl rfl rfl rfl rfl hz rfl (ex_move (Or.inl rfl) (eval_slot ((hG.slots 3 (by decide)).trans rfl))) hG
                      · exact ry rfl hF 54 rfl rfl rfl rfl rfl hz rfl (ex_bin rfl (ev hF 55 rfl rfl) rfl (by go_simp) (bin_gt0L HZ.out)) hG
                      · exact ry rfl hF 54 rfl rfl rfl rfl rfl hz rfl (ex_move (Or.inl rfl) (ev hF 56 rfl rfl)) hG
                      · exact ry rfl hF 57 rfl rfl rfl rfl rfl hz rfl (ex_move (Or.inl rfl) (eval_slot ((hG.slots 0 (by decide)).trans rfl))) hG
                      · exact ry rfl hF 57 rfl rfl rfl rfl rfl hz rfl (ex_move (Or.inl rfl) (eval_slot ((hG.slots 3 (by decide)).trans rfl))) hG
                      · exact ry rfl hF 57 rfl rfl rfl rfl rfl hz rfl (ex_bin rfl (ev hF 59 rfl rfl) rfl (by go_simp) (bin_sub1 HM2.out HKB.out)) hG
                      · exact ry rfl hF 57 rfl rfl rfl rfl rfl hz rfl (ex_index rfl (ev hF 58 rfl rfl) (ev hF 60 rfl rfl) (idx_ch HMN.out)) hG
                      · exact ry rfl hF 57 rfl rfl rfl rfl rfl hz rfl (ex_field rfl (ev hF 61 rfl rfl) (by go_simp)) hG
                      · exact ry rfl hF 57 rfl rfl rfl rfl rfl hz rfl (ex_load rfl (ev hF 62 rfl rfl) (ld_strT (cell_keep Q0.out hG.below))) hG
                      · exact ry rfl hF 57 rfl rfl rfl rfl rfl hz rfl (ex_move (Or.inl rfl) (eval_slot ((hG.slots 0 (by decide)).trans rfl))) hG
                      · exact ry rfl hF 57 rfl rfl rfl rfl rfl hz rfl (ex_move (Or.inl rfl) (eval_slot ((hG.slots 3 (by decide)).trans rfl))) hG
                      · exact ry rfl hF 57 rfl rfl rfl rfl rfl hz rfl (ex_index rfl (ev hF 64 rfl rfl) (ev hF 65 rfl rfl) (idx_ch HKN.out)) hG
                      · exact ry rfl hF 57 rfl rfl rfl rfl rfl hz rfl (ex_field rfl (ev hF 66 rfl rfl) (by go_simp)) hG
                      · exact ry rfl hF 57 rfl rfl rfl rfl rfl hz rfl (ex_load rfl (ev hF 67 rfl rfl) (ld_strT (cell_keep C0.out hG.below))) hG
                      · refine rol_call rfl (want_yes rfl rfl (hF 57 (by decide))) rfl (by rw [hz]; decide) (ex_call rfl (by simp [eval_slot (hF 63 (by decide)), eval_slot (hF 68 (by decide))]) e3) (KC.out wx) ?_ hG.below (Nat.le_trans HNW.out hG.new)
                        rintro e w1 ⟨rfl, hb1⟩
                        exact ⟨_, rfl, hb1, .inl rfl⟩
                      · exact ry rfl hF 57 rfl rfl rfl rfl rfl hz rfl (ex_bin rfl (ev hF 69 rfl rfl) rfl (by go_simp) (bin_geq0 HGE.out)) hG
                      · exact ry rfl hF 54 rfl rfl rfl rfl rfl hz rfl (ex_pick_yes rfl (ev hF 57 rfl rfl) (ev hF 70 rfl rfl)) hG
                      · exact rv rfl rfl rfl hz rfl (ex_pick_no rfl (ev hF 54 rfl rfl) (ev hF 71 rfl rfl)) hG
                    · intro a wx who hG hF
                      have fv82 : a.tmps.getD 82 undef = .bool false := eval_slot (s := 82) (hF 72 (of_decide_eq_true (by kernel_rfl)) (of_decide_eq_true (by kernel_rfl)))
                      have hbx := hG.below
                      have hnx := hG.new
                      rw [hG.frame]
                      simp only [List.foldl_cons, List.foldl_nil, List.setIfInBounds_toArray, List.set_cons_zero, List.set_cons_succ]
                      rw [fv82]
                      generalize Array.getD a.tmps = uu
                      clear hF hG fv82
                      go_wp2_with fail
                      go_meet
                      exact ⟨by rw [HSX.out]; rfl, Lib.hid (below_step HB.out hbx)⟩
            | false =>
              cases ov2 with
              | true =>
                cases oeq with
                | true =>
                  refine rol_run (by kernel_rfl) [[], [], [0, 1], [2], [3], [4], [5], [6], [7], [7], [7, 8, 9], [7, 10], [7, 11], [7, 12], [7, 13], [14], [14], [14], [14], [14], [14], [14], [7, 14], [7, 22], [23], [24], [24], [24, 25, 26], [24, 27], [24, 28], [24, 29], [24, 30], [31], [31], [31, 32, 33], [31, 34], [31, 35], [31, 36], [31, 37], [24, 31, 38], [24, 39], [40], [41], [41], [41, 42, 43], [41, 44], [41, 45], [41], [41], [41, 47, 48], [41, 49], [41, 50], [41, 46, 51], [41, 52], [53], [54], [54], [54], [57], [57], [57], [57], [57], [57], [57], [57], [57], [57], [57], [57], [57], [54], [54]] (by kernel_rfl) [10, 11, 12, 13, 14, 15, 16, 17, 18, 19, 20, 21, 22, 23, 24, 25, 26, 27, 28, 29, 30, 31, 32, 33, 34, 35, 36, 37, 38, 39, 40, 41, 42, 43, 44, 45, 46, 47, 48, 49, 50, 51, 52, 53, 54, 55, 56, 57, 58, 59, 60, 61, 62, 63, 64, 65, 66, 67, 68, 69, 70, 71, 72, 73, 74, 75, 76, 77, 78, 79, 80, 81, 82] [[], [], [0, 1], [2], [3], [4], [5], [6], [7], [7], [7, 8, 9], [7, 10], [7, 11], [7, 12], [7, 13], [14], [14], [14], [14], [14], [14], [14], [7, 14], [7, 22], [23], [24], [24], [24, 25, 26], [24, 27], [24, 28], [24, 29], [24, 30], [31], [31], [31, 32, 33], [31, 34], [31, 35], [31, 36], [31, 37], [24, 31, 38], [24, 39], [40], [41], [41], [41, 42, 43], [41, 44], [41, 45], [41], [41], [41, 47, 48], [41, 49], [41, 50], [41, 46, 51], [41, 52], [53], [54], [54], [54], [57], [57], [57], [57], [57], [57], [57], [57], [57], [57], [57], [57], [57], [54], [54]] (List.replicate 73 0) (List.replicate 73 0) (List.replicate 73 1000) [.val 10 (.slice (some ⟨b, off, none⟩) n c), .val 11 (.int .i64 (k : Int)), .val 12 (.pointer (some ⟨b, off + k * 3, none⟩)), .val 13 (.pointer (some ⟨b, off + k * 3, none⟩)), .val 14 (.string (mkB y0)), .val 15 (.bool true), .val 16 (.bool false), .val 17 (.bool false), .val 18 (.slice (some ⟨b, off, none⟩) n c), .val 19 (.int .i64 (k : Int)), .val 20 (.pointer (some ⟨b, off + k * 3, none⟩)), .val 21 (.pointer (some ⟨b, off + k * 3 + 1, none⟩)), .val 22 (.string (mkB y1)), .val 23 (.bool false), .val 24 (.bool false), .val 25 undef, .val 26 undef, .val 27 undef, .val 28 undef, .val 29 undef, .val 30 undef, .val 31 undef, .val 32 (.bool false), .val 33 (.bool false), .val 34 (.bool false), .val 35 (.slice (some ⟨b, off, none⟩) n c), .val 36 (.int .i64 (k : Int)), .val 37 (.pointer (some ⟨b, off + k * 3, none⟩)), .val 38 (.pointer (some ⟨b, off + k * 3 + 2, none⟩)), .val 39 (.string (mkB y2)), .val 40 (.bool true), .val 41 (.bool true), .val 42 (.slice (some ⟨b, off, none⟩) n c), .val 43 (.int .i64 (k : Int)), .val 44 (.pointer (some ⟨b, off + k * 3, none⟩)), .val 45 (.pointer (some ⟨b, off + k * 3 + 2, none⟩)), .val 46 (.string (mkB y2)), .val 47 (.bool true), .val 48 (.bool false), .val 49 (.bool false), .val 50 (.bool false), .val 51 (.bool false), .val 52 (.slice (some ⟨b, off, none⟩) n c), .val 53 (.int .i64 (k : Int)), .val 54 (.pointer (some ⟨b, off + k * 3, none⟩)), .val 55 (.pointer (some ⟨b, off + k * 3 + 1, none⟩)), .val 56 (.string (mkB y1)), .val 57 (.slice (some ⟨b, off, none⟩) n c), .val 58 (.int .i64 (k : Int)), .val 59 (.pointer (some ⟨b, off + k * 3, none⟩)), .val 60 (.pointer (some ⟨b, off + k * 3 + 2, none⟩)), .val 61 (.string (mkB y2)), .val 62 (.bool true), .val 63 (.bool true), .val 64 (.bool true), .val 65 undef, .val 66 undef, .val 67 undef, .val 68 undef, .val 69 undef, .val 70 undef, .val 71 undef, .val 72 undef, .val 73 undef, .val 74 undef, .val 75 undef, .val 76 undef, .val 77 undef, .val 78 undef, .val 79 undef, .val 80 undef, .val 81 undef, .val 82 (.bool true)] (by kernel_rfl) ?_ (wr.heap.size) (wr.heap.size) rfl (Below.refl _ _) rfl (fun _ => 0) ?_ ?_ ?_
                  · intro j hj
                    have hj3 : j < 73 := hj
                    clear hj
                    revert j
                    iterate 73 refine lt_step ?_ ?_
                    · exact lt_none
                    all_goals exact trivial
                  · intro j hj0 hj
                    exact absurd hj (Nat.not_lt.2 hj0)
                  · intro i hi
                    have hi3 : i < 73 := hi
                    clear hi
                    revert i
                    iterate 73 refine lt_step ?_ ?_
                    · exact lt_none
                    all_goals intro a wx who hG hF
                    all_goals have hz : a.tmps.size = 83 := hG.size
                    · exact rv rfl rfl rfl hz rfl (ex_move (Or.inl rfl) (eval_slot ((hG.slots 0 (by decide)).trans rfl))) hG
                    · exact rv rfl rfl rfl hz rfl (ex_move (Or.inl rfl) (eval_slot ((hG.slots 3 (by decide)).trans rfl))) hG
                    · exact rv rfl rfl rfl hz rfl (ex_index rfl (ev hF 0 rfl rfl) (ev hF 1 rfl rfl) (idx_ch HKN.out)) hG
                    · exact rv rfl rfl rfl hz rfl (ex_field rfl (ev hF 2 rfl rfl) (by go_simp)) hG
                    · exact rv rfl rfl rfl hz rfl (ex_load rfl (ev hF 3 rfl rfl) (ld_strT (cell_keep C0.out hG.below))) hG
                    · refine rol_call rfl rfl rfl (by rw [hz]; decide) (ex_call rfl (by simp [eval_slot (hF 4 (by decide))]) e1) (KP.out wx) ?_ hG.below (Nat.le_trans HNW.out hG.new)
                      rintro e w1 ⟨rfl, hb1⟩
                      exact ⟨_, rfl, hb1, .inl rfl⟩
                    · exact rv rfl rfl rfl hz rfl (ex_un rfl (ev hF 5 rfl rfl) rfl) hG
                    · exact rv rfl rfl rfl hz rfl (ex_move (Or.inl rfl) (ev hF 6 rfl rfl)) hG
                    · exact ry rfl hF 7 rfl rfl rfl rfl rfl hz rfl (ex_move (Or.inl rfl) (eval_slot ((hG.slots 0 (by decide)).trans rfl))) hG
                    · exact ry rfl hF 7 rfl rfl rfl rfl rfl hz rfl (ex_move (Or.inl rfl) (eval_slot ((hG.slots 3 (by decide)).trans rfl))) hG
                    · exact ry rfl hF 7 rfl rfl rfl rfl rfl hz rfl (ex_index rfl (ev hF 8 rfl rfl) (ev hF 9 rfl rfl) (idx_ch HKN.out)) hG
                    · exact ry rfl hF 7 rfl rfl rfl rfl rfl hz rfl (ex_field rfl (ev hF 10 rfl rfl) (by go_simp)) hG
                    · exact ry rfl hF 7 rfl rfl rfl rfl rfl hz rfl (ex_load rfl (ev hF 11 rfl rfl) (ld_strT (cell_keep C1.out hG.below))) hG
                    · exact ry rfl hF 7 rfl rfl rfl rfl rfl hz rfl (ex_bin rfl (ev hF 12 rfl rfl) rfl (by go_simp) (bin_neNil HE1.out rfl)) hG
                    · exact ry rfl hF 7 rfl rfl rfl rfl rfl hz rfl (ex_move (Or.inl rfl) (ev hF 13 rfl rfl)) hG
                    iterate 7 exact rn rfl hF 14 rfl rfl rfl rfl rfl rfl hz rfl hG
                    · exact ry rfl hF 7 rfl rfl rfl rfl rfl hz rfl (ex_pick_no rfl (ev hF 14 rfl rfl) rfl) hG
                    · exact rv rfl rfl rfl hz rfl (ex_pick_no rfl (ev hF 7 rfl rfl) (ev hF 22 rfl rfl)) hG
                    · exact rv rfl rfl rfl hz rfl (ex_move (Or.inl rfl) (ev hF 23 rfl rfl)) hG
                    · exact ry rfl hF 24 rfl rfl rfl rfl rfl hz rfl (ex_move (Or.inl rfl) (eval_slot ((hG.slots 0 (by decide)).trans rfl))) hG
                    · exact ry rfl hF 24 rfl rfl rfl rfl rfl hz rfl (ex_move (Or.inl rfl) (eval_slot ((hG.slots 3 (by decide)).trans rfl))) hG
                    · exact ry rfl hF 24 rfl rfl rfl rfl rfl hz rfl (ex_index rfl (ev hF 25 rfl rfl) (ev hF 26 rfl rfl) (idx_ch HKN.out)) hG
                    · exact ry rfl hF 24 rfl rfl rfl rfl rfl hz rfl (ex_field rfl (ev hF 27 rfl rfl) (by go_simp)) hG
                    · exact ry rfl hF 24 rfl rfl rfl rfl rfl hz rfl (ex_load rfl (ev hF 28 rfl rfl) (ld_strT (cell_keep C2.out hG.below))) hG
                    · exact ry rfl hF 24 rfl rfl rfl rfl rfl hz rfl (ex_bin rfl (ev hF 29 rfl rfl) rfl (by go_simp) (bin_neNil HE2.out rfl)) hG
                    · exact ry rfl hF 24 rfl rfl rfl rfl rfl hz rfl (ex_move (Or.inl rfl) (ev hF 30 rfl rfl)) hG
                    · exact ry rfl hF 31 rfl rfl rfl rfl rfl hz rfl (ex_move (Or.inl rfl) (eval_slot ((hG.slots 0 (by decide)).trans rfl))) hG
                    · exact ry rfl hF 31 rfl rfl rfl rfl rfl hz rfl (ex_move (Or.inl rfl) (eval_slot ((hG.slots 3 (by decide)).trans rfl))) hG
                    · exact ry rfl hF 31 rfl rfl rfl rfl rfl hz rfl (ex_index rfl (ev hF 32 rfl rfl) (ev hF 33 rfl rfl) (idx_ch HKN.out)) hG
                    · exact ry rfl hF 31 rfl rfl rfl rfl rfl hz rfl (ex_field rfl (ev hF 34 rfl rfl) (by go_simp)) hG
                    · exact ry rfl hF 31 rfl rfl rfl rfl rfl hz rfl (ex_load rfl (ev hF 35 rfl rfl) (ld_strT (cell_keep C2.out hG.below))) hG
                    · refine rol_call rfl (want_yes rfl rfl (hF 31 (by decide))) rfl (by rw [hz]; decide) (ex_call rfl (by simp [eval_slot (hF 36 (by decide))]) e2) (K2.out wx) ?_ hG.below (Nat.le_trans HNW.out hG.new)
                      rintro e w1 ⟨rfl, hb1⟩
                      exact ⟨_, rfl, hb1, .inl rfl⟩
                    · exact ry rfl hF 31 rfl rfl rfl rfl rfl hz rfl (ex_un rfl (ev hF 37 rfl rfl) rfl) hG
                    · exact ry rfl hF 24 rfl rfl rfl rfl rfl hz rfl (ex_pick_yes rfl (ev hF 31 rfl rfl) (ev hF 38 rfl rfl)) hG
                    · exact rv rfl rfl rfl hz rfl (ex_pick_no rfl (ev hF 24 rfl rfl) (ev hF 39 rfl rfl)) hG
                    · exact rv rfl rfl rfl hz rfl (ex_move (Or.inl rfl) (ev hF 40 rfl rfl)) hG
                    · exact ry rfl hF 41 rfl rfl rfl rfl rfl hz rfl (ex_move (Or.inl rfl) (eval_slot ((hG.slots 0 (by decide)).trans rfl))) hG
                    · exact ry rfl hF 41 rfl rfl rfl rfl rfl hz rfl (ex_move (Or.inl rfl) (eval_slot ((hG.slots 3 (by decide)).trans rfl))) hG
                    · exact ry rfl hF 41 rfl rfl rfl rfl rfl hz rfl (ex_index rfl (ev hF 42 rfl rfl) (ev hF 43 rfl rfl) (idx_ch HKN.out)) hG
                    · exact ry rfl hF 41 rfl rfl rfl rfl rfl hz rfl (ex_field rfl (ev hF 44 rfl rfl) (by go_simp)) hG
                    · exact ry rfl hF 41 rfl rfl rfl rfl rfl hz rfl (ex_load rfl (ev hF 45 rfl rfl) (ld_strT (cell_keep C1.out hG.below))) hG
                    · exact ry rfl hF 41 rfl rfl rfl rfl rfl hz rfl (ex_move (Or.inl rfl) (eval_slot ((hG.slots 0 (by decide)).trans rfl))) hG
                    · exact ry rfl hF 41 rfl rfl rfl rfl rfl hz rfl (ex_move (Or.inl rfl) (eval_slot ((hG.slots 3 (by decide)).trans rfl))) hG
                    · exact ry rfl hF 41 rfl rfl rfl rfl rfl hz rfl (ex_index rfl (ev hF 47 rfl rfl) (ev hF 48 rfl rfl) (idx_ch HKN.out)) hG
                    · exact ry rfl hF 41 rfl rfl rfl rfl rfl hz rfl (ex_field rfl (ev hF 49 rfl rfl) (by go_simp)) hG
                    · exact ry rfl hF 41 rfl rfl rfl rfl rfl hz rfl (ex_load rfl (ev hF 50 rfl rfl) (ld_strT (cell_keep C2.out hG.below))) hG
                    · exact ry rfl hF 41 rfl rfl rfl rfl rfl hz rfl (ex_bin rfl (ev hF 46 rfl rfl) (ev hF 51 rfl rfl) (by go_simp) (bin_eqL HEQ.out)) hG
                    · exact rv rfl rfl rfl hz rfl (ex_pick_no rfl (ev hF 41 rfl rfl) (ev hF 52 rfl rfl)) hG
                    · exact rv rfl rfl rfl hz rfl (ex_move (Or.inl rfl) (ev hF 53 rfl rfl)) hG
                    iterate 3 exact rn rfl hF 54 rfl rfl rfl rfl rfl rfl hz rfl hG
                    iterate 13 exact ru rfl hF 57 rfl rfl rfl rfl rfl hz rfl hG
                    · exact rn rfl hF 54 rfl rfl rfl rfl rfl rfl hz rfl hG
                    · exact rv rfl rfl rfl hz rfl (ex_pick_yes rfl (ev hF 54 rfl rfl) rfl) hG
                  · intro a wx who hG hF
                    have fv82 : a.tmps.getD 82 undef = .bool true := eval_slot (s := 82) (hF 72 (of_decide_eq_true (by kernel_rfl)) (of_decide_eq_true (by kernel_rfl)))
                    have hbx := hG.below
                    have hnx := hG.new
                    rw [hG.frame]
                    simp only [List.foldl_cons, List.foldl_nil, List.setIfInBounds_toArray, List.set_cons_zero, List.set_cons_succ]
                    rw [fv82]
                    generalize Array.getD a.tmps = uu
                    clear hF hG fv82
                    go_wp2_with fail
                    go_meet
                    exact ⟨by rw [HSX.out]; rfl, Lib.hid (below_step HB.out hbx)⟩
                | false =>
                  by_cases h0 : k = 0
                  · have HZ := Lib.hid (show decide (0 < k) = false by simp [h0])
                    replace HSX := Lib.hid (HSZ.out h0)
                    clear h0 hm
                    refine rol_run (by kernel_rfl) [[], [], [0, 1], [2], [3], [4], [5], [6], [7], [7], [7, 8, 9], [7, 10], [7, 11], [7, 12], [7, 13], [14], [14], [14], [14], [14], [14], [14], [7, 14], [7, 22], [23], [24], [24], [24, 25, 26], [24, 27], [24, 28], [24, 29], [24, 30], [31], [31], [31, 32, 33], [31, 34], [31, 35], [31, 36], [31, 37], [24, 31, 38], [24, 39], [40], [41], [41], [41, 42, 43], [41, 44], [41, 45], [41], [41], [41, 47, 48], [41, 49], [41, 50], [41, 46, 51], [41, 52], [53], [54], [54, 55], [54, 56], [57], [57], [57], [57], [57], [57], [57], [57], [57], [57], [57], [57], [57], [54, 57], [54, 71]] (by kernel_rfl) [10, 11, 12, 13, 14, 15, 16, 17, 18, 19, 20, 21, 22, 23, 24, 25, 26, 27, 28, 29, 30, 31, 32, 33, 34, 35, 36, 37, 38, 39, 40, 41, 42, 43, 44, 45, 46, 47, 48, 49, 50, 51, 52, 53, 54, 55, 56, 57, 58, 59, 60, 61, 62, 63, 64, 65, 66, 67, 68, 69, 70, 71, 72, 73, 74, 75, 76, 77, 78, 79, 80, 81, 82] [[], [], [0, 1], [2], [3], [4], [5], [6], [7], [7], [7, 8, 9], [7, 10], [7, 11], [7, 12], [7, 13], [14], [14], [14], [14], [14], [14], [14], [7, 14], [7, 22], [23], [24], [24], [24, 25, 26], [24, 27], [24, 28], [24, 29], [24, 30], [31], [31], [31, 32, 33], [31, 34], [31, 35], [31, 36], [31, 37], [24, 31, 38], [24, 39], [40], [41], [41], [41, 42, 43], [41, 44], [41, 45], [41], [41], [41, 47, 48], [41, 49], [41, 50], [41, 46, 51], [41, 52], [53], [54], [54, 55], [54, 56], [57], [57], [57], [57], [57], [57], [57], [57], [57], [57], [57], [57], [57], [54, 57], [54, 71]] (List.replicate 73 0) (List.replicate 73 0) (List.replicate 73 1000) [.val 10 (.slice (some ⟨b, off, none⟩) n c), .val 11 (.int .i64 (k : Int)), .val 12 (.pointer (some ⟨b, off + k * 3, none⟩)), .val 13 (.pointer (some ⟨b, off + k * 3, none⟩)), .val 14 (.string (mkB y0)), .val 15 (.bool true), .val 16 (.bool false), .val 17 (.bool false), .val 18 (.slice (some ⟨b, off, none⟩) n c), .val 19 (.int .i64 (k : Int)), .val 20 (.pointer (some ⟨b, off + k * 3, none⟩)), .val 21 (.pointer (some ⟨b, off + k * 3 + 1, none⟩)), .val 22 (.string (mkB y1)), .val 23 (.bool false), .val 24 (.bool false), .val 25 undef, .val 26 undef, .val 27 undef, .val 28 undef, .val 29 undef, .val 30 undef, .val 31 undef, .val 32 (.bool false), .val 33 (.bool false), .val 34 (.bool false), .val 35 (.slice (some ⟨b, off, none⟩) n c), .val 36 (.int .i64 (k : Int)), .val 37 (.pointer (some ⟨b, off + k * 3, none⟩)), .val 38 (.pointer (some ⟨b, off + k * 3 + 2, none⟩)), .val 39 (.string (mkB y2)), .val 40 (.bool true), .val 41 (.bool true), .val 42 (.slice (some ⟨b, off, none⟩) n c), .val 43 (.int .i64 (k : Int)), .val 44 (.pointer (some ⟨b, off + k * 3, none⟩)), .val 45 (.pointer (some ⟨b, off + k * 3 + 2, none⟩)), .val 46 (.string (mkB y2)), .val 47 (.bool true), .val 48 (.bool false), .val 49 (.bool false), .val 50 (.bool false), .val 51 (.bool false), .val 52 (.slice (some ⟨b, off, none⟩) n c), .val 53 (.int .i64 (k : Int)), .val 54 (.pointer (some ⟨b, off + k * 3, none⟩)), .val 55 (.pointer (some ⟨b, off + k * 3 + 1, none⟩)), .val 56 (.string (mkB y1)), .val 57 (.slice (some ⟨b, off, none⟩) n c), .val 58 (.int .i64 (k : Int)), .val 59 (.pointer (some ⟨b, off + k * 3, none⟩)), .val 60 (.pointer (some ⟨b, off + k * 3 + 2, none⟩)), .val 61 (.string (mkB y2)), .val 62 (.bool false), .val 63 (.bool false), .val 64 (.bool false), .val 65 (.int .i64 (k : Int)), .val 66 (.bool false), .val 67 (.bool false), .val 68 undef, .val 69 undef, .val 70 undef, .val 71 undef, .val 72 undef, .val 73 undef, .val 74 undef, .val 75 undef, .val 76 undef, .val 77 undef, .val 78 undef, .val 79 undef, .val 80 undef, .val 81 (.bool false), .val 82 (.bool false)] (by kernel_rfl) ?_ (wr.heap.size) (wr.heap.size) rfl (Below.refl _ _) rfl (fun _ => 0) ?_ ?_ ?_
                    · intro j hj
                      have hj3 : j < 73 := hj
                      clear hj
                      revert j
                      iterate 73 refine lt_step ?_ ?_
                      · exact lt_none
                      all_goals exact trivial
                    · intro j hj0 hj
                      exact absurd hj (Nat.not_lt.2 hj0)
                    · intro i hi
                      have hi3 : i < 73 := hi
                      clear hi
                      revert i
                      iterate 73 refine lt_step ?_ ?_
                      · exact lt_none
                      all_goals intro a wx who hG hF
                      all_goals have hz : a.tmps.size = 83 := hG.size
                      · exact rv rfl rfl rfl hz rfl (ex_move (Or.inl rfl) (eval_slot ((hG.slots 0 (by decide)).trans rfl))) hG
                      · exact rv rfl rfl rfl hz rfl (ex_move (Or.inl rfl) (eval_slot ((hG.slots 3 (by decide)).trans rfl))) hG
                      · exact rv rfl rfl rfl hz rfl (ex_index rfl (ev hF 0 rfl rfl) (ev hF 1 rfl rfl) (idx_ch HKN.out)) hG
                      · exact rv rfl rfl rfl hz rfl (ex_field rfl (ev hF 2 rfl rfl) (by go_simp)) hG
                      · exact rv rfl rfl rfl hz rfl (ex_load rfl (ev hF 3 rfl rfl) (ld_strT (cell_keep C0.out hG.below))) hG
                      · refine rol_call rfl rfl rfl (by rw [hz]; decide) (ex_call rfl (by simp [eval_slot (hF 4 (by decide))]) e1) (KP.out wx) ?_ hG.below (Nat.le_trans HNW.out hG.new)
                        rintro e w1 ⟨rfl, hb1⟩
                        exact ⟨_, rfl, hb1, .inl rfl⟩
                      · exact rv rfl rfl rfl hz rfl (ex_un rfl (ev hF 5 rfl rfl) rfl) hG
                      · exact rv rfl rfl rfl hz rfl (ex_move (Or.inl rfl) (ev hF 6 rfl rfl)) hG
                      · exact ry rfl hF 7 rfl rfl rfl rfl rfl hz rfl (ex_move (Or.inl rfl) (eval_slot ((hG.slots 0 (by decide)).trans rfl))) hG
                      · exact ry rfl hF 7 rfl rfl rfl rfl rfl hz rfl (ex_move (Or.inl rfl) (eval_slot ((hG.slots 3 (by decide)).trans rfl))) hG
                      · exact ry rfl hF 7 rfl rfl rfl rfl rfl hz rfl (ex_index rfl (ev hF 8 rfl rfl) (ev hF 9 rfl rfl) (idx_ch HKN.out)) hG
                      · exact ry rfl hF 7 rfl rfl rfl rfl rfl hz rfl (ex_field rfl (ev hF 10 rfl rfl) (by go_simp)) hG
                      · exact ry rfl hF 7 rfl rfl rfl rfl rfl hz rfl (ex_load rfl (ev hF 11 rfl rfl) (ld_strT (cell_keep C1.out hG.below))) hG
                      · exact ry rfl hF 7 rfl rfl rfl rfl rfl hz rfl (ex_bin rfl (ev hF 12 rfl rfl) rfl (by go_simp) (bin_neNil HE1.out rfl)) hG
                      · exact ry rfl hF 7 rfl rfl rfl rfl rfl hz rfl (ex_move (Or.inl rfl) (ev hF 13 rfl rfl)) hG
                      iterate 7 exact rn rfl hF 14 rfl rfl rfl rfl rfl rfl hz rfl hG
                      · exact ry rfl hF 7 rfl rfl rfl rfl rfl hz rfl (ex_pick_no rfl (ev hF 14 rfl rfl) rfl) hG
                      · exact rv rfl rfl rfl hz rfl (ex_pick_no rfl (ev hF 7 rfl rfl) (ev hF 22 rfl rfl)) hG
                      · exact rv rfl rfl rfl hz rfl (ex_move (Or.inl rfl) (ev hF 23 rfl rfl)) hG
                      · exact ry rfl hF 24 rfl rfl rfl rfl rfl hz rfl (ex_move (Or.inl rfl) (eval_slot ((hG.slots 0 (by decide)).trans rfl))) hG
                      · exact ry rfl hF 24 rfl rfl rfl rfl rfl hz rfl (ex_move (Or.inl rfl) (eval_slot ((hG.slots 3 (by decide)).trans rfl))) hG
                      · exact ry rfl hF 24 rfl rfl rfl rfl rfl hz rfl (ex_index rfl (ev hF 25 rfl rfl) (ev hF 26 rfl rfl) (idx_ch HKN.out)) hG
                      · exact ry rfl hF 24 rfl rfl rfl rfl rfl hz rfl (ex_field rfl (ev hF 27 rfl rfl) (by go_simp)) hG
                      · exact ry rfl hF 24 rfl rfl rfl rfl rfl hz rfl (ex_load rfl (ev hF 28 rfl rfl) (ld_strT (cell_keep C2.out hG.below))) hG
                      · exact ry rfl hF 24 rfl rfl rfl rfl rfl hz rfl (ex_bin rfl (ev hF 29 rfl rfl) rfl (by go_simp) (bin_neNil HE2.out rfl)) hG
                      · exact ry rfl hF 24 rfl rfl rfl rfl rfl hz rfl (ex_move (Or.inl rfl) (ev hF 30 rfl rfl)) hG
                      · exact ry rfl hF 31 rfl rfl rfl rfl rfl hz rfl (ex_move (Or.inl rfl) (eval_slot ((hG.slots 0 (by decide)).trans rfl))) hG
                      · exact ry rfl hF 31 rfl rfl rfl rfl rfl hz rfl (ex_move (Or.inl rfl) (eval_slot ((hG.slots 3 (by decide)).trans rfl))) hG
                      · exact ry rfl hF 31 rfl rfl rfl rfl rfl hz rfl (ex_index rfl (ev hF 32 rfl rfl) (ev hF 33 rfl rfl) (idx_ch HKN.out)) hG
                      · exact ry rfl hF 31 rfl rfl rfl rfl rfl hz rfl (ex_field rfl (ev hF 34 rfl rfl) (by go_simp)) hG
                      · exact ry rfl hF 31 rfl rfl rfl rfl rfl hz rfl (ex_load rfl (ev hF 35 rfl rfl) (ld_strT (cell_keep C2.out hG.below))) hG
                      · refine rol_call rfl (want_yes rfl rfl (hF 31 (by decide))) rfl (by rw [hz]; decide) (ex_call rfl (by simp [eval_slot (hF 36 (by decide))]) e2) (K2.out wx) ?_ hG.below (Nat.le_trans HNW.out hG.new)
                        rintro e w1 ⟨rfl, hb1⟩
                        exact ⟨_, rfl, hb1, .inl rfl⟩
                      · exact ry rfl hF 31 rfl rfl rfl rfl rfl hz rfl (ex_un rfl (ev hF 37 rfl rfl) rfl) hG
                      · exact ry rfl hF 24 rfl rfl rfl rfl rfl hz rfl (ex_pick_yes rfl (ev hF 31 rfl rfl) (ev hF 38 rfl rfl)) hG
                      · exact rv rfl rfl rfl hz rfl (ex_pick_no rfl (ev hF 24 rfl rfl) (ev hF 39 rfl rfl)) hG
                      · exact rv rfl rfl rfl hz rfl (ex_move (Or.inl rfl) (ev hF 40 rfl rfl)) hG
                      · exact ry rfl hF 41 rfl rfl rfl rfl rfl hz rfl (ex_move (Or.inl rfl) (eval_slot ((hG.slots 0 (by decide)).trans rfl))) hG
                      · exact ry rfl hF 41 rfl rfl rfl rfl rfl hz rfl (ex_move (Or.inl rfl) (eval_slot ((hG.slots 3 (by decide)).trans rfl))) hG
                      · exact ry rfl hF 41 rfl rfl rfl rfl rfl hz rfl (ex_index rfl (ev hF 42 rfl rfl) (ev hF 43 rfl rfl) (idx_ch HKN.out)) hG
                      · exact ry rfl hF 41 rfl rfl rfl rfl rfl hz rfl (ex_field rfl (ev hF 44 rfl rfl) (by go_simp)) hG
                      · exact ry rfl hF 41 rfl rfl rfl rfl rfl hz rfl (ex_load rfl (ev hF 45 rfl rfl) (ld_strT (cell_keep C1.out hG.below))) hG
                      · exact ry rfl hF 41 rfl rfl rfl rfl rfl hz rfl (ex_move (Or.inl rfl) (eval_slot ((hG.slots 0 (by decide)).trans rfl))) hG
                      · exact ry rfl hF 41 rfl rfl rfl rfl rfl hz rfl (ex_move (Or.inl rfl) (eval_slot ((hG.slots 3 (by decide)).trans rfl))) hG
                      · exact ry rfl hF 41 rfl rfl rfl rfl rfl hz rfl (ex_index rfl (ev hF 47 rfl rfl) (ev hF 48 rfl rfl) (idx_ch HKN.out)) hG
                      · exact ry rfl hF 41 rfl rfl rfl rfl rfl hz rfl (ex_field rfl (ev hF 49 rfl rfl) (by go_simp)) hG
                      · exact ry rfl hF 41 rfl rfl rfl rfl rfl hz rfl (ex_load rfl (ev hF 50 rfl rfl) (ld_strT (cell_keep C2.out hG.below))) hG
                      · exact ry rfl hF 41 rfl rfl rfl rfl rfl hz rfl (ex_bin rfl (ev hF 46 rfl rfl) (ev hF 51 rfl rfl) (by go_simp) (bin_eqL HEQ.out)) hG
                      · exact rv rfl rfl rfl hz rfl (ex_pick_no rfl (ev hF 41 rfl rfl) (ev hF 52 rfl rfl)) hG
                      · exact rv rfl rfl rfl hz rfl (ex_move (Or.inl rfl) (ev hF 53 rfl rfl)) hG
                      · exact ry rfl hF 54 rfl rfl rfl rfl rfl hz rfl (ex_move (Or.inl rfl) (eval_slot ((hG.slots 3 (by decide)).trans rfl))) hG
                      · exact ry rfl hF 54 rfl rfl rfl rfl rfl hz rfl (ex_bin rfl (ev hF 55 rfl rfl) rfl (by go_simp) (bin_gt0L HZ.out)) hG
                      · exact ry rfl hF 54 rfl rfl rfl rfl rfl hz rfl (ex_move (Or.inl rfl) (ev hF 56 rfl rfl)) hG
                      iterate 13 exact rn rfl hF 57 rfl rfl rfl rfl rfl rfl hz rfl hG
                      · exact ry rfl hF 54 rfl rfl rfl rfl rfl hz rfl (ex_pick_no rfl (ev hF 57 rfl rfl) rfl) hG
                      · exact rv rfl rfl rfl hz rfl (ex_pick_no rfl (ev hF 54 rfl rfl) (ev hF 71 rfl rfl)) hG
                    · intro a wx who hG hF
                      have fv82 : a.tmps.getD 82 undef = .bool false := eval_slot (s := 82) (hF 72 (of_decide_eq_true (by kernel_rfl)) (of_decide_eq_true (by kernel_rfl)))
                      have hbx := hG.below
                      have hnx := hG.new
                      rw [hG.frame]
                      simp only [List.foldl_cons, List.foldl_nil, List.setIfInBounds_toArray, List.set_cons_zero, List.set_cons_succ]
                      rw [fv82]
                      generalize Array.getD a.tmps = uu
                      clear hF hG fv82
                      go_wp2_with fail
                      go_meet
                      exact ⟨by rw [HSX.out]; rfl, Lib.hid (below_step HB.out hbx)⟩
                  · have HZ := Lib.hid (show decide (0 < k) = true by simp; omega)
                    have HM2 := Lib.hid (show k = m + 1 by omega)
                    replace HSX := Lib.hid (HSN.out h0)
                    clear h0 hm
                    cases oge with
                    | true =>
                      refine rol_run (by kernel_rfl) [[], [], [0, 1], [2], [3], [4], [5], [6], [7], [7], [7, 8, 9], [7, 10], [7, 11], [7, 12], [7, 13], [14], [14], [14], [14], [14], [14], [14], [7, 14], [7, 22], [23], [24], [24], [24, 25, 26], [24, 27], [24, 28], [24, 29], [24, 30], [31], [31], [31, 32, 33], [31, 34], [31, 35], [31, 36], [31, 37], [24, 31, 38], [24, 39], [40], [41], [41], [41, 42, 43], [41, 44], [41, 45], [41], [41], [41, 47, 48], [41, 49], [41, 50], [41, 46, 51], [41, 52], [53], [54], [54, 55], [54, 56], [57], [57], [57, 59], [57, 58, 60], [57, 61], [57, 62], [57], [57], [57, 64, 65], [57, 66], [57, 67], [57, 63, 68], [57, 69], [54, 57, 70], [54, 71]] (by kernel_rfl) [10, 11, 12, 13, 14, 15, 16, 17, 18, 19, 20, 21, 22, 23, 24, 25, 26, 27, 28, 29, 30, 31, 32, 33, 34, 35, 36, 37, 38, 39, 40, 41, 42, 43, 44, 45, 46, 47, 48, 49, 50, 51, 52, 53, 54, 55, 56, 57, 58, 59, 60, 61, 62, 63, 64, 65, 66, 67, 68, 69, 70, 71, 72, 73, 74, 75, 76, 77, 78, 79, 80, 81, 82] [[], [], [0, 1], [2], [3], [4], [5], [6], [7], [7], [7, 8, 9], [7, 10], [7, 11], [7, 12], [7, 13], [14], [14], [14], [14], [14], [14], [14], [7, 14], [7, 22], [23], [24], [24], [24, 25, 26], [24, 27], [24, 28], [24, 29], [24, 30], [31], [31], [31, 32, 33], [31, 34], [31, 35], [31, 36], [31, 37], [24, 31, 38], [24, 39], [40], [41], [41], [41, 42, 43], [41, 44], [41, 45], [41], [41], [41, 47, 48], [41, 49], [41, 50], [41, 46, 51], [41, 52], [53], [54], [54, 55], [54, 56], [57], [57], [57, 59], [57, 58, 60], [57, 61], [57, 62], [57], [57], [57, 64, 65], [57, 66], [57, 67], [57, 63, 68], [57, 69], [54, 57, 70], [54, 71]] (List.replicate 73 0) (List.replicate 73 0) (List.replicate 73 1000) [.val 10 (.slice (some ⟨b, off, none⟩) n c), .val 11 (.int .i64 (k : Int)), .val 12 (.pointer (some ⟨b, off + k * 3, none⟩)), .val 13 (.pointer (some ⟨b, off + k * 3, none⟩)), .val 14 (.string (mkB y0)), .val 15 (.bool true), .val 16 (.bool false), .val 17 (.bool false), .val 18 (.slice (some ⟨b, off, none⟩) n c), .val 19 (.int .i64 (k : Int)), .val 20 (.pointer (some ⟨b, off + k * 3, none⟩)), .val 21 (.pointer (some ⟨b, off + k * 3 + 1, none⟩)), .val 22 (.string (mkB y1)), .val 23 (.bool false), .val 24 (.bool false), .val 25 undef, .val 26 undef, .val 27 undef, .val 28 undef, .val 29 undef, .val 30 undef, .val 31 undef, .val 32 (.bool false), .val 33 (.bool false), .val 34 (.bool false), .val 35 (.slice (some ⟨b, off, none⟩) n c), .val 36 (.int .i64 (k : Int)), .val 37 (.pointer (some ⟨b, off + k * 3, none⟩)), .val 38 (.pointer (some ⟨b, off + k * 3 + 2, none⟩)), .val 39 (.string (mkB y2)), .val 40 (.bool true), .val 41 (.bool true), .val 42 (.slice (some ⟨b, off, none⟩) n c), .val 43 (.int .i64 (k : Int)), .val 44 (.pointer (some ⟨b, off + k * 3, none⟩)), .val 45 (.pointer (some ⟨b, off + k * 3 + 2, none⟩)), .val 46 (.string (mkB y2)), .val 47 (.bool true), .val 48 (.bool false), .val 49 (.bool false), .val 50 (.bool false), .val 51 (.bool false), .val 52 (.slice (some ⟨b, off, none⟩) n c), .val 53 (.int .i64 (k : Int)), .val 54 (.pointer (some ⟨b, off + k * 3, none⟩)), .val 55 (.pointer (some ⟨b, off + k * 3 + 1, none⟩)), .val 56 (.string (mkB y1)), .val 57 (.slice (some ⟨b, off, none⟩) n c), .val 58 (.int .i64 (k : Int)), .val 59 (.pointer (some ⟨b, off + k * 3, none⟩)), .val 60 (.pointer (some ⟨b, off + k * 3 + 2, none⟩)), .val 61 (.string (mkB y2)), .val 62 (.bool false), .val 63 (.bool false), .val 64 (.bool false), .val 65 (.int .i64 (k : Int)), .val 66 (.bool true), .val 67 (.bool true), .val 68 (.slice (some ⟨b, off, none⟩) n c), .val 69 (.int .i64 (k : Int)), .val 70 (.int .i64 (m : Int)), .val 71 (.pointer (some ⟨b, off + m * 3, none⟩)), .val 72 (.pointer (some ⟨b, off + m * 3, none⟩)), .val 73 (.string (mkB x0)), .val 74 (.slice (some ⟨b, off, none⟩) n c), .val 75 (.int .i64 (k : Int)), .val 76 (.pointer (some ⟨b, off + k * 3, none⟩)), .val 77 (.pointer (some ⟨b, off + k * 3, none⟩)), .val 78 (.string (mkB y0)), .val 79 (.int .i64 C), .val 80 (.bool true), .val 81 (.bool true), .val 82 (.bool true)] (by kernel_rfl) ?_ (wr.heap.size) (wr.heap.size) rfl (Below.refl _ _) rfl (fun _ => 0) ?_ ?_ ?_
                      · intro j hj
                        have hj3 : j < 73 := hj
                        clear hj
                        revert j
                        iterate 73 refine lt_step ?_ ?_
                        · exact lt_none
                        all_goals exact trivial
                      · intro j hj0 hj
                        exact absurd hj (Nat.not_lt.2 hj0)
                      · intro i hi
                        have hi3 : i < 73 := hi
                        clear hi
                        revert i
                        iterate 73 refine lt_step ?_ ?_
                        · exact lt_none
                        all_goals intro a wx who hG hF
                        all_goals have hz : a.tmps.size = 83 := hG.size
                        · exact rv rfl rfl rfl hz rfl (ex_move (Or.inl rfl) (eval_slot ((hG.slots 0 (by decide)).trans rfl))) hG
                        · exact rv rfl rfl rfl hz rfl (ex_move (Or.inl rfl) (eval_slot ((hG.slots 3 (by decide)).trans rfl))) hG
                        · exact rv rfl rfl rfl hz rfl (ex_index rfl (ev hF 0 rfl rfl) (ev hF 1 rfl rfl) (idx_ch HKN.out)) hG
                        · exact rv rfl rfl rfl hz rfl (ex_field rfl (ev hF 2 rfl rfl) (by go_simp)) hG
                        · exact rv rfl rfl rfl hz rfl (ex_load rfl (ev hF 3 rfl rfl) (ld_strT (cell_keep C0.out hG.below))) hG
                        · refine rol_call rfl rfl rfl (by rw [hz]; decide) (ex_call rfl (by simp [eval_slot (hF 4 (by decide))]) e1) (KP.out wx) ?_ hG.below (Nat.le_trans HNW.out hG.new)
                          rintro e w1 ⟨rfl, hb1⟩
                          exact ⟨_, rfl, hb1, .inl rfl⟩
                        · exact rv rfl rfl rfl hz rfl (ex_un rfl (ev hF 5 rfl rfl) rfl) hG
                        · exact rv rfl rfl rfl hz rfl (ex_move (Or.inl rfl) (ev hF 6 rfl rfl)) hG
                        · exact ry rfl hF 7 rfl rfl rfl rfl rfl hz rfl (ex_move (Or.inl rfl) (eval_slot ((hG.slots 0 (by decide)).trans rfl))) hG
                        · exact ry rfl hF 7 rfl rfl rfl rfl rfl hz rfl (ex_move (Or.inl rfl) (eval_slot ((hG.slots 3 (by decide)).trans rfl))) hG
                        · exact ry rfl hF 7 rfl rfl rfl rfl rfl hz rfl (ex_index rfl (ev hF 8 rfl rfl) (ev hF 9 rfl rfl) (idx_ch HKN.out)) hG
                        · exact ry rfl hF 7 rfl rfl rfl rfl rfl hz rfl (ex_field rfl (ev hF 10 rfl rfl) (by go_simp)) hG
                        · exact ry rfl hF 7 rfl rfl rfl rfl rfl hz rfl (ex_load rfl (ev hF 11 rfl rfl) (ld_strT (cell_keep C1.out hG.below))) hG
                        · exact ry rfl hF 7 rfl rfl rfl rfl rfl hz rfl (ex_bin rfl (ev hF 12 rfl rfl) rfl (by go_simp) (bin_neNil HE1.out rfl)) hG
                        · exact ry rfl hF 7 rfl rfl rfl rfl rfl hz rfl (ex_move (Or.inl rfl) (ev hF 13 rfl rfl)) hG
                        iterate 7 exact rn rfl hF 14 rfl rfl rfl rfl rfl rfl hz rfl hG
                        · exact ry rfl hF 7 rfl rfl rfl rfl rfl hz rfl (ex_pick_no rfl (ev hF 14 rfl rfl) rfl) hG
                        · exact rv rfl rfl rfl hz rfl (ex_pick_no rfl (ev hF 7 rfl rfl) (ev hF 22 rfl rfl)) hG
                        · exact rv rfl rfl rfl hz rfl (ex_move (Or.inl rfl) (ev hF 23 rfl rfl)) hG
                        · exact ry rfl hF 24 rfl rfl rfl rfl rfl hz rfl (ex_move (Or.inl rfl) (eval_slot ((hG.slots 0 (by decide)).trans rfl))) hG
                        · exact ry rfl hF 24 rfl rfl rfl rfl rfl hz rfl (ex_move (Or.inl rfl) (eval_slot ((hG.slots 3 (by decide)).trans rfl))) hG
                        · exact ry rfl hF 24 rfl rfl rfl rfl rfl hz rfl (ex_index rfl (ev hF 25 rfl rfl) (ev hF 26 rfl rfl) (idx_ch HKN.out)) hG
                        · exact ry rfl hF 24 rfl rfl rfl rfl rfl hz rfl (ex_field rfl (ev hF 27 rfl rfl) (by go_simp)) hG
                        · exact ry rfl hF 24 rfl rfl rfl rfl rfl hz rfl (ex_load rfl (ev hF 28 rfl rfl) (ld_strT (cell_keep C2.out hG.below))) hG
                        · exact ry rfl hF 24 rfl rfl rfl rfl rfl hz rfl (ex_bin rfl (ev hF 29 rfl rfl) rfl (by go_simp) (bin_neNil HE2.out rfl)) hG
                        · exact ry rfl hF 24 rfl rfl rfl rfl rfl hz rfl (ex_move (Or.inl rfl) (ev hF 30 rfl rfl)) hG
                        · exact ry rfl hF 31 rfl rfl rfl rfl rfl hz rfl (ex_move (Or.inl rfl) (eval_slot ((hG.slots 0 (by decide)).trans rfl))) hG
                        · exact ry rfl hF 31 rfl rfl rfl rfl rfl hz rfl (ex_move (Or.inl rfl) (eval_slot ((hG.slots 3 (by decide)).trans rfl))) hG
                        · exact ry rfl hF 31 rfl rfl rfl rfl rfl hz rfl (ex_index rfl (ev hF 32 rfl rfl) (ev hF 33 rfl rfl) (idx_ch HKN.out)) hG
                        · exact ry rfl hF 31 rfl rfl rfl rfl rfl hz rfl (ex_field rfl (ev hF 34 rfl rfl) (by go_simp)) hG
                        · exact ry rfl hF 31 rfl rfl rfl rfl rfl hz rfl (ex_load rfl (ev hF 35 rfl rfl) (ld_strT (cell_keep C2.out hG.below))) hG
                        · refine rol_call rfl (want_yes rfl rfl (hF 31 (by decide))) rfl (by rw [hz]; decide) (ex_call rfl (by simp [eval_slot (hF 36 (by decide))]) e2) (K2.out wx) ?_ hG.below (Nat.le_trans HNW.out hG.new)
                          rintro e w1 ⟨rfl, hb1⟩
                          exact ⟨_, rfl, hb1, .inl rfl⟩
                        · exact ry rfl hF 31 rfl rfl rfl rfl rfl hz rfl (ex_un rfl (ev hF 37 rfl rfl) rfl) hG
                        · exact ry rfl hF 24 rfl rfl rfl rfl rfl hz rfl (ex_pick_yes rfl (ev hF 31 rfl rfl) (ev hF 38 rfl rfl)) hG
                        · exact rv rfl rfl rfl hz rfl (ex_pick_no rfl (ev hF 24 rfl rfl) (ev hF 39 rfl rfl)) hG
                        · exact rv rfl rfl rfl hz rfl (ex_move (Or.inl rfl) (ev hF 40 rfl rfl)) hG
                        · exact ry rfl hF 41 rfl rfl rfl rfl rfl hz rfl (ex_move (Or.inl rfl) (eval_slot ((hG.slots 0 (by decide)).trans rfl))) hG
                        · exact ry rfl hF 41 rfl rfl rfl rfl rfl hz rfl (ex_move (Or.inl rfl) (eval_slot ((hG.slots 3 (by decide)).trans rfl))) hG
                        · exact ry rfl hF 41 rfl rfl rfl rfl rfl hz rfl (ex_index rfl (ev hF 42 rfl rfl) (ev hF 43 rfl rfl) (idx_ch HKN.out)) hG
                        · exact ry rfl hF 41 rfl rfl rfl rfl rfl hz rfl (ex_field rfl (ev hF 44 rfl rfl) (by go_simp)) hG
                        · exact ry rfl hF 41 rfl rfl rfl rfl rfl hz rfl (ex_load rfl (ev hF 45 rfl rfl) (ld_strT (cell_keep C1.out hG.below))) hG
                        · exact ry rfl hF 41 rfl rfl rfl rfl rfl hz rfl (ex_move (Or.inl rfl) (eval_slot ((hG.slots 0 (by decide)).trans rfl))) hG
                        · exact ry rfl hF 41 rfl rfl rfl rfl rfl hz rfl (ex_move (Or.inl rfl) (eval_slot ((hG.slots 3 (by decide)).trans rfl))) hG
                        · exact ry rfl hF 41 rfl rfl rfl rfl rfl hz rfl (ex_index rfl (ev hF 47 rfl rfl) (ev hF 48 rfl rfl) (idx_ch HKN.out)) hG
                        · exact ry rfl hF 41 rfl rfl rfl rfl rfl hz rfl (ex_field rfl (ev hF 49 rfl rfl) (by go_simp)) hG
                        · exact ry rfl hF 41 rfl rfl rfl rfl rfl hz rfl (ex_load rfl (ev hF 50 rfl rfl) (ld_strT (cell_keep C2.out hG.below))) hG
                        · exact ry rfl hF 41 rfl rfl rfl rfl rfl hz rfl (ex_bin rfl (ev hF 46 rfl rfl) (ev hF 51 rfl rfl) (by go_simp) (bin_eqL HEQ.out)) hG
                        · exact rv rfl rfl rfl hz rfl (ex_pick_no rfl (ev hF 41 rfl rfl) (ev hF 52 rfl rfl)) hG
                        · exact rv rfl rfl rfl hz rfl (ex_move (Or.inl rfl) (ev hF 53 rfl rfl)) hG
                        · exact ry rfl hF 54 rfl rfl rfl rfl rfl hz rfl (ex_move (Or.inl rfl) (eval_slot ((hG.slots 3 (by decide)).trans rfl))) hG
                        · exact ry rfl hF 54 rfl rfl rfl rfl rfl hz rfl (ex_bin rfl (ev hF 55 rfl rfl) rfl (by go_simp) (bin_gt0L HZ.out)) hG
                        · exact ry rfl hF 54 rfl rfl rfl rfl rfl hz rfl (ex_move (Or.inl rfl) (ev hF 56 rfl rfl)) hG
                        · exact ry rfl hF 57 rfl rfl rfl rfl rfl hz rfl (ex_move (Or.inl rfl) (eval_slot ((hG.slots 0 (by decide)).trans rfl))) hG
                        · exact ry rfl hF 57 rfl rfl rfl rfl rfl hz rfl (ex_move (Or.inl rfl) (eval_slot ((hG.slots 3 (by decide)).trans rfl))) hG
                        · exact ry rfl hF 57 rfl rfl rfl rfl rfl hz rfl (ex_bin rfl (ev hF 59 rfl rfl) rfl (by go_simp) (bin_sub1 HM2.out HKB.out)) hG
                        · exact ry rfl hF 57 rfl rfl rfl rfl rfl hz rfl (ex_index rfl (ev hF 58 rfl rfl) (ev hF 60 rfl rfl) (idx_ch HMN.out)) hG
                        · exact ry rfl hF 57 rfl rfl rfl rfl rfl hz rfl (ex_field rfl (ev hF 61 rfl rfl) (by go_simp)) hG
                        · exact ry rfl hF 57 rfl rfl rfl rfl rfl hz rfl (ex_load rfl (ev hF 62 rfl rfl) (ld_strT (cell_keep Q0.out hG.below))) hG
                        · exact ry rfl hF 57 rfl rfl rfl rfl rfl hz rfl (ex_move (Or.inl rfl) (eval_slot ((hG.slots 0 (by decide)).trans rfl))) hG
                        · exact ry rfl hF 57 rfl rfl rfl rfl rfl hz rfl (ex_move (Or.inl rfl) (eval_slot ((hG.slots 3 (by decide)).trans rfl))) hG
                        · exact ry rfl hF 57 rfl rfl rfl rfl rfl hz rfl (ex_index rfl (ev hF 64 rfl rfl) (ev hF 65 rfl rfl) (idx_ch HKN.out)) hG
                        · exact ry rfl hF 57 rfl rfl rfl rfl rfl hz rfl (ex_field rfl (ev hF 66 rfl rfl) (by go_simp)) hG
                        · exact ry rfl hF 57 rfl rfl rfl rfl rfl hz rfl (ex_load rfl (ev hF 67 rfl rfl) (ld_strT (cell_keep C0.out hG.below))) hG
                        · refine rol_call rfl (want_yes rfl rfl (hF 57 (by decide))) rfl (by rw [hz]; decide) (ex_call rfl (by simp [eval_slot (hF 63 (by decide)), eval_slot (hF 68 (by decide))]) e3) (KC.out wx) ?_ hG.below (Nat.le_trans HNW.out hG.new)
                          rintro e w1 ⟨rfl, hb1⟩
                          exact ⟨_, rfl, hb1, .inl rfl⟩
                        · exact ry rfl hF 57 rfl rfl rfl rfl rfl hz rfl (ex_bin rfl (ev hF 69 rfl rfl) rfl (by go_simp) (bin_geq0 HGE.out)) hG
                        · exact ry rfl hF 54 rfl rfl rfl rfl rfl hz rfl (ex_pick_yes rfl (ev hF 57 rfl rfl) (ev hF 70 rfl rfl)) hG
                        · exact rv rfl rfl rfl hz rfl (ex_pick_no rfl (ev hF 54 rfl rfl) (ev hF 71 rfl rfl)) hG
                      · intro a wx who hG hF
                        have fv82 : a.tmps.getD 82 undef = .bool true := eval_slot (s := 82) (hF 72 (of_decide_eq_true (by kernel_rfl)) (of_decide_eq_true (by kernel_rfl)))
                        have hbx := hG.below
                        have hnx := hG.new
                        rw [hG.frame]
                        simp only [List.foldl_cons, List.foldl_nil, List.setIfInBounds_toArray, List.set_cons_zero, List.set_cons_succ]
                        rw [fv82]
                        generalize Array.getD a.tmps = uu
                        clear hF hG fv82
                        go_wp2_with fail
                        go_meet
                        exact ⟨by rw [HSX.out]; rfl, Lib.hid (below_step HB.out hbx)⟩
                    | false =>
                      refine rol_run (by kernel_rfl) [[], [], [0, 1], [2], [3], [4], [5], [6], [7], [7], [7, 8, 9], [7, 10], [7, 11], [7, 12], [7, 13], [14], [14], [14], [14], [14], [14], [14], [7, 14], [7, 22], [23], [24], [24], [24, 25, 26], [24, 27], [24, 28], [24, 29], [24, 30], [31], [31], [31, 32, 33], [31, 34], [31, 35], [31, 36], [31, 37], [24, 31, 38], [24, 39], [40], [41], [41], [41, 42, 43], [41, 44], [41, 45], [41], [41], [41, 47, 48], [41, 49], [41, 50], [41, 46, 51], [41, 52], [53], [54], [54, 55], [54, 56], [57], [57], [57, 59], [57, 58, 60], [57, 61], [57, 62], [57], [57], [57, 64, 65], [57, 66], [57, 67], [57, 63, 68], [57, 69], [54, 57, 70], [54, 71]] (by kernel_rfl) [10, 11, 12, 13, 14, 15, 16, 17, 18, 19, 20, 21, 22, 23, 24, 25, 26, 27, 28, 29, 30, 31, 32, 33, 34, 35, 36, 37, 38, 39, 40, 41, 42, 43, 44, 45, 46, 47, 48, 49, 50, 51, 52, 53, 54, 55, 56, 57, 58, 59, 60, 61, 62, 63, 64, 65, 66, 67, 68, 69, 70, 71, 72, 73, 74, 75, 76, 77, 78, 79, 80, 81, 82] [[], [], [0, 1], [2], [3], [4], [5], [6], [7], [7], [7, 8, 9], [7, 10], [7, 11], [7, 12], [7, 13], [14], [14], [14], [14], [14], [14], [14], [7, 14], [7, 22], [23], [24], [24], [24, 25, 26], [24, 27], [24, 28], [24, 29], [24, 30], [31], [31], [31, 32, 33], [31, 34], [31, 35], [31, 36], [31, 37], [24, 31, 38], [24, 39], [40], [41], [41], [41, 42, 43], [41, 44], [41, 45], [41], [41], [41, 47, 48], [41, 49], [41, 50], [41, 46, 51], [41, 52], [53], [54], [54, 55], [54, 56], [57], [57], [57, 59], [57, 58, 60], [57, 61], [57, 62], [57], [57], [57, 64, 65], [57, 66], [57, 67], [57, 63, 68], [57, 69], [54, 57, 70], [54, 71]] (List.replicate 73 0) (List.replicate 73 0) (List.replicate 73 1000) [.val 10 (.slice (some ⟨b, off, none⟩) n c), .val 11 (.int .i64 (k : Int)), .val 12 (.pointer (some ⟨b, off + k * 3, none⟩)), .val 13 (.pointer (some ⟨b, off + k * 3, none⟩)), .val 14 (.string (mkB y0)), .val 15 (.bool true), .val 16 (.bool false), .val 17 (.bool false), .val 18 (.slice (some ⟨b, off, none⟩) n c), .val 19 (.int .i64 (k : Int)), .val 20 (.pointer (some ⟨b, off + k * 3, none⟩)), .val 21 (.pointer (some ⟨b, off + k * 3 + 1, none⟩)), .val 22 (.string (mkB y1)), .val 23 (.bool false), .val 24 (.bool false), .val 25 undef, .val 26 undef, .val 27 undef, .val 28 undef, .val 29 undef, .val 30 undef, .val 31 undef, .val 32 (.bool false), .val 33 (.bool false), .val 34 (.bool false), .val 35 (.slice (some ⟨b, off, none⟩) n c), .val 36 (.int .i64 (k : Int)), .val 37 (.pointer (some ⟨b, off + k * 3, none⟩)), .val 38 (.pointer (some ⟨b, off + k * 3 + 2, none⟩)), .val 39 (.string (mkB y2)), .val 40 (.bool true), .val 41 (.bool true), .val 42 (.slice (some ⟨b, off, none⟩) n c), .val 43 (.int .i64 (k : Int)), .val 44 (.pointer (some ⟨b, off + k * 3, none⟩)), .val 45 (.pointer (some ⟨b, off + k * 3 + 2, none⟩)), .val 46 (.string (mkB y2)), .val 47 (.bool true), .val 48 (.bool false), .val 49 (.bool false), .val 50 (.bool false), .val 51 (.bool false), .val 52 (.slice (some ⟨b, off, none⟩) n c), .val 53 (.int .i64 (k : Int)), .val 54 (.pointer (some ⟨b, off + k * 3, none⟩)), .val 55 (.pointer (some ⟨b, off + k * 3 + 1, none⟩)), .val 56 (.string (mkB y1)), .val 57 (.slice (some ⟨b, off, none⟩) n c), .val 58 (.int .i64 (k : Int)), .val 59 (.pointer (some ⟨b, off + k * 3, none⟩)), .val 60 (.pointer (some ⟨b, off + k * 3 + 2, none⟩)), .val 61 (.string (mkB y2)), .val 62 (.bool false), .val 63 (.bool false), .val 64 (.bool false), .val 65 (.int .i64 (k : Int)), .val 66 (.bool true), .val 67 (.bool true), .val 68 (.slice (some ⟨b, off, none⟩) n c), .val 69 (.int .i64 (k : Int)), .val 70 (.int .i64 (m : Int)), .val 71 (.pointer (some ⟨b, off + m * 3, none⟩)), .val 72 (.pointer (some ⟨b, off + m * 3, none⟩)), .val 73 (.string (mkB x0)), .val 74 (.slice (some ⟨b, off, none⟩) n c), .val 75 (.int .i64 (k : Int)), .val 76 (.pointer (some ⟨b, off + k * 3, none⟩)), .val 77 (.pointer (some ⟨b, off + k * 3, none⟩)), .val 78 (.string (mkB y0)), .val 79 (.int .i64 C), .val 80 (.bool false), .val 81 (.bool false), .val 82 (.bool false)] (by kernel_rfl) ?_ (wr.heap.size) (wr.heap.size) rfl (Below.refl _ _) rfl (fun _ => 0) ?_ ?_ ?_
                      · intro j hj
                        have hj3 : j < 73 := hj
                        clear hj
                        revert j
                        iterate 73 refine lt_step ?_ ?_
                        · exact lt_none
                        all_goals exact trivial
                      · intro j hj0 hj
                        exact absurd hj (Nat.not_lt.2 hj0)
                      · intro i hi
                        have hi3 : i < 73 := hi
                        clear hi
                        revert i
                        iterate 73 refine lt_step ?_ ?_
                        · exact lt_none
                        all_goals intro a wx who hG hF
                        all_goals have hz : a.tmps.size = 83 := hG.size
                        · exact rv rfl rfl rfl hz rfl (ex_move (Or.inl rfl) (eval_slot ((hG.slots 0 (by decide)).trans rfl))) hG
                        · exact rv rfl rfl rfl hz rfl (ex_move (Or.inl rfl) (eval_slot ((hG.slots 3 (by decide)).trans rfl))) hG
                        · exact rv rfl rfl rfl hz rfl (ex_index rfl (ev hF 0 rfl rfl) (ev hF 1 rfl rfl) (idx_ch HKN.out)) hG
                        · exact rv rfl rfl rfl hz rfl (ex_field rfl (ev hF 2 rfl rfl) (by go_simp)) hG
                        · exact rv rfl rfl rfl hz rfl (ex_load rfl (ev hF 3 rfl rfl) (ld_strT (cell_keep C0.out hG.below))) hG
                        · refine rol_call rfl rfl rfl (by rw [hz]; decide) (ex_call rfl (by simp [eval_slot (hF 4 (by decide))]) e1) (KP.out wx) ?_ hG.below (Nat.le_trans HNW.out hG.new)
                          rintro e w1 ⟨rfl, hb1⟩
                          exact ⟨_, rfl, hb1, .inl rfl⟩
                        · exact rv rfl rfl rfl hz rfl (ex_un rfl (ev hF 5 rfl rfl) rfl) hG
                        · exact rv rfl rfl rfl hz rfl (ex_move (Or.inl rfl) (ev hF 6 rfl rfl)) hG
                        · exact ry rfl hF 7 rfl rfl rfl rfl rfl hz rfl (ex_move (Or.inl rfl) (eval_slot ((hG.slots 0 (by decide)).trans rfl))) hG
                        · exact ry rfl hF 7 rfl rfl rfl rfl rfl hz rfl (ex_move (Or.inl rfl) (eval_slot ((hG.slots 3 (by decide)).trans rfl))) hG
                        · exact ry rfl hF 7 rfl rfl rfl rfl rfl hz rfl (ex_index rfl (ev hF 8 rfl rfl) (ev hF 9 rfl rfl) (idx_ch HKN.out)) hG
                        · exact ry rfl hF 7 rfl rfl rfl rfl rfl hz rfl (ex_field rfl (ev hF 10 rfl rfl) (by go_simp)) hG
                        · exact ry rfl hF 7 rfl rfl rfl rfl rfl hz rfl (ex_load rfl (ev hF 11 rfl rfl) (ld_strT (cell_keep C1.out hG.below))) hG
                        · exact ry rfl hF 7 rfl rfl rfl rfl rfl hz rfl (ex_bin rfl (ev hF 12 rfl rfl) rfl (by go_simp) (bin_neNil HE1.out rfl)) hG
                        · exact ry rfl hF 7 rfl rfl rfl rfl rfl hz rfl (ex_move (Or.inl rfl) (ev hF 13 rfl rfl)) hG
                        iterate 7 exact rn rfl hF 14 rfl rfl rfl rfl rfl rfl hz rfl hG
                        · exact ry rfl hF 7 rfl rfl rfl rfl rfl hz rfl (ex_pick_no rfl (ev hF 14 rfl rfl) rfl) hG
                        · exact rv rfl rfl rfl hz rfl (ex_pick_no rfl (ev hF 7 rfl rfl) (ev hF 22 rfl rfl)) hG
                        · exact rv rfl rfl rfl hz rfl (ex_move (Or.inl rfl) (ev hF 23 rfl rfl)) hG
                        · exact ry rfl hF 24 rfl rfl rfl rfl rfl hz rfl (ex_move (Or.inl rfl) (eval_slot ((hG.slots 0 (by decide)).trans rfl))) hG
                        · exact ry rfl hF 24 rfl rfl rfl rfl rfl hz rfl (ex_move (Or.inl rfl) (eval_slot ((hG.slots 3 (by decide)).trans rfl))) hG
                        · exact ry rfl hF 24 rfl rfl rfl rfl rfl hz rfl (ex_index rfl (ev hF 25 rfl rfl) (ev hF 26 rfl rfl) (idx_ch HKN.out)) hG
                        · exact ry rfl hF 24 rfl rfl rfl rfl rfl hz rfl (ex_field rfl (ev hF 27 rfl rfl) (by go_simp)) hG
                        · exact ry rfl hF 24 rfl rfl rfl rfl rfl hz rfl (ex_load rfl (ev hF 28 rfl rfl) (ld_strT (cell_keep C2.out hG.below))) hG
                        · exact ry rfl hF 24 rfl rfl rfl rfl rfl hz rfl (ex_bin rfl (ev hF 29 rfl rfl) rfl (by go_simp) (bin_neNil HE2.out rfl)) hG
                        · exact ry rfl hF 24 rfl rfl rfl rfl rfl hz rfl (ex_move (Or.inl rfl) (ev hF 30 rfl rfl)) hG
                        · exact ry rfl hF 31 rfl rfl rfl rfl rfl hz rfl (ex_move (Or.inl rfl) (eval_slot ((hG.slots 0 (by decide)).trans rfl))) hG
                        · exact ry rfl hF 31 rfl rfl rfl rfl rfl hz rfl (ex_move (Or.inl rfl) (eval_slot ((hG.slots 3 (by decide)).trans rfl))) hG
                        · exact ry rfl hF 31 rfl rfl rfl rfl rfl hz rfl (ex_index rfl (ev hF 32 rfl rfl) (ev hF 33 rfl rfl) (idx_ch HKN.out)) hG
                        · exact ry rfl hF 31 rfl rfl rfl rfl rfl hz rfl (ex_field rfl (ev hF 34 rfl rfl) (by go_simp)) hG
                        · exact ry rfl hF 31 rfl rfl rfl rfl rfl hz rfl (ex_load rfl (ev hF 35 rfl rfl) (ld_strT (cell_keep C2.out hG.below))) hG
                        · refine rol_call rfl (want_yes rfl rfl (hF 31 (by decide))) rfl (by rw [hz]; decide) (ex_call rfl (by simp [eval_slot (hF 36 (by decide))]) e2) (K2.out wx) ?_ hG.below (Nat.le_trans HNW.out hG.new)
                          rintro e w1 ⟨rfl, hb1⟩
                          exact ⟨_, rfl, hb1, .inl rfl⟩
                        · exact ry rfl hF 31 rfl rfl rfl rfl rfl hz rfl (ex_un rfl (ev hF 37 rfl rfl) rfl) hG
                        · exact ry rfl hF 24 rfl rfl rfl rfl rfl hz rfl (ex_pick_yes rfl (ev hF 31 rfl rfl) (ev hF 38 rfl rfl)) hG
                        · exact rv rfl rfl rfl hz rfl (ex_pick_no rfl (ev hF 24 rfl rfl) (ev hF 39 rfl rfl)) hG
                        · exact rv rfl rfl rfl hz rfl (ex_move (Or.inl rfl) (ev hF 40 rfl rfl)) hG
                        · exact ry rfl hF 41 rfl rfl rfl rfl rfl hz rfl (ex_move (Or.inl rfl) (eval_slot ((hG.slots 0 (by decide)).trans rfl))) hG
                        · exact ry rfl hF 41 rfl rfl rfl rfl rfl hz rfl (ex_move (Or.inl rfl) (eval_slot ((hG.slots 3 (by decide)).trans rfl))) hG
                        · exact ry rfl hF 41 rfl rfl rfl rfl rfl hz rfl (ex_index rfl (ev hF 42 rfl rfl) (ev hF 43 rfl rfl) (idx_ch HKN.out)) hG
                        · exact ry rfl hF 41 rfl rfl rfl rfl rfl hz rfl (ex_field rfl (ev hF 44 rfl rfl) (by go_simp)) hG
                        · exact ry rfl hF 41 rfl rfl rfl rfl rfl hz rfl (ex_load rfl (ev hF 45 rfl rfl) (ld_strT (cell_keep C1.out hG.below))) hG
                        · exact ry rfl hF 41 rfl rfl rfl rfl rfl hz rfl (ex_move (Or.inl rfl) (eval_slot ((hG.slots 0 (by decide)).trans rfl))) hG
                        · exact ry rfl hF 41 rfl rfl rfl rfl rfl hz rfl (ex_move (Or.inl rfl) (eval_slot ((hG.slots 3 (by decide)).trans rfl))) hG
                        · exact ry rfl hF 41 rfl rfl rfl rfl rfl hz rfl (ex_index rfl (ev hF 47 rfl rfl) (ev hF 48 rfl rfl) (idx_ch HKN.out)) hG
                        · exact ry rfl hF 41 rfl rfl rfl rfl rfl hz rfl (ex_field rfl (ev hF 49 rfl rfl) (by go_simp)) hG
                        · exact ry rfl hF 41 rfl rfl rfl rfl rfl hz rfl (ex_load rfl (ev hF 50 rfl rfl) (ld_strT (cell_keep C2.out hG.below))) hG
                        · exact ry rfl hF 41 rfl rfl rfl rfl rfl hz rfl (ex_bin rfl (ev hF 46 rfl rfl) (ev hF 51 rfl rfl) (by go_simp) (bin_eqL HEQ.out)) hG
                        · exact rv rfl rfl rfl hz rfl (ex_pick_no rfl (ev hF 41 rfl rfl) (ev hF 52 rfl rfl)) hG
                        · exact rv rfl rfl rfl hz rfl (ex_move (Or.inl rfl) (ev hF 53 rfl rfl)) hG
                        · exact ry rfl hF 54 rfl rfl rfl rfl rfl hz rfl (ex_move (Or.inl rfl) (eval_slot ((hG.slots 3 (by decide)).trans rfl))) hG
                        · exact ry rfl hF 54 rfl rfl rfl rfl rfl hz rfl (ex_bin rfl (ev hF 55 rfl rfl) rfl (by go_simp) (bin_gt0L HZ.out)) hG
                        · exact ry rfl hF 54 rfl rfl rfl rfl rfl hz rfl (ex_move (Or.inl rfl) (ev hF 56 rfl rfl)) hG
                        · exact ry rfl hF 57 rfl rfl rfl rfl rfl hz rfl (ex_move (Or.inl rfl) (eval_slot ((hG.slots 0 (by decide)).trans rfl))) hG
                        · exact ry rfl hF 57 rfl rfl rfl rfl rfl hz rfl (ex_move (Or.inl rfl) (eval_slot ((hG.slots 3 (by decide)).trans rfl))) hG
                        · exact ry rfl hF 57 rfl rfl rfl rfl rfl hz rfl (ex_bin rfl (ev hF 59 rfl rfl) rfl (by go_simp) (bin_sub1 HM2.out HKB.out)) hG
                        · exact ry rfl hF 57 rfl rfl rfl rfl rfl hz rfl (ex_index rfl (ev hF 58 rfl rfl) (ev hF 60 rfl rfl) (idx_ch HMN.out)) hG
                        · exact ry rfl hF 57 rfl rfl rfl rfl rfl hz rfl (ex_field rfl (ev hF 61 rfl rfl) (by go_simp)) hG
                        · exact ry rfl hF 57 rfl rfl rfl rfl rfl hz rfl (ex_load rfl (ev hF 62 rfl rfl) (ld_strT (cell_keep Q0.out hG.below))) hG
                        · exact ry rfl hF 57 rfl rfl rfl rfl rfl hz rfl (ex_move (Or.inl rfl) (eval_slot ((hG.slots 0 (by decide)).trans rfl))) hG
                        · exact ry rfl hF 57 rfl rfl rfl rfl rfl hz rfl (ex_move (Or.inl rfl) (eval_slot ((hG.slots 3 (by decide)).trans rfl))) hG
                        · exact ry rfl hF 57 rfl rfl rfl rfl rfl hz rfl (ex_index rfl (ev hF 64 rfl rfl) (ev hF 65 rfl rfl) (idx_ch HKN.out)) hG
                        · exact ry rfl hF 57 rfl rfl rfl rfl rfl hz rfl (ex_field rfl (ev hF 66 rfl rfl) (by go_simp)) hG
                        · exact ry rfl hF 57 rfl rfl rfl rfl rfl hz rfl (ex_load rfl (ev hF 67 rfl rfl) (ld_strT (cell_keep C0.out hG.below))) hG
                        · refine rol_call rfl (want_yes rfl rfl (hF 57 (by decide))) rfl (by rw [hz]; decide) (ex_call rfl (by simp [eval_slot (hF 63 (by decide)), eval_slot (hF 68 (by decide))]) e3) (KC.out wx) ?_ hG.below (Nat.le_trans HNW.out hG.new)
                          rintro e w1 ⟨rfl, hb1⟩
                          exact ⟨_, rfl, hb1, .inl rfl⟩
                        · exact ry rfl hF 57 rfl rfl rfl rfl rfl hz rfl (ex_bin rfl (ev hF 69 rfl rfl) rfl (by go_simp) (bin_geq0 HGE.out)) hG
                        · exact ry rfl hF 54 rfl rfl rfl rfl rfl hz rfl (ex_pick_yes rfl (ev hF 57 rfl rfl) (ev hF 70 rfl rfl)) hG
                        · exact rv rfl rfl rfl hz rfl (ex_pick_no rfl (ev hF 54 rfl rfl) (ev hF 71 rfl rfl)) hG
                      · intro a wx who hG hF
                        have fv82 : a.tmps.getD 82 undef = .bool false := eval_slot (s := 82) (hF 72 (of_decide_eq_true (by kernel_rfl)) (of_decide_eq_true (by kernel_rfl)))
                        have hbx := hG.below
                        have hnx := hG.new
                        rw [hG.frame]
                        simp only [List.foldl_cons, List.foldl_nil, List.setIfInBounds_toArray, List.set_cons_zero, List.set_cons_succ]
                        rw [fv82]
                        generalize Array.getD a.tmps = uu
                        clear hF hG fv82
                        go_wp2_with fail
                        go_meet
                        exact ⟨by rw [HSX.out]; rfl, Lib.hid (below_step HB.out hbx)⟩
              | false =>
                refine rol_run (by kernel_rfl) [[], [], [0, 1], [2], [3], [4], [5], [6], [7], [7], [7, 8, 9], [7, 10], [7, 11], [7, 12], [7, 13], [14], [14], [14], [14], [14], [14], [14], [7, 14], [7, 22], [23], [24], [24], [24, 25, 26], [24, 27], [24, 28], [24, 29], [24, 30], [31], [31], [31, 32, 33], [31, 34], [31, 35], [31, 36], [31, 37], [24, 31, 38], [24, 39], [40], [41], [41], [41], [41], [41], [41], [41], [41], [41], [41], [41], [41], [53], [54], [54], [54], [57], [57], [57], [57], [57], [57], [57], [57], [57], [57], [57], [57], [57], [54], [54]] (by kernel_rfl) [10, 11, 12, 13, 14, 15, 16, 17, 18, 19, 20, 21, 22, 23, 24, 25, 26, 27, 28, 29, 30, 31, 32, 33, 34, 35, 36, 37, 38, 39, 40, 41, 42, 43, 44, 45, 46, 47, 48, 49, 50, 51, 52, 53, 54, 55, 56, 57, 58, 59, 60, 61, 62, 63, 64, 65, 66, 67, 68, 69, 70, 71, 72, 73, 74, 75, 76, 77, 78, 79, 80, 81, 82] [[], [], [0, 1], [2], [3], [4], [5], [6], [7], [7], [7, 8, 9], [7, 10], [7, 11], [7, 12], [7, 13], [14], [14], [14], [14], [14], [14], [14], [7, 14], [7, 22], [23], [24], [24], [24, 25, 26], [24, 27], [24, 28], [24, 29], [24, 30], [31], [31], [31, 32, 33], [31, 34], [31, 35], [31, 36], [31, 37], [24, 31, 38], [24, 39], [40], [41], [41], [41], [41], [41], [41], [41], [41], [41], [41], [41], [41], [53], [54], [54], [54], [57], [57], [57], [57], [57], [57], [57], [57], [57], [57], [57], [57], [57], [54], [54]] (List.replicate 73 0) (List.replicate 73 0) (List.replicate 73 1000) [.val 10 (.slice (some ⟨b, off, none⟩) n c), .val 11 (.int .i64 (k : Int)), .val 12 (.pointer (some ⟨b, off + k * 3, none⟩)), .val 13 (.pointer (some ⟨b, off + k * 3, none⟩)), .val 14 (.string (mkB y0)), .val 15 (.bool true), .val 16 (.bool false), .val 17 (.bool false), .val 18 (.slice (some ⟨b, off, none⟩) n c), .val 19 (.int .i64 (k : Int)), .val 20 (.pointer (some ⟨b, off + k * 3, none⟩)), .val 21 (.pointer (some ⟨b, off + k * 3 + 1, none⟩)), .val 22 (.string (mkB y1)), .val 23 (.bool false), .val 24 (.bool false), .val 25 undef, .val 26 undef, .val 27 undef, .val 28 undef, .val 29 undef, .val 30 undef, .val 31 undef, .val 32 (.bool false), .val 33 (.bool false), .val 34 (.bool false), .val 35 (.slice (some ⟨b, off, none⟩) n c), .val 36 (.int .i64 (k : Int)), .val 37 (.pointer (some ⟨b, off + k * 3, none⟩)), .val 38 (.pointer (some ⟨b, off + k * 3 + 2, none⟩)), .val 39 (.string (mkB y2)), .val 40 (.bool true), .val 41 (.bool true), .val 42 (.slice (some ⟨b, off, none⟩) n c), .val 43 (.int .i64 (k : Int)), .val 44 (.pointer (some ⟨b, off + k * 3, none⟩)), .val 45 (.pointer (some ⟨b, off + k * 3 + 2, none⟩)), .val 46 (.string (mkB y2)), .val 47 (.bool false), .val 48 (.bool true), .val 49 (.bool true), .val 50 (.bool true), .val 51 (.bool true), .val 52 undef, .val 53 undef, .val 54 undef, .val 55 undef, .val 56 undef, .val 57 undef, .val 58 undef, .val 59 undef, .val 60 undef, .val 61 undef, .val 62 undef, .val 63 (.bool true), .val 64 (.bool true), .val 65 undef, .val 66 undef, .val 67 undef, .val 68 undef, .val 69 undef, .val 70 undef, .val 71 undef, .val 72 undef, .val 73 undef, .val 74 undef, .val 75 undef, .val 76 undef, .val 77 undef, .val 78 undef, .val 79 undef, .val 80 undef, .val 81 undef, .val 82 (.bool true)] (by kernel_rfl) ?_ (wr.heap.size) (wr.heap.size) rfl (Below.refl _ _) rfl (fun _ => 0) ?_ ?_ ?_
                · intro j hj
                  have hj3 : j < 73 := hj
                  clear hj
                  revert j
                  iterate 73 refine lt_step ?_ ?_
                  · exact lt_none
                  all_goals exact trivial
                · intro j hj0 hj
                  exact absurd hj (Nat.not_lt.2 hj0)
                · intro i hi
                  have hi3 : i < 73 := hi
                  clear hi
                  revert i
                  iterate 73 refine lt_step ?_ ?_
                  · exact lt_none
                  all_goals intro a wx who hG hF
                  all_goals have hz : a.tmps.size = 83 := hG.size
                  · exact rv rfl rfl rfl hz rfl (ex_move (Or.inl rfl) (eval_slot ((hG.slots 0 (by decide)).trans rfl))) hG
                  · exact rv rfl rfl rfl hz rfl (ex_move (Or.inl rfl) (eval_slot ((hG.slots 3 (by decide)).trans rfl))) hG
                  · exact rv rfl rfl rfl hz rfl (ex_index rfl (ev hF 0 rfl rfl) (ev hF 1 rfl rfl) (idx_ch HKN.out)) hG
                  · exact rv rfl rfl rfl hz rfl (ex_field rfl (ev hF 2 rfl rfl) (by go_simp)) hG
                  · exact rv rfl rfl rfl hz rfl (ex_load rfl (ev hF 3 rfl rfl) (ld_strT (cell_keep C0.out hG.below))) hG
                  · refine rol_call rfl rfl rfl (by rw [hz]; decide) (ex_call rfl (by simp [eval_slot (hF 4 (by decide))]) e1) (KP.out wx) ?_ hG.below (Nat.le_trans HNW.out hG.new)
                    rintro e w1 ⟨rfl, hb1⟩
                    exact ⟨_, rfl, hb1, .inl rfl⟩
                  · exact rv rfl rfl rfl hz rfl (ex_un rfl (ev hF 5 rfl rfl) rfl) hG
                  · exact rv rfl rfl rfl hz rfl (ex_move (Or.inl rfl) (ev hF 6 rfl rfl)) hG
                  · exact ry rfl hF 7 rfl rfl rfl rfl rfl hz rfl (ex_move (Or.inl rfl) (eval_slot ((hG.slots 0 (by decide)).trans rfl))) hG
                  · exact ry rfl hF 7 rfl rfl rfl rfl rfl hz rfl (ex_move (Or.inl rfl) (eval_slot ((hG.slots 3 (by decide)).trans rfl))) hG
                  · exact ry rfl hF 7 rfl rfl rfl rfl rfl hz rfl (ex_index rfl (ev hF 8 rfl rfl) (ev hF 9 rfl rfl) (idx_ch HKN.out)) hG
                  · exact ry rfl hF 7 rfl rfl rfl rfl rfl hz rfl (ex_field rfl (ev hF 10 rfl rfl) (by go_simp)) hG
                  · exact ry rfl hF 7 rfl rfl rfl rfl rfl hz rfl (ex_load rfl (ev hF 11 rfl rfl) (ld_strT (cell_keep C1.out hG.below))) hG
                  · exact ry rfl hF 7 rfl rfl rfl rfl rfl hz rfl (ex_bin rfl (ev hF 12 rfl rfl) rfl (by go_simp) (bin_neNil HE1.out rfl)) hG
                  · exact ry rfl hF 7 rfl rfl rfl rfl rfl hz rfl (ex_move (Or.inl rfl) (ev hF 13 rfl rfl)) hG
                  iterate 7 exact rn rfl hF 14 rfl rfl rfl rfl rfl rfl hz rfl hG
                  · exact ry rfl hF 7 rfl rfl rfl rfl rfl hz rfl (ex_pick_no rfl (ev hF 14 rfl rfl) rfl) hG
                  · exact rv rfl rfl rfl hz rfl (ex_pick_no rfl (ev hF 7 rfl rfl) (ev hF 22 rfl rfl)) hG
                  · exact rv rfl rfl rfl hz rfl (ex_move (Or.inl rfl) (ev hF 23 rfl rfl)) hG
                  · exact ry rfl hF 24 rfl rfl rfl rfl rfl hz rfl (ex_move (Or.inl rfl) (eval_slot ((hG.slots 0 (by decide)).trans rfl))) hG
                  · exact ry rfl hF 24 rfl rfl rfl rfl rfl hz rfl (ex_move (Or.inl rfl) (eval_slot ((hG.slots 3 (by decide)).trans rfl))) hG
                  · exact ry rfl hF 24 rfl rfl rfl rfl rfl hz rfl (ex_index rfl (ev hF 25 rfl rfl) (ev hF 26 rfl rfl) (idx_ch HKN.out)) hG
                  · exact ry rfl hF 24 rfl rfl rfl rfl rfl hz rfl (ex_field rfl (ev hF 27 rfl rfl) (by go_simp)) hG
                  · exact ry rfl hF 24 rfl rfl rfl rfl rfl hz rfl (ex_load rfl (ev hF 28 rfl rfl) (ld_strT (cell_keep C2.out hG.below))) hG
                  · exact ry rfl hF 24 rfl rfl rfl rfl rfl hz rfl (ex_bin rfl (ev hF 29 rfl rfl) rfl (by go_simp) (bin_neNil HE2.out rfl)) hG
                  · exact ry rfl hF 24 rfl rfl rfl rfl rfl hz rfl (ex_move (Or.inl rfl) (ev hF 30 rfl rfl)) hG
                  · exact ry rfl hF 31 rfl rfl rfl rfl rfl hz rfl (ex_move (Or.inl rfl) (eval_slot ((hG.slots 0 (by decide)).trans rfl))) hG
                  · exact ry rfl hF 31 rfl rfl rfl rfl rfl hz rfl (ex_move (Or.inl rfl) (eval_slot ((hG.slots 3 (by decide)).trans rfl))) hG
                  · exact ry rfl hF 31 rfl rfl rfl rfl rfl hz rfl (ex_index rfl (ev hF 32 rfl rfl) (ev hF 33 rfl rfl) (idx_ch HKN.out)) hG
                  · exact ry rfl hF 31 rfl rfl rfl rfl rfl hz rfl (ex_field rfl (ev hF 34 rfl rfl) (by go_simp)) hG
                  · exact ry rfl hF 31 rfl rfl rfl rfl rfl hz rfl (ex_load rfl (ev hF 35 rfl rfl) (ld_strT (cell_keep C2.out hG.below))) hG
                  · refine rol_call rfl (want_yes rfl rfl (hF 31 (by decide))) rfl (by rw [hz]; decide) (ex_call rfl (by simp [eval_slot (hF 36 (by decide))]) e2) (K2.out wx) ?_ hG.below (Nat.le_trans HNW.out hG.new)
                    rintro e w1 ⟨rfl, hb1⟩
                    exact ⟨_, rfl, hb1, .inl rfl⟩
                  · exact ry rfl hF 31 rfl rfl rfl rfl rfl hz rfl (ex_un rfl (ev hF 37 rfl rfl) rfl) hG
                  · exact ry rfl hF 24 rfl rfl rfl rfl rfl hz rfl (ex_pick_yes rfl (ev hF 31 rfl rfl) (ev hF 38 rfl rfl)) hG
                  · exact rv rfl rfl rfl hz rfl (ex_pick_no rfl (ev hF 24 rfl rfl) (ev hF 39 rfl rfl)) hG
                  · exact rv rfl rfl rfl hz rfl (ex_move (Or.inl rfl) (ev hF 40 rfl rfl)) hG
                  iterate 11 exact rn rfl hF 41 rfl rfl rfl rfl rfl rfl hz rfl hG
                  · exact rv rfl rfl rfl hz rfl (ex_pick_yes rfl (ev hF 41 rfl rfl) rfl) hG
                  · exact rv rfl rfl rfl hz rfl (ex_move (Or.inl rfl) (ev hF 53 rfl rfl)) hG
                  iterate 3 exact rn rfl hF 54 rfl rfl rfl rfl rfl rfl hz rfl hG
                  iterate 13 exact ru rfl hF 57 rfl rfl rfl rfl rfl hz rfl hG
                  · exact rn rfl hF 54 rfl rfl rfl rfl rfl rfl hz rfl hG
                  · exact rv rfl rfl rfl hz rfl (ex_pick_yes rfl (ev hF 54 rfl rfl) rfl) hG
                · intro a wx who hG hF
                  have fv82 : a.tmps.getD 82 undef = .bool true := eval_slot (s := 82) (hF 72 (of_decide_eq_true (by kernel_rfl)) (of_decide_eq_true (by kernel_rfl)))
                  have hbx := hG.below
                  have hnx := hG.new
                  rw [hG.frame]
                  simp only [List.foldl_cons, List.foldl_nil, List.setIfInBounds_toArray, List.set_cons_zero, List.set_cons_succ]
                  rw [fv82]
                  generalize Array.getD a.tmps = uu
                  clear hF hG fv82
                  go_wp2_with fail
                  go_meet
                  exact ⟨by rw [HSX.out]; rfl, Lib.hid (below_step HB.out hbx)⟩
          | false =>
            cases ov1 with
            | true =>
              cases oe2 with
              | true =>
                cases oeq with
                | true =>
                  refine rol_run (by kernel_rfl) [[], [], [0, 1], [2], [3], [4], [5], [6], [7], [7], [7, 8, 9], [7, 10], [7, 11], [7, 12], [7, 13], [14], [14], [14, 15, 16], [14, 17], [14, 18], [14, 19], [14, 20], [7, 14, 21], [7, 22], [23], [24], [24], [24, 25, 26], [24, 27], [24, 28], [24, 29], [24, 30], [31], [31], [31], [31], [31], [31], [31], [24, 31], [24, 39], [40], [41], [41], [41, 42, 43], [41, 44], [41, 45], [41], [41], [41, 47, 48], [41, 49], [41, 50], [41, 46, 51], [41, 52], [53], [54], [54], [54], [57], [57], [57], [57], [57], [57], [57], [57], [57], [57], [57], [57], [57], [54], [54]] (by kernel_rfl) [10, 11, 12, 13, 14, 15, 16, 17, 18, 19, 20, 21, 22, 23, 24, 25, 26, 27, 28, 29, 30, 31, 32, 33, 34, 35, 36, 37, 38, 39, 40, 41, 42, 43, 44, 45, 46, 47, 48, 49, 50, 51, 52, 53, 54, 55, 56, 57, 58, 59, 60, 61, 62, 63, 64, 65, 66, 67, 68, 69, 70, 71, 72, 73, 74, 75, 76, 77, 78, 79, 80, 81, 82] [[], [], [0, 1], [2], [3], [4], [5], [6], [7], [7], [7, 8, 9], [7, 10], [7, 11], [7, 12], [7, 13], [14], [14], [14, 15, 16], [14, 17], [14, 18], [14, 19], [14, 20], [7, 14, 21], [7, 22], [23], [24], [24], [24, 25, 26], [24, 27], [24, 28], [24, 29], [24, 30], [31], [31], [31], [31], [31], [31], [31], [24, 31], [24, 39], [40], [41], [41], [41, 42, 43], [41, 44], [41, 45], [41], [41], [41, 47, 48], [41, 49], [41, 50], [41, 46, 51], [41, 52], [53], [54], [54], [54], [57], [57], [57], [57], [57], [57], [57], [57], [57], [57], [57], [57], [57], [54], [54]] (List.replicate 73 0) (List.replicate 73 0) (List.replicate 73 1000) [.val 10 (.slice (some ⟨b, off, none⟩) n c), .val 11 (.int .i64 (k : Int)), .val 12 (.pointer (some ⟨b, off + k * 3, none⟩)), .val 13 (.pointer (some ⟨b, off + k * 3, none⟩)), .val 14 (.string (mkB y0)), .val 15 (.bool true), .val 16 (.bool false), .val 17 (.bool false), .val 18 (.slice (some ⟨b, off, none⟩) n c), .val 19 (.int .i64 (k : Int)), .val 20 (.pointer (some ⟨b, off + k * 3, none⟩)), .val 21 (.pointer (some ⟨b, off + k * 3 + 1, none⟩)), .val 22 (.string (mkB y1)), .val 23 (.bool true), .val 24 (.bool true), .val 25 (.slice (some ⟨b, off, none⟩) n c), .val 26 (.int .i64 (k : Int)), .val 27 (.pointer (some ⟨b, off + k * 3, none⟩)), .val 28 (.pointer (some ⟨b, off + k * 3 + 1, none⟩)), .val 29 (.string (mkB y1)), .val 30 (.bool true), .val 31 (.bool false), .val 32 (.bool false), .val 33 (.bool false), .val 34 (.bool false), .val 35 (.slice (some ⟨b, off, none⟩) n c), .val 36 (.int .i64 (k : Int)), .val 37 (.pointer (some ⟨b, off + k * 3, none⟩)), .val 38 (.pointer (some ⟨b, off + k * 3 + 2, none⟩)), .val 39 (.string (mkB y2)), .val 40 (.bool false), .val 41 (.bool false), .val 42 undef, .val 43 undef, .val 44 undef, .val 45 undef, .val 46 undef, .val 47 undef, .val 48 undef, .val 49 (.bool false), .val 50 (.bool false), .val 51 (.bool false), .val 52 (.slice (some ⟨b, off, none⟩) n c), .val 53 (.int .i64 (k : Int)), .val 54 (.pointer (some ⟨b, off + k * 3, none⟩)), .val 55 (.pointer (some ⟨b, off + k * 3 + 1, none⟩)), .val 56 (.string (mkB y1)), .val 57 (.slice (some ⟨b, off, none⟩) n c), .val 58 (.int .i64 (k : Int)), .val 59 (.pointer (some ⟨b, off + k * 3, none⟩)), .val 60 (.pointer (some ⟨b, off + k * 3 + 2, none⟩)), .val 61 (.string (mkB y2)), .val 62 (.bool true), .val 63 (.bool true), .val 64 (.bool true), .val 65 undef, .val 66 undef, .val 67 undef, .val 68 undef, .val 69 undef, .val 70 undef, .val 71 undef, .val 72 undef, .val 73 undef, .val 74 undef, .val 75 undef, .val 76 undef, .val 77 undef, .val 78 undef, .val 79 undef, .val 80 undef, .val 81 undef, .val 82 (.bool true)] (by kernel_rfl) ?_ (wr.heap.size) (wr.heap.size) rfl (Below.refl _ _) rfl (fun _ => 0) ?_ ?_ ?_
                  · intro j hj
                    have hj3 : j < 73 := hj
                    clear hj
                    revert j
                    iterate 73 refine lt_step ?_ ?_
                    · exact lt_none
                    all_goals exact trivial
                  · intro j hj0 hj
                    exact absurd hj (Nat.not_lt.2 hj0)
                  · intro i hi
                    have hi3 : i < 73 := hi
                    clear hi
                    revert i
                    iterate 73 refine lt_step ?_ ?_
                    · exact lt_none
                    all_goals intro a wx who hG hF
                    all_goals have hz : a.tmps.size = 83 := hG.size
                    · exact rv rfl rfl rfl hz rfl (ex_move (Or.inl rfl) (eval_slot ((hG.slots 0 (by decide)).trans rfl))) hG
                    · exact rv rfl rfl rfl hz rfl (ex_move (Or.inl rfl) (eval_slot ((hG.slots 3 (by decide)).trans rfl))) hG
                    · exact rv rfl rfl rfl hz rfl (ex_index rfl (ev hF 0 rfl rfl) (ev hF 1 rfl rfl) (idx_ch HKN.out)) hG
                    · exact rv rfl rfl rfl hz rfl (ex_field rfl (ev hF 2 rfl rfl) (by go_simp)) hG
                    · exact rv rfl rfl rfl hz rfl (ex_load rfl (ev hF 3 rfl rfl) (ld_strT (cell_keep C0.out hG.below))) hG
                    · refine rol_call rfl rfl rfl (by rw [hz]; decide) (ex_call rfl (by simp [eval_slot (hF 4 (by decide))]) e1) (KP.out wx) ?_ hG.below (Nat.le_trans HNW.out hG.new)
                      rintro e w1 ⟨rfl, hb1⟩
                      exact ⟨_, rfl, hb1, .inl rfl⟩
                    · exact rv rfl rfl rfl hz rfl (ex_un rfl (ev hF 5 rfl rfl) rfl) hG
                    · exact rv rfl rfl rfl hz rfl (ex_move (Or.inl rfl) (ev hF 6 rfl rfl)) hG
                    · exact ry rfl hF 7 rfl rfl rfl rfl rfl hz rfl (ex_move (Or.inl rfl) (eval_slot ((hG.slots 0 (by decide)).trans rfl))) hG
                    · exact ry rfl hF 7 rfl rfl rfl rfl rfl hz rfl (ex_move (Or.inl rfl) (eval_slot ((hG.slots 3 (by decide)).trans rfl))) hG
                    · exact ry rfl hF 7 rfl rfl rfl rfl rfl hz rfl (ex_index rfl (ev hF 8 rfl rfl) (ev hF 9 rfl rfl) (idx_ch HKN.out)) hG
                    · exact ry rfl hF 7 rfl rfl rfl rfl rfl hz rfl (ex_field rfl (ev hF 10 rfl rfl) (by go_simp)) hG
                    · exact ry rfl hF 7 rfl rfl rfl rfl rfl hz rfl (ex_load rfl (ev hF 11 rfl rfl) (ld_strT (cell_keep C1.out hG.below))) hG
                    · exact ry rfl hF 7 rfl rfl rfl rfl rfl hz rfl (ex_bin rfl (ev hF 12 rfl rfl) rfl (by go_simp) (bin_neNil HE1.out rfl)) hG
                    · exact ry rfl hF 7 rfl rfl rfl rfl rfl hz rfl (ex_move (Or.inl rfl) (ev hF 13 rfl rfl)) hG
                    · exact ry rfl hF 14 rfl rfl rfl rfl rfl hz rfl (ex_move (Or.inl rfl) (eval_slot ((hG.slots 0 (by decide)).trans rfl))) hG
                    · exact ry rfl hF 14 rfl rfl rfl rfl rfl hz rfl (ex_move (Or.inl rfl) (eval_slot ((hG.slots 3 (by decide)).trans rfl))) hG
                    · exact ry rfl hF 14 rfl rfl rfl rfl rfl hz rfl (ex_index rfl (ev hF 15 rfl rfl) (ev hF 16 rfl rfl) (idx_ch HKN.out)) hG
                    · exact ry rfl hF 14 rfl rfl rfl rfl rfl hz rfl (ex_field rfl (ev hF 17 rfl rfl) (by go_simp)) hG
                    · exact ry rfl hF 14 rfl rfl rfl rfl rfl hz rfl (ex_load rfl (ev hF 18 rfl rfl) (ld_strT (cell_keep C1.out hG.below))) hG
                    · refine rol_call rfl (want_yes rfl rfl (hF 14 (by decide))) rfl (by rw [hz]; decide) (ex_call rfl (by simp [eval_slot (hF 19 (by decide))]) e2) (K1.out wx) ?_ hG.below (Nat.le_trans HNW.out hG.new)
                      rintro e w1 ⟨rfl, hb1⟩
                      exact ⟨_, rfl, hb1, .inl rfl⟩
                    · exact ry rfl hF 14 rfl rfl rfl rfl rfl hz rfl (ex_un rfl (ev hF 20 rfl rfl) rfl) hG
                    · exact ry rfl hF 7 rfl rfl rfl rfl rfl hz rfl (ex_pick_yes rfl (ev hF 14 rfl rfl) (ev hF 21 rfl rfl)) hG
                    · exact rv rfl rfl rfl hz rfl (ex_pick_no rfl (ev hF 7 rfl rfl) (ev hF 22 rfl rfl)) hG
                    · exact rv rfl rfl rfl hz rfl (ex_move (Or.inl rfl) (ev hF 23 rfl rfl)) hG
                    · exact ry rfl hF 24 rfl rfl rfl rfl rfl hz rfl (ex_move (Or.inl rfl) (eval_slot ((hG.slots 0 (by decide)).trans rfl))) hG
                    · exact ry rfl hF 24 rfl rfl rfl rfl rfl hz rfl (ex_move (Or.inl rfl) (eval_slot ((hG.slots 3 (by decide)).trans rfl))) hG
                    · exact ry rfl hF 24 rfl rfl rfl rfl rfl hz rfl (ex_index rfl (ev hF 25 rfl rfl) (ev hF 26 rfl rfl) (idx_ch HKN.out)) hG
                    · exact ry rfl hF 24 rfl rfl rfl rfl rfl hz rfl (ex_field rfl (ev hF 27 rfl rfl) (by go_simp)) hG
                    · exact ry rfl hF 24 rfl rfl rfl rfl rfl hz rfl (ex_load rfl (ev hF 28 rfl rfl) (ld_strT (cell_keep C2.out hG.below))) hG
                    · exact ry rfl hF 24 rfl rfl rfl rfl rfl hz rfl (ex_bin rfl (ev hF 29 rfl rfl) rfl (by go_simp) (bin_neNil HE2.out rfl)) hG
                    · exact ry rfl hF 24 rfl rfl rfl rfl rfl hz rfl (ex_move (Or.inl rfl) (ev hF 30 rfl rfl)) hG
                    iterate 7 exact rn rfl hF 31 rfl rfl rfl rfl rfl rfl hz rfl hG
                    · exact ry rfl hF 24 rfl rfl rfl rfl rfl hz rfl (ex_pick_no rfl (ev hF 31 rfl rfl) rfl) hG
                    · exact rv rfl rfl rfl hz rfl (ex_pick_no rfl (ev hF 24 rfl rfl) (ev hF 39 rfl rfl)) hG
                    · exact rv rfl rfl rfl hz rfl (ex_move (Or.inl rfl) (ev hF 40 rfl rfl)) hG
                    · exact ry rfl hF 41 rfl rfl rfl rfl rfl hz rfl (ex_move (Or.inl rfl) (eval_slot ((hG.slots 0 (by decide)).trans rfl))) hG
                    · exact ry rfl hF 41 rfl rfl rfl rfl rfl hz rfl (ex_move (Or.inl rfl) (eval_slot ((hG.slots 3 (by decide)).trans rfl))) hG
                    · exact ry rfl hF 41 rfl rfl rfl rfl rfl hz rfl (ex_index rfl (ev hF 42 rfl rfl) (ev hF 43 rfl rfl) (idx_ch HKN.out)) hG
                    · exact ry rfl hF 41 rfl rfl rfl rfl rfl hz rfl (ex_field rfl (ev hF 44 rfl rfl) (by go_simp)) hG
                    · exact ry rfl hF 41 rfl rfl rfl rfl rfl hz rfl (ex_load rfl (ev hF 45 rfl rfl) (ld_strT (cell_keep C1.out hG.below))) hG
                    · exact ry rfl hF 41 rfl rfl rfl rfl rfl hz rfl (ex_move (Or.inl rfl) (eval_slot ((hG.slots 0 (by decide)).trans rfl))) hG
                    · exact ry rfl hF 41 rfl rfl rfl rfl rfl hz rfl (ex_move (Or.inl rfl) (eval_slot ((hG.slots 3 (by decide)).trans rfl))) hG
                    · exact ry rfl hF 41 rfl rfl rfl rfl rfl hz rfl (ex_index rfl (ev hF 47 rfl rfl) (ev hF 48 rfl rfl) (idx_ch HKN.out)) hG
                    · exact ry rfl hF 41 rfl rfl rfl rfl rfl hz rfl (ex_field rfl (ev hF 49 rfl rfl) (by go_simp)) hG
                    · exact ry rfl hF 41 rfl rfl rfl rfl rfl hz rfl (ex_load rfl (ev hF 50 rfl rfl) (ld_strT (cell_keep C2.out hG.below))) hG
                    · exact ry rfl hF 41 rfl rfl rfl rfl rfl hz rfl (ex_bin rfl (ev hF 46 rfl rfl) (ev hF 51 rfl rfl) (by go_simp) (bin_eqL HEQ.out)) hG
                    · exact rv rfl rfl rfl hz rfl (ex_pick_no rfl (ev hF 41 rfl rfl) (ev hF 52 rfl rfl)) hG
                    · exact rv rfl rfl rfl hz rfl (ex_move (Or.inl rfl) (ev hF 53 rfl rfl)) hG
                    iterate 3 exact rn rfl hF 54 rfl rfl rfl rfl rfl rfl hz rfl hG
                    iterate 13 exact ru rfl hF 57 rfl rfl rfl rfl rfl hz rfl hG
                    · exact rn rfl hF 54 rfl rfl rfl rfl rfl rfl hz rfl hG
                    · exact rv rfl rfl rfl hz rfl (ex_pick_yes rfl (ev hF 54 rfl rfl) rfl) hG
                  · intro a wx who hG hF
                    have fv82 : a.tmps.getD 82 undef = .bool true := eval_slot (s := 82) (hF 72 (of_decide_eq_true (by kernel_rfl)) (of_decide_eq_true (by kernel_rfl)))
                    have hbx := hG.below
                    have hnx := hG.new
                    rw [hG.frame]
                    simp only [List.foldl_cons, List.foldl_nil, List.setIfInBounds_toArray, List.set_cons_zero, List.set_cons_succ]
                    rw [fv82]
                    generalize Array.getD a.tmps = uu
                    clear hF hG fv82
                    go_wp2_with fail
                    go_meet
                    exact ⟨by rw [HSX.out]; rfl, Lib.hid (below_step HB.out hbx)⟩
                | false =>
                  by_cases h0 : k = 0
                  · have HZ := Lib.hid (show decide (0 < k) = false by simp [h0])
                    replace HSX := Lib.hid (HSZ.out h0)
                    clear h0 hm
                    refine rol_run (by kernel_rfl) [[], [], [0, 1], [2], [3], [4], [5], [6], [7], [7], [7, 8, 9], [7, 10], [7, 11], [7, 12], [7, 13], [14], [14], [14, 15, 16], [14, 17], [14, 18], [14, 19], [14, 20], [7, 14, 21], [7, 22], [23], [24], [24], [24, 25, 26], [24, 27], [24, 28], [24, 29], [24, 30], [31], [31], [31], [31], [31], [31], [31], [24, 31], [24, 39], [40], [41], [41], [41, 42, 43], [41, 44], [41, 45], [41], [41], [41, 47, 48], [41, 49], [41, 50], [41, 46, 51], [41, 52], [53], [54], [54, 55], [54, 56], [57], [57], [57], [57], [57], [57], [57], [57], [57], [57], [57], [57], [57], [54, 57], [54, 71]] (by kernel_rfl) [10, 11, 12, 13, 14, 15, 16, 17, 18, 19, 20, 21, 22, 23, 24, 25, 26, 27, 28, 29, 30, 31, 32, 33, 34, 35, 36, 37, 38, 39, 40, 41, 42, 43, 44, 45, 46, 47, 48, 49, 50, 51, 52, 53, 54, 55, 56, 57, 58, 59, 60, 61, 62, 63, 64, 65, 66, 67, 68, 69, 70, 71, 72, 73, 74, 75, 76, 77, 78, 79, 80, 81, 82] [[], [], [0, 1], [2], [3], [4], [5], [6], [7], [7], [7, 8, 9], [7, 10], [7, 11], [7, 12], [7, 13], [14], [14], [14, 15, 16], [14, 17], [14, 18], [14, 19], [14, 20], [7, 14, 21], [7, 22], [23], [24], [24], [24, 25, 26], [24, 27], [24, 28], [24, 29], [24, 30], [31], [31], [31], [31], [31], [31], [31], [24, 31], [24, 39], [40], [41], [41], [41, 42, 43], [41, 44], [41, 45], [41], [41], [41, 47, 48], [41, 49], [41, 50], [41, 46, 51], [41, 52], [53], [54], [54, 55], [54, 56], [57], [57], [57], [57], [57], [57], [57], [57], [57], [57], [57], [57], [57], [54, 57], [54, 71]] (List.replicate 73 0) (List.replicate 73 0) (List.replicate 73 1000) [.val 10 (.slice (some ⟨b, off, none⟩) n c), .val 11 (.int .i64 (k : Int)), .val 12 (.pointer (some ⟨b, off + k * 3, none⟩)), .val 13 (.pointer (some ⟨b, off + k * 3, none⟩)), .val 14 (.string (mkB y0)), .val 15 (.bool true), .val 16 (.bool false), .val 17 (.bool false), .val 18 (.slice (some ⟨b, off, none⟩) n c), .val 19 (.int .i64 (k : Int)), .val 20 (.pointer (some ⟨b, off + k * 3, none⟩)), .val 21 (.pointer (some ⟨b, off + k * 3 + 1, none⟩)), .val 22 (.string (mkB y1)), .val 23 (.bool true), .val 24 (.bool true), .val 25 (.slice (some ⟨b, off, none⟩) n c), .val 26 (.int .i64 (k : Int)), .val 27 (.pointer (some ⟨b, off + k * 3, none⟩)), .val 28 (.pointer (some ⟨b, off + k * 3 + 1, none⟩)), .val 29 (.string (mkB y1)), .val 30 (.bool true), .val 31 (.bool false), .val 32 (.bool false), .val 33 (.bool false), .val 34 (.bool false), .val 35 (.slice (some ⟨b, off, none⟩) n c), .val 36 (.int .i64 (k : Int)), .val 37 (.pointer (some ⟨b, off + k * 3, none⟩)), .val 38 (.pointer (some ⟨b, off + k * 3 + 2, none⟩)), .val 39 (.string (mkB y2)), .val 40 (.bool false), .val 41 (.bool false), .val 42 undef, .val 43 undef, .val 44 undef, .val 45 undef, .val 46 undef, .val 47 undef, .val 48 undef, .val 49 (.bool false), .val 50 (.bool false), .val 51 (.bool false), .val 52 (.slice (some ⟨b, off, none⟩) n c), .val 53 (.int .i64 (k : Int)), .val 54 (.pointer (some ⟨b, off + k * 3, none⟩)), .val 55 (.pointer (some ⟨b, off + k * 3 + 1, none⟩)), .val 56 (.string (mkB y1)), .val 57 (.slice (some ⟨b, off, none⟩) n c), .val 58 (.int .i64 (k : Int)), .val 59 (.pointer (some ⟨b, off + k * 3, none⟩)), .val 60 (.pointer (some ⟨b, off + k * 3 + 2, none⟩)), .val 61 (.string (mkB y2)), .val 62 (.bool false), .val 63 (.bool false), .val 64 (.bool false), .val 65 (.int .i64 (k : Int)), .val 66 (.bool false), .val 67 (.bool false), .val 68 undef, .val 69 undef, .val 70 undef, .val 71 undef, .val 72 undef, .val 73 undef, .val 74 undef, .val 75 undef, .val 76 undef, .val 77 undef, .val 78 undef, .val 79 undef, .val 80 undef, .val 81 (.bool false), .val 82 (.bool false)] (by kernel_rfl) ?_ (wr.heap.size) (wr.heap.size) rfl (Below.refl _ _) rfl (fun _ => 0) ?_ ?_ ?_
                    · intro j hj
                      have hj3 : j < 73 := hj
                      clear hj
                      revert j
                      iterate 73 refine lt_step ?_ ?_
                      · exact lt_none
                      all_goals exact trivial
                    · intro j hj0 hj
                      exact absurd hj (Nat.not_lt.2 hj0)
                    · intro i hi
                      have hi3 : i < 73 := hi
                      clear hi
                      revert i
                      iterate 73 refine lt_step ?_ ?_
                      · exact lt_none
                      all_goals intro a wx who hG hF
                      all_goals have hz : a.tmps.size = 83 := hG.size
                      · exact rv rfl rfl rfl hz rfl (ex_move (Or.inl rfl) (eval_slot ((hG.slots 0 (by decide)).trans rfl))) hG
                      · exact rv rfl rfl rfl hz rfl (ex_move (Or.inl rfl) (eval_slot ((hG.slots 3 (by decide)).trans rfl))) hG
                      · exact rv rfl rfl rfl hz rfl (ex_index rfl (ev hF 0 rfl rfl) (ev hF 1 rfl rfl) (idx_ch HKN.out)) hG
                      · exact rv rfl rfl rfl hz rfl (ex_field rfl (ev hF 2 rfl rfl) (by go_simp)) hG
                      · exact rv rfl rfl rfl hz rfl (ex_load rfl (ev hF 3 rfl rfl) (ld_strT (cell_keep C0.out hG.below))) hG
                      · refine rol_call rfl rfl rfl (by rw [hz]; decide) (ex_call rfl (by simp [eval_slot (hF 4 (by decide))]) e1) (KP.out wx) ?_ hG.below (Nat.le_trans HNW.out hG.new)
                        rintro e w1 ⟨rfl, hb1⟩
                        exact ⟨_, rfl, hb1, .inl rfl⟩
                      · exact rv rfl rfl rfl hz rfl (ex_un rfl (ev hF 5 rfl rfl) rfl) hG
                      · exact rv rfl rfl rfl hz rfl (ex_move (Or.inl rfl) (ev hF 6 rfl rfl)) hG
                      · exact ry rfl hF 7 rfl rfl rfl rfl rfl hz rfl (ex_move (Or.inl rfl) (eval_slot ((hG.slots 0 (by decide)).trans rfl))) hG
                      · exact ry rfl hF 7 rfl rfl rfl rfl rfl hz rfl (ex_move (Or.inl rfl) (eval_slot ((hG.slots 3 (by decide)).trans rfl))) hG
                      · exact ry rfl hF 7 rfl rfl rfl rfl rfl hz rfl (ex_index rfl (ev hF 8 rfl rfl) (ev hF 9 rfl rfl) (idx_ch HKN.out)) hG
                      · exact ry rfl hF 7 rfl rfl rfl rfl rfl hz rfl (ex_field rfl (ev hF 10 rfl rfl) (by go_simp)) hG
                      · exact ry rfl hF 7 rfl rfl rfl rfl rfl hz rfl (ex_load rfl (ev hF 11 rfl rfl) (ld_strT (cell_keep C1.out hG.below))) hG
                      · exact ry rfl hF 7 rfl rfl rfl rfl rfl hz rfl (ex_bin rfl (ev hF 12 rfl rfl) rfl (by go_simp) (bin_neNil HE1.out rfl)) hG
                      · exact ry rfl hF 7 rfl rfl rfl rfl rfl hz rfl (ex_move (Or.inl rfl) (ev hF 13 rfl rfl)) hG
                      · exact ry rfl hF 14 rfl rfl rfl rfl rfl hz rfl (ex_move (Or.inl rfl) (eval_slot ((hG.slots 0 (by decide)).trans rfl))) hG
                      · exact ry rfl hF 14 rfl rfl rfl rfl rfl hz rfl (ex_move (Or.inl rfl) (eval_slot ((hG.slots 3 (by decide)).trans rfl))) hG
                      · exact ry rfl hF 14 rfl rfl rfl rfl rfl hz rfl (ex_index rfl (ev hF 15 rfl rfl) (ev hF 16 rfl rfl) (idx_ch HKN.out)) hG
                      · exact ry rfl hF 14 rfl rfl rfl rfl rfl hz rfl (ex_field rfl (ev hF 17 rfl rfl) (by go_simp)) hG
                      · exact ry rfl hF 14 rfl rfl rfl rfl rfl hz rfl (ex_load rfl (ev hF 18 rfl rfl) (ld_strT (cell_keep C1.out hG.below))) hG
                      · refine rol_call rfl (want_yes rfl rfl (hF 14 (by decide))) rfl (by rw [hz]; decide) (ex_call rfl (by simp [eval_slot (hF 19 (by decide))]) e2) (K1.out wx) ?_ hG.below (Nat.le_trans HNW.out hG.new)
                        rintro e w1 ⟨rfl, hb1⟩
                        exact ⟨_, rfl, hb1, .inl rfl⟩
                      · exact ry rfl hF 14 rfl rfl rfl rfl rfl hz rfl (ex_un rfl (ev hF 20 rfl rfl) rfl) hG
                      · exact ry rfl hF 7 rfl rfl rfl rfl rfl hz rfl (ex_pick_yes rfl (ev hF 14 rfl rfl) (ev hF 21 rfl rfl)) hG
                      · exact rv rfl rfl rfl hz rfl (ex_pick_no rfl (ev hF 7 rfl rfl) (ev hF 22 rfl rfl)) hG
                      · exact rv rfl rfl rfl hz rfl (ex_move (Or.inl rfl) (ev hF 23 rfl rfl)) hG
                      · exact ry rfl hF 24 rfl rfl rfl rfl rfl hz rfl (ex_move (Or.inl rfl) (eval_slot ((hG.slots 0 (by decide)).trans rfl))) hG
                      · exact ry rfl hF 24 rfl rfl rfl rfl rfl hz rfl (ex_move (Or.inl rfl) (eval_slot ((hG.slots 3 (by decide)).trans rfl))) hG
                      · exact ry rfl hF 24 rfl rfl rfl rfl rfl hz rfl (ex_index rfl (ev hF 25 rfl rfl) (ev hF 26 rfl rfl) (idx_ch HKN.out)) hG
                      · exact ry rfl hF 24 rfl rfl rfl rfl rfl hz rfl (ex_field rfl (ev hF 27 rfl rfl) (by go_simp)) hG
                      · exact ry rfl hF 24 rfl rfl rfl rfl rfl hz rfl (ex_load rfl (ev hF 28 rfl rfl) (ld_strT (cell_keep C2.out hG.below))) hG
                      · exact ry rfl hF 24 rfl rfl rfl rfl rfl hz rfl (ex_bin rfl (ev hF 29 rfl rfl) rfl (by go_simp) (bin_neNil HE2.out rfl)) hG
                      · exact ry rfl hF 24 rfl rfl rfl rfl rfl hz rfl (ex_move (Or.inl rfl) (ev hF 30 rfl rfl)) hG
                      iterate 7 exact rn rfl hF 31 rfl rfl rfl rfl rfl rfl hz rfl hG
                      · exact ry rfl hF 24 rfl rfl rfl rfl rfl hz rfl (ex_pick_no rfl (ev hF 31 rfl rfl) rfl) hG
                      · exact rv rfl rfl rfl hz rfl (ex_pick_no rfl (ev hF 24 rfl rfl) (ev hF 39 rfl rfl)) hG
                      · exact rv rfl rfl rfl hz rfl (ex_move (Or.inl rfl) (ev hF 40 rfl rfl)) hG
                      · exact ry rfl hF 41 rfl rfl rfl rfl rfl hz rfl (ex_move (Or.inl rfl) (eval_slot ((hG.slots 0 (by decide)).trans rfl))) hG
                      · exact ry rfl hF 41 rfl rfl rfl rfl rfl hz rfl (ex_move (Or.inl rfl) (eval_slot ((hG.slots 3 (by decide)).trans rfl))) hG
                      · exact ry rfl hF 41 rfl rfl rfl rfl rfl hz rfl (ex_index rfl (ev hF 42 rfl rfl) (ev hF 43 rfl rfl) (idx_ch HKN.out)) hG
                      · exact ry rfl hF 41 rfl rfl rfl rfl rfl hz rfl (ex_field rfl (ev hF 44 rfl rfl) (by go_simp)) hG
                      · exact ry rfl hF 41 rfl rfl rfl rfl rfl hz rfl (ex_load rfl (ev hF 45 rfl rfl) (ld_strT (cell_keep C1.out hG.below))) hG
                      · exact ry rfl hF 41 rfl rfl rfl rfl rfl hz rfl (ex_move (Or.inl rfl) (eval_slot ((hG.slots 0 (by decide)).trans rfl))) hG
                      · exact ry rfl hF 41 rfl rfl rfl rfl rfl hz rfl (ex_move (Or.inl rfl) (eval_slot ((hG.slots 3 (by decide)).trans rfl))) hG
                      · exact ry rfl hF 41 rfl rfl rfl rfl rfl hz rfl (ex_index rfl (ev hF 47 rfl rfl) (ev hF 48 rfl rfl) (idx_ch HKN.out)) hG
                      · exact ry rfl hF 41 rfl rfl rfl rfl rfl hz rfl (ex_field rfl (ev hF 49 rfl rfl) (by go_simp)) hG
                      · exact ry rfl hF 41 rfl rfl rfl rfl rfl hz rfl (ex_load rfl (ev hF 50 rfl rfl) (ld_strT (cell_keep C2.out hG.below))) hG
                      · exact ry rfl hF 41 rfl rfl rfl rfl rfl hz rfl (ex_bin rfl (ev hF 46 rfl rfl) (ev hF 51 rfl rfl) (by go_simp) (bin_eqL HEQ.out)) hG
                      · exact rv rfl rfl rfl hz rfl (ex_pick_no rfl (ev hF 41 rfl rfl) (ev hF 52 rfl rfl)) hG
                      · exact rv rfl rfl rfl hz rfl (ex_move (Or.inl rfl) (ev hF 53 rfl rfl)) hG
                      · exact ry rfl hF 54 rfl rfl rfl rfl rfl hz rfl (ex_move (Or.inl rfl) (eval_slot ((hG.slots 3 (by decide)).trans rfl))) hG
                      · exact ry rfl hF 54 rfl rfl rfl rfl rfl hz rfl (ex_bin rfl (ev hF 55 rfl rfl) rfl (by go_simp) (bin_gt0L HZ.out)) hG
                      · exact ry rfl hF 54 rfl rfl rfl rfl rfl hz rfl (ex_move (Or.inl rfl) (ev hF 56 rfl rfl)) hG
                      iterate 13 exact rn rfl hF 57 rfl rfl rfl rfl rfl rfl hz rfl hG
                      · exact ry rfl hF 54 rfl rfl rfl rfl rfl hz rfl (ex_pick_no rfl (ev hF 57 rfl rfl) rfl) hG
                      · exact rv rfl rfl rfl hz rfl (ex_pick_no rfl (ev hF 54 rfl rfl) (ev hF 71 rfl rfl)) hG
                    · intro a wx who hG hF
                      have fv82 : a.tmps.getD 82 undef = .bool false := eval_slot (s := 82) (hF 72 (of_decide_eq_true (by kernel_rfl)) (of_decide_eq_true (by kernel_rfl)))
                      have hbx := hG.below
                      have hnx := hG.new
                      rw [hG.frame]
                      simp only [List.foldl_cons, List.foldl_nil, List.setIfInBounds_toArray, List.set_cons_zero, List.set_cons_succ]
                      rw [fv82]
                      generalize Array.getD a.tmps = uu
                      clear hF hG fv82
                      go_wp2_with fail
                      go_meet
                      exact ⟨by rw [HSX.out]; rfl, Lib.hid (below_step HB.out hbx)⟩
                  · have HZ := Lib.hid (show decide (0 < k) = true by simp; omega)
                    have HM2 := Lib.hid (show k = m + 1 by omega)
                    replace HSX := Lib.hid (HSN.out h0)
                    clear h0 hm
                    cases oge with
                    | true =>
                      refine rol_run (by kernel_rfl) [[], [], [0, 1], [2], [3], [4], [5], [6], [7], [7], [7, 8, 9], [7, 10], [7, 11], [7, 12], [7, 13], [14], [14], [14, 15, 16], [14, 17], [14, 18], [14, 19], [14, 20], [7, 14, 21], [7, 22], [23], [24], [24], [24, 25, 26], [24, 27], [24, 28], [24, 29], [24, 30], [31], [31], [31], [31], [31], [31], [31], [24, 31], [24, 39], [40], [41], [41], [41, 42, 43], [41, 44], [41, 45], [41], [41], [41, 47, 48], [41, 49], [41, 50], [41, 46, 51], [41, 52], [53], [54], [54, 55], [54, 56], [57], [57], [57, 59], [57, 58, 60], [57, 61], [57, 62], [57], [57], [57, 64, 65], [57, 66], [57, 67], [57, 63, 68], [57, 69], [54, 57, 70], [54, 71]] (by kernel_rfl) [10, 11, 12, 13, 14, 15, 16, 17, 18, 19, 20, 21, 22, 23, 24, 25, 26, 27, 28, 29, 30, 31, 32, 33, 34, 35, 36, 37, 38, 39, 40, 41, 42, 43, 44, 45, 46, 47, 48, 49, 50, 51, 52, 53, 54, 55, 56, 57, 58, 59, 60, 61, 62, 63, 64, 65, 66, 67, 68, 69, 70, 71, 72, 73, 74, 75, 76, 77, 78, 79, 80, 81, 82] [[], [], [0, 1], [2], [3], [4], [5], [6], [7], [7], [7, 8, 9], [7, 10], [7, 11], [7, 12], [7, 13], [14], [14], [14, 15, 16], [14, 17], [14, 18], [14, 19], [14, 20], [7, 14, 21], [7, 22], [23], [24], [24], [24, 25, 26], [24, 27], [24, 28], [24, 29], [24, 30], [31], [31], [31], [31], [31], [31], [31], [24, 31], [24, 39], [40], [41], [41], [41, 42, 43], [41, 44], [41, 45], [41], [41], [41, 47, 48], [41, 49], [41, 50], [41, 46, 51], [41, 52], [53], [54], [54, 55], [54, 56], [57], [57], [57, 59], [57, 58, 60], [57, 61], [57, 62], [57], [57], [57, 64, 65], [57, 66], [57, 67], [57, 63, 68], [57, 69], [54, 57, 70], [54, 71]] (List.replicate 73 0) (List.replicate 73 0) (List.replicate 73 1000) [.val 10 (.slice (some ⟨b, off, none⟩) n c), .val 11 (.int .i64 (k : Int)), .val 12 (.pointer (some ⟨b, off + k * 3, none⟩)), .val 13 (.pointer (some ⟨b, off + k * 3, none⟩)), .val 14 (.string (mkB y0)), .val 15 (.bool true), .val 16 (.bool false), .val 17 (.bool false), .val 18 (.slice (some ⟨b, off, none⟩) n c), .val 19 (.int .i64 (k : Int)), .val 20 (.pointer (some ⟨b, off + k * 3, none⟩)), .val 21 (.pointer (some ⟨b, off + k * 3 + 1, none⟩)), .val 22 (.string (mkB y1)), .val 23 (.bool true), .val 24 (.bool true), .val 25 (.slice (some ⟨b, off, none⟩) n c), .val 26 (.int .i64 (k : Int)), .val 27 (.pointer (some ⟨b, off + k * 3, none⟩)), .val 28 (.pointer (some ⟨b, off + k * 3 + 1, none⟩)), .val 29 (.string (mkB y1)), .val 30 (.bool true), .val 31 (.bool false), .val 32 (.bool false), .val 33 (.bool false), .val 34 (.bool false), .val 35 (.slice (some ⟨b, off, none⟩) n c), .val 36 (.int .i64 (k : Int)), .val 37 (.pointer (some ⟨b, off + k * 3, none⟩)), .val 38 (.pointer (some ⟨b, off + k * 3 + 2, none⟩)), .val 39 (.string (mkB y2)), .val 40 (.bool false), .val 41 (.bool false), .val 42 undef, .val 43 undef, .val 44 undef, .val 45 undef, .val 46 undef, .val 47 undef, .val 48 undef, .val 49 (.bool false), .val 50 (.bool false), .val 51 (.bool false), .val 52 (.slice (some ⟨b, off, none⟩) n c), .val 53 (.int .i64 (k : Int)), .val 54 (.pointer (some ⟨b, off + k * 3, none⟩)), .val 55 (.pointer (some ⟨b, off + k * 3 + 1, none⟩)), .val 56 (.string (mkB y1)), .val 57 (.slice (some ⟨b, off, none⟩) n c), .val 58 (.int .i64 (k : Int)), .val 59 (.pointer (some ⟨b, off + k * 3, none⟩)), .val 60 (.pointer (some ⟨b, off + k * 3 + 2, none⟩)), .val 61 (.string (mkB y2)), .val 62 (.bool false), .val 63 (.bool false), .val 64 (.bool false), .val 65 (.int .i64 (k : Int)), .val 66 (.bool true), .val 67 (.bool true), .val 68 (.slice (some ⟨b, off, none⟩) n c), .val 69 (.int .i64 (k : Int)), .val 70 (.int .i64 (m : Int)), .val 71 (.pointer (some ⟨b, off + m * 3, none⟩)), .val 72 (.pointer (some ⟨b, off + m * 3, none⟩)), .val 73 (.string (mkB x0)), .val 74 (.slice (some ⟨b, off, none⟩) n c), .val 75 (.int .i64 (k : Int)), .val 76 (.pointer (some ⟨b, off + k * 3, none⟩)), .val 77 (.pointer (some ⟨b, off + k * 3, none⟩)), .val 78 (.string (mkB y0)), .val 79 (.int .i64 C), .val 80 (.bool true), .val 81 (.bool true), .val 82 (.bool true)] (by kernel_rfl) ?_ (wr.heap.size) (wr.heap.size) rfl (Below.refl _ _) rfl (fun _ => 0) ?_ ?_ ?_
                      · intro j hj
                        have hj3 : j < 73 := hj
                        clear hj
                        revert j
                        iterate 73 refine lt_step ?_ ?_
                        · exact lt_none
                        all_goals exact trivial
                      · intro j hj0 hj
                        exact absurd hj (Nat.not_lt.2 hj0)
                      · intro i hi
                        have hi3 : i < 73 := hi
                        clear hi
                        revert i
                        iterate 73 refine lt_step ?_ ?_
                        · exact lt_none
                        all_goals intro a wx who hG hF
                        all_goals have hz : a.tmps.size = 83 := hG.size
                        · exact rv rfl rfl rfl hz rfl (ex_move (Or.inl rfl) (eval_slot ((hG.slots 0 (by decide)).trans rfl))) hG
                        · exact rv rfl rfl rfl hz rfl (ex_move (Or.inl rfl) (eval_slot ((hG.slots 3 (by decide)).trans rfl))) hG
                        · exact rv rfl rfl rfl hz rfl (ex_index rfl (ev hF 0 rfl rfl) (ev hF 1 rfl rfl) (idx_ch HKN.out)) hG
                        · exact rv rfl rfl rfl hz rfl (ex_field rfl (ev hF 2 rfl rfl) (by go_simp)) hG
                        · exact rv rfl rfl rfl hz rfl (ex_load rfl (ev hF 3 rfl rfl) (ld_strT (cell_keep C0.out hG.below))) hG
                        · refine rol_call rfl rfl rfl (by rw [hz]; decide) (ex_call rfl (by simp [eval_slot (hF 4 (by decide))]) e1) (KP.out wx) ?_ hG.below (Nat.le_trans HNW.out hG.new)
                          rintro e w1 ⟨rfl, hb1⟩
                          exact ⟨_, rfl, hb1, .inl rfl⟩
                        · exact rv rfl rfl rfl hz rfl (ex_un rfl (ev hF 5 rfl rfl) rfl) hG
                        · exact rv rfl rfl rfl hz rfl (ex_move (Or.inl rfl) (ev hF 6 rfl rfl)) hG
                        · exact ry rfl hF 7 rfl rfl rfl rfl rfl hz rfl (ex_move (Or.inl rfl) (eval_slot ((hG.slots 0 (by decide)).trans rfl))) hG
                        · exact ry rfl hF 7 rfl rfl rfl rfl rfl hz rfl (ex_move (Or.inl rfl) (eval_slot ((hG.slots 3 (by decide)).trans rfl))) hG
                        · exact ry rfl hF 7 rfl rfl rfl rfl rfl hz rfl (ex_index rfl (ev hF 8 rfl rfl) (ev hF 9 rfl rfl) (idx_ch HKN.out)) hG
                        · exact ry rfl hF 7 rfl rfl rfl rfl rfl hz rfl (ex_field rfl (ev hF 10 rfl rfl) (by go_simp)) hG
                        · exact ry rfl hF 7 rfl rfl rfl rfl rfl hz rfl (ex_load rfl (ev hF 11 rfl rfl) (ld_strT (cell_keep C1.out hG.below))) hG
                        · exact ry rfl hF 7 rfl rfl rfl rfl rfl hz rfl (ex_bin rfl (ev hF 12 rfl rfl) rfl (by go_simp) (bin_neNil HE1.out rfl)) hG
                        · exact ry rfl hF 7 rfl rfl rfl rfl rfl hz rfl (ex_move (Or.inl rfl) (ev hF 13 rfl rfl)) hG
                        · exact ry rfl hF 14 rfl rfl rfl rfl rfl hz rfl (ex_move (Or.inl rfl) (eval_slot ((hG.slots 0 (by decide)).trans rfl))) hG
                        · exact ry rfl hF 14 rfl rfl rfl rfl rfl hz rfl (ex_move (Or.inl rfl) (eval_slot ((hG.slots 3 (by decide)).trans rfl))) hG
                        · exact ry rfl hF 14 rfl rfl rfl rfl rfl hz rfl (ex_index rfl (ev hF 15 rfl rfl) (ev hF 16 rfl rfl) (idx_ch HKN.out)) hG
                        · exact ry rfl hF 14 rfl rfl rfl rfl rfl hz rfl (ex_field rfl (ev hF 17 rfl rfl) (by go_simp)) hG
                        · exact ry rfl hF 14 rfl rfl rfl rfl rfl hz rfl (ex_load rfl (ev hF 18 rfl rfl) (ld_strT (cell_keep C1.out hG.below))) hG
                        · refine rol_call rfl (want_yes rfl rfl (hF 14 (by decide))) rfl (by rw [hz]; decide) (ex_call rfl (by simp [eval_slot (hF 19 (by decide))]) e2) (K1.out wx) ?_ hG.below (Nat.le_trans HNW.out hG.new)
                          rintro e w1 ⟨rfl, hb1⟩
                          exact ⟨_, rfl, hb1, .inl rfl⟩
                        · exact ry rfl hF 14 rfl rfl rfl rfl rfl hz rfl (ex_un rfl (ev hF 20 rfl rfl) rfl) hG
                        · exact ry rfl hF 7 rfl rfl rfl rfl rfl hz rfl (ex_pick_yes rfl (ev hF 14 rfl rfl) (ev hF 21 rfl rfl)) hG
                        · exact rv rfl rfl rfl hz rfl (ex_pick_no rfl (ev hF 7 rfl rfl) (ev hF 22 rfl rfl)) hG
                        · exact rv rfl rfl rfl hz rfl (ex_move (Or.inl rfl) (ev hF 23 rfl rfl)) hG
                        · exact ry rfl hF 24 rfl rfl rfl rfl rfl hz rfl (ex_move (Or.inl rfl) (eval_slot ((hG.slots 0 (by decide)).trans rfl))) hG
                        · exact ry rfl hF 24 rfl rfl rfl rfl rfl hz rfl (ex_move (Or.inl rfl) (eval_slot ((hG.slots 3 (by decide)).trans rfl))) hG
                        · exact ry rfl hF 24 rfl rfl rfl rfl rfl hz rfl (ex_index rfl (ev hF 25 rfl rfl) (ev hF 26 rfl rfl) (idx_ch HKN.out)) hG
                        · exact ry rfl hF 24 rfl rfl rfl rfl rfl hz rfl (ex_field rfl (ev hF 27 rfl rfl) (by go_simp)) hG
                        · exact ry rfl hF 24 rfl rfl rfl rfl rfl hz rfl (ex_load rfl (ev hF 28 rfl rfl) (ld_strT (cell_keep C2.out hG.below))) hG
                        · exact ry rfl hF 24 rfl rfl rfl rfl rfl hz rfl (ex_bin rfl (ev hF 29 rfl rfl) rfl (by go_simp) (bin_neNil HE2.out rfl)) hG
                        · exact ry rfl hF 24 rfl rfl rfl rfl rfl hz rfl (ex_move (Or.inl rfl) (ev hF 30 rfl rfl)) hG
                        iterate 7 exact rn rfl hF 31 rfl rfl rfl rfl rfl rfl hz rfl hG
                        · exact ry rfl hF 24 rfl rfl rfl rfl rfl hz rfl (ex_pick_no rfl (ev hF 31 rfl rfl) rfl) hG
                        · exact rv rfl rfl rfl hz rfl (ex_pick_no rfl (ev hF 24 rfl rfl) (ev hF 39 rfl rfl)) hG
                        · exact rv rfl rfl rfl hz rfl (ex_move (Or.inl rfl) (ev hF 40 rfl rfl)) hG
                        · exact ry rfl hF 41 rfl rfl rfl rfl rfl hz rfl (ex_move (Or.inl rfl) (eval_slot ((hG.slots 0 (by decide)).trans rfl))) hG
                        · exact ry rfl hF 41 rfl rfl rfl rfl rfl hz rfl (ex_move (Or.inl rfl) (eval_slot ((hG.slots 3 (by decide)).trans rfl))) hG
                        · exact ry rfl hF 41 rfl rfl rfl rfl rfl hz rfl (ex_index rfl (ev hF 42 rfl rfl) (ev hF 43 rfl rfl) (idx_ch HKN.out)) hG
                        · exact ry rfl hF 41 rfl rfl rfl rfl rfl hz rfl (ex_field rfl (ev hF 44 rfl rfl) (by go_simp)) hG
                        · exact ry rfl hF 41 rfl rfl rfl rfl rfl hz rfl (ex_load rfl (ev hF 45 rfl rfl) (ld_strT (cell_keep C1.out hG.below))) hG
                        · exact ry rfl hF 41 rfl rfl rfl rfl rfl hz rfl (ex_move (Or.inl rfl) (eval_slot ((hG.slots 0 (by decide)).trans rfl))) hG
                        · exact ry rfl hF 41 rfl rfl rfl rfl rfl hz rfl (ex_move (Or.inl rfl) (eval_slot ((hG.slots 3 (by decide)).trans rfl))) hG
                        · exact ry rfl hF 41 rfl rfl rfl rfl rfl hz rfl (ex_index rfl (ev hF 47 rfl rfl) (ev hF 48 rfl rfl) (idx_ch HKN.out)) hG
                        · exact ry rfl hF 41 rfl rfl rfl rfl rfl hz rfl (ex_field rfl (ev hF 49 rfl rfl) (by go_simp)) hG
                        · exact ry rfl hF 41 rfl rfl rfl rfl rfl hz rfl (ex_load rfl (ev hF 50 rfl rfl) (ld_strT (cell_keep C2.out hG.below))) hG
                        · exact ry rfl hF 41 rfl rfl rfl rfl rfl hz rfl (ex_bin rfl (ev hF 46 rfl rfl) (ev hF 51 rfl rfl) (by go_simp) (bin_eqL HEQ.out)) hG
                        · exact rv rfl rfl rfl hz rfl (ex_pick_no rfl (ev hF 41 rfl rfl) (ev hF 52 rfl rfl)) hG
                        · exact rv rfl rfl rfl hz rfl (ex_move (Or.inl rfl) (ev hF 53 rfl rfl)) hG
                        · exact ry rfl hF 54 rfl rfl rfl rfl rfl hz rfl (ex_move (Or.inl rfl) (eval_slot ((hG.slots 3 (by decide)).trans rfl))) hG
                        · exact ry rfl hF 54 rfl rfl rfl rfl rfl hz rfl (ex_bin rfl (ev hF 55 rfl rfl) rfl (by go_simp) (bin_gt0L HZ.out)) hG
                        · exact ry rfl hF 54 rfl rfl rfl rfl rfl hz rfl (ex_move (Or.inl rfl) (ev hF 56 rfl rfl)) hG
                        · exact ry rfl hF 57 rfl rfl rfl rfl rfl hz rfl (ex_move (Or.inl rfl) (eval_slot ((hG.slots 0 (by decide)).trans rfl))) hG
                        · exact ry rfl hF 57 rfl rfl rfl rfl rfl hz rfl (ex_move (Or.inl rfl) (eval_slot ((hG.slots 3 (by decide)).trans rfl))) hG
                        · exact ry rfl hF 57 rfl rfl rfl rfl rfl hz rfl (ex_bin rfl (ev hF 59 rfl rfl) rfl (by go_simp) (bin_sub1 HM2.out HKB.out)) hG
                        · exact ry rfl hF 57 rfl rfl rfl rfl rfl hz rfl (ex_index rfl (ev hF 58 rfl rfl) (ev hF 60 rfl rfl) (idx_ch HMN.out)) hG
                        · exact ry rfl hF 57 rfl rfl rfl rfl rfl hz rfl (ex_field rfl (ev hF 61 rfl rfl) (by go_simp)) hG
                        · exact ry rfl hF 57 rfl rfl rfl rfl rfl hz rfl (ex_load rfl (ev hF 62 rfl rfl) (ld_strT (cell_keep Q0.out hG.below))) hG
                        · exact ry rfl hF 57 rfl rfl rfl rfl rfl hz rfl (ex_move (Or.inl rfl) (eval_slot ((hG.slots 0 (by decide)).trans rfl))) hG
                        · exact ry rfl hF 57 rfl rfl rfl rfl rfl hz rfl (ex_move (Or.inl rfl) (eval_slot ((hG.slots 3 (by decide)).trans rfl))) hG
                        · exact ry rfl hF 57 rfl rfl rfl rfl rfl hz rfl (ex_index rfl (ev hF 64 rfl rfl) (ev hF 65 rfl rfl) (idx_ch HKN.out)) hG
                        · exact ry rfl hF 57 rfl rfl rfl rfl rfl hz rfl (ex_field rfl (ev hF 66 rfl rfl) (by go_simp)) hG
                        · exact ry rfl hF 57 rfl rfl rfl rfl rfl hz rfl (ex_load rfl (ev hF 67 rfl rfl) (ld_strT (cell_keep C0.out hG.below))) hG
                        · refine rol_call rfl (want_yes rfl rfl (hF 57 (by decide))) rfl (by rw [hz]; decide) (ex_call rfl (by simp [eval_slot (hF 63 (by decide)), eval_slot (hF 68 (by decide))]) e3) (KC.out wx) ?_ hG.below (Nat.le_trans HNW.out hG.new)
                          rintro e w1 ⟨rfl, hb1⟩
                          exact ⟨_, rfl, hb1, .inl rfl⟩
                        · exact ry rfl hF 57 rfl rfl rfl rfl rfl hz rfl (ex_bin rfl (ev hF 69 rfl rfl) rfl (by go_simp) (bin_geq0 HGE.out)) hG
                        · exact ry rfl hF 54 rfl rfl rfl rfl rfl hz rfl (ex_pick_yes rfl (ev hF 57 rfl rfl) (ev hF 70 rfl rfl)) hG
                        · exact rv rfl rfl rfl hz rfl (ex_pick_no rfl (ev hF 54 rfl rfl) (ev hF 71 rfl rfl)) hG
                      · intro a wx who hG hF
                        have fv82 : a.tmps.getD 82 undef = .bool true := eval_slot (s := 82) (hF 72 (of_decide_eq_true (by kernel_rfl)) (of_decide_eq_true (by kernel_rfl)))
                        have hbx := hG.below
                        have hnx := hG.new
                        rw [hG.frame]
                        simp only [List.foldl_cons, List.foldl_nil, List.setIfInBounds_toArray, List.set_cons_zero, List.set_cons_succ]
                        rw [fv82]
                        generalize Array.getD a.tmps = uu
                        clear hF hG fv82
                        go_wp2_with fail
                        go_meet
                        exact ⟨by rw [HSX.out]; rfl, Lib.hid (below_step HB.out hbx)⟩
                    | false =>
                      refine rol_run (by kernel_rfl) [[], [], [0, 1], [2], [3], [4], [5], [6], [7], [7], [7, 8, 9], [7, 10], [7, 11], [7, 12], [7, 13], [14], [14], [14, 15, 16], [14, 17], [14, 18], [14, 19], [14, 20], [7, 14, 21], [7, 22], [23], [24], [24], [24, 25, 26], [24, 27], [24, 28], [24, 29], [24, 30], [31], [31], [31], [31], [31], [31], [31], [24, 31], [24, 39], [40], [41], [41], [41, 42, 43], [41, 44], [41, 45], [41], [41], [41, 47, 48], [41, 49], [41, 50], [41, 46, 51], [41, 52], [53], [54], [54, 55], [54, 56], [57], [57], [57, 59], [57, 58, 60], [57, 61], [57, 62], [57], [57], [57, 64, 65], [57, 66], [57, 67], [57, 63, 68], [57, 69], [54, 57, 70], [54, 71]] (by kernel_rfl) [10, 11, 12, 13, 14, 15, 16, 17, 18, 19, 20, 21, 22, 23, 24, 25, 26, 27, 28, 29, 30, 31, 32, 33, 34, 35, 36, 37, 38, 39, 40, 41, 42, 43, 44, 45, 46, 47, 48, 49, 50, 51, 52, 53, 54, 55, 56, 57, 58, 59, 60, 61, 62, 63, 64, 65, 66, 67, 68, 69, 70, 71, 72, 73, 74, 75, 76, 77, 78, 79, 80, 81, 82] [[], [], [0, 1], [2], [3], [4], [5], [6], [7], [7], [7, 8, 9], [7, 10], [7, 11], [7, 12], [7, 13], [14], [14], [14, 15, 16], [14, 17], [14, 18], [14, 19], [14, 20], [7, 14, 21], [7, 22], [23], [24], [24], [24, 25, 26], [24, 27], [24, 28], [24, 29], [24, 30], [31], [31], [31], [31], [31], [31], [31], [24, 31], [24, 39], [40], [41], [41], [41, 42, 43], [41, 44], [41, 45], [41], [41], [41, 47, 48], [41, 49], [41, 50], [41, 46, 51], [41, 52], [53], [54], [54, 55], [54, 56], [57], [57], [57, 59], [57, 58, 60], [57, 61], [57, 62], [57], [57], [57, 64, 65], [57, 66], [57, 67], [57, 63, 68], [57, 69], [54, 57, 70], [54, 71]] (List.replicate 73 0) (List.replicate 73 0) (List.replicate 73 1000) [.val 10 (.slice (some ⟨b, off, none⟩) n c), .val 11 (.int .i64 (k : Int)), .val 12 (.pointer (some ⟨b, off + k * 3, none⟩)), .val 13 (.pointer (some ⟨b, off + k * 3, none⟩)), .val 14 (.string (mkB y0)), .val 15 (.bool true), .val 16 (.bool false), .val 17 (.bool false), .val 18 (.slice (some ⟨b, off, none⟩) n c), .val 19 (.int .i64 (k : Int)), .val 20 (.pointer (some ⟨b, off + k * 3, none⟩)), .val 21 (.pointer (some ⟨b, off + k * 3 + 1, none⟩)), .val 22 (.string (mkB y1)), .val 23 (.bool true), .val 24 (.bool true), .val 25 (.slice (some ⟨b, off, none⟩) n c), .val 26 (.int .i64 (k : Int)), .val 27 (.pointer (some ⟨b, off + k * 3, none⟩)), .val 28 (.pointer (some ⟨b, off + k * 3 + 1, none⟩)), .val 29 (.string (mkB y1)), .val 30 (.bool true), .val 31 (.bool false), .val 32 (.bool false), .val 33 (.bool false), .val 34 (.bool false), .val 35 (.slice (some ⟨b, off, none⟩) n c), .val 36 (.int .i64 (k : Int)), .val 37 (.pointer (some ⟨b, off + k * 3, none⟩)), .val 38 (.pointer (some ⟨b, off + k * 3 + 2, none⟩)), .val 39 (.string (mkB y2)), .val 40 (.bool false), .val 41 (.bool false), .val 42 undef, .val 43 undef, .val 44 undef, .val 45 undef, .val 46 undef, .val 47 undef, .val 48 undef, .val 49 (.bool false), .val 50 (.bool false), .val 51 (.bool false), .val 52 (.slice (some ⟨b, off, none⟩) n c), .val 53 (.int .i64 (k : Int)), .val 54 (.pointer (some ⟨b, off + k * 3, none⟩)), .val 55 (.pointer (some ⟨b, off + k * 3 + 1, none⟩)), .val 56 (.string (mkB y1)), .val 57 (.slice (some ⟨b, off, none⟩) n c), .val 58 (.int .i64 (k : Int)), .val 59 (.pointer (some ⟨b, off + k * 3, none⟩)), .val 60 (.pointer (some ⟨b, off + k * 3 + 2, none⟩)), .val 61 (.string (mkB y2)), .val 62 (.bool false), .val 63 (.bool false), .val 64 (.bool false), .val 65 (.int .i64 (k : Int)), .val 66 (.bool true), .val 67 (.bool true), .val 68 (.slice (some ⟨b, off, none⟩) n c), .val 69 (.int .i64 (k : Int)), .val 70 (.int .i64 (m : Int)), .val 71 (.pointer (some ⟨b, off + m * 3, none⟩)), .val 72 (.pointer (some ⟨b, off + m * 3, none⟩)), .val 73 (.string (mkB x0)), .val 74 (.slice (some ⟨b, off, none⟩) n c), .val 75 (.int .i64 (k : Int)), .val 76 (.pointer (some ⟨b, off + k * 3, none⟩)), .val 77 (.pointer (some ⟨b, off + k * 3, none⟩)), .val 78 (.string (mkB y0)), .val 79 (.int .i64 C), .val 80 (.bool false), .val 81 (.bool false), .val 82 (.bool false)] (by kernel_rfl) ?_ (wr.heap.size) (wr.heap.size) rfl (Below.refl _ _) rfl (fun _ => 0) ?_ ?_ ?_
                      · intro j hj
                        have hj3 : j < 73 := hj
                        clear hj
                        revert j
                        iterate 73 refine lt_step ?_ ?_
                        · exact lt_none
                        all_goals exact trivial
                      · intro j hj0 hj
                        exact absurd hj (Nat.not_lt.2 hj0)
                      · intro i hi
                        have hi3 : i < 73 := hi
                        clear hi
                        revert i
                        iterate 73 refine lt_step ?_ ?_
                        · exact lt_none
                        all_goals intro a wx who hG hF
                        all_goals have hz : a.tmps.size = 83 := hG.size
                        · exact rv rfl rfl rfl hz rfl (ex_move (Or.inl rfl) (eval_slot ((hG.slots 0 (by decide)).trans rfl))) hG
                        · exact rv rfl rfl rfl hz rfl (ex_move (Or.inl rfl) (eval_slot ((hG.slots 3 (by decide)).trans rfl))) hG
                        · exact rv rfl rfl rfl hz rfl (ex_index rfl (ev hF 0 rfl rfl) (ev hF 1 rfl rfl) (idx_ch HKN.out)) hG
                        · exact rv rfl rfl rfl hz rfl (ex_field rfl (ev hF 2 rfl rfl) (by go_simp)) hG
                        · exact rv rfl rfl rfl hz rfl (ex_load rfl (ev hF 3 rfl rfl) (ld_strT (cell_keep C0.out hG.below))) hG
                        · refine rol_call rfl rfl rfl (by rw [hz]; decide) (ex_call rfl (by simp [eval_slot (hF 4 (by decide))]) e1) (KP.out wx) ?_ hG.below (Nat.le_trans HNW.out hG.new)
                          rintro e w1 ⟨rfl, hb1⟩
                          exact ⟨_, rfl, hb1, .inl rfl⟩
                        · exact rv rfl rfl rfl hz rfl (ex_un rfl (ev hF 5 rfl rfl) rfl) hG
                        · exact rv rfl rfl rfl hz rfl (ex_move (Or.inl rfl) (ev hF 6 rfl rfl)) hG
                        · exact ry rfl hF 7 rfl rfl rfl rfl rfl hz rfl (ex_move (Or.inl rfl) (eval_slot ((hG.slots 0 (by decide)).trans rfl))) hG
                        · exact ry rfl hF 7 rfl rfl rfl rfl rfl hz rfl (ex_move (Or.inl rfl) (eval_slot ((hG.slots 3 (by decide)).trans rfl))) hG
                        · exact ry rfl hF 7 rfl rfl rfl rfl rfl hz rfl (ex_index rfl (ev hF 8 rfl rfl) (ev hF 9 rfl rfl) (idx_ch HKN.out)) hG
                        · exact ry rfl hF 7 rfl rfl rfl rfl rfl hz rfl (ex_field rfl (ev hF 10 rfl rfl) (by go_simp)) hG
                        · exact ry rfl hF 7 rfl rfl rfl rfl rfl hz rfl (ex_load rfl (ev hF 11 rfl rfl) (ld_strT (cell_keep C1.out hG.below))) hG
                        · exact ry rfl hF 7 rfl rfl rfl rfl rfl hz rfl (ex_bin rfl (ev hF 12 rfl rfl) rfl (by go_simp) (bin_neNil HE1.out rfl)) hG
                        · exact ry rfl hF 7 rfl rfl rfl rfl rfl hz rfl (ex_move (Or.inl rfl) (ev hF 13 rfl rfl)) hG
                        · exact ry rfl hF 14 rfl rfl rfl rfl rfl hz rfl (ex_move (Or.inl rfl) (eval_slot ((hG.slots 0 (by decide)).trans rfl))) hG
                        · exact ry rfl hF 14 rfl rfl rfl rfl rfl hz rfl (ex_move (Or.inl rfl) (eval_slot ((hG.slots 3 (by decide)).trans rfl))) hG
                        · exact ry rfl hF 14 rfl rfl rfl rfl rfl hz rfl (ex_index rfl (ev hF 15 rfl rfl) (ev hF 16 rfl rfl) (idx_ch HKN.out)) hG
                        · exact ry rfl hF 14 rfl rfl rfl rfl rfl hz rfl (ex_field rfl (ev hF 17 rfl rfl) (by go_simp)) hG
                        · exact ry rfl hF 14 rfl rfl rfl rfl rfl hz rfl (ex_load rfl (ev hF 18 rfl rfl) (ld_strT (cell_keep C1.out hG.below))) hG
                        · refine rol_call rfl (want_yes rfl rfl (hF 14 (by decide))) rfl (by rw [hz]; decide) (ex_call rfl (by simp [eval_slot (hF 19 (by decide))]) e2) (K1.out wx) ?_ hG.below (Nat.le_trans HNW.out hG.new)
                          rintro e w1 ⟨rfl, hb1⟩
                          exact ⟨_, rfl, hb1, .inl rfl⟩
                        · exact ry rfl hF 14 rfl rfl rfl rfl rfl hz rfl (ex_un rfl (ev hF 20 rfl rfl) rfl) hG
                        · exact ry rfl hF 7 rfl rfl rfl rfl rfl hz rfl (ex_pick_yes rfl (ev hF 14 rfl rfl) (ev hF 21 rfl rfl)) hG
                        · exact rv rfl rfl rfl hz rfl (ex_pick_no rfl (ev hF 7 rfl rfl) (ev hF 22 rfl rfl)) hG
                        · exact rv rfl rfl rfl hz rfl (ex_move (Or.inl rfl) (ev hF 23 rfl rfl)) hG
                        · exact ry rfl hF 24 rfl rfl rfl rfl rfl hz rfl (ex_move (Or.inl rfl) (eval_slot ((hG.slots 0 (by decide)).trans rfl))) hG
                        · exact ry rfl hF 24 rfl rfl rfl rfl rfl hz rfl (ex_move (Or.inl rfl) (eval_slot ((hG.slots 3 (by decide)).trans rfl))) hG
                        · exact ry rfl hF 24 rfl rfl rfl rfl rfl hz rfl (ex_index rfl (ev hF 25 rfl rfl) (ev hF 26 rfl rfl) (idx_ch HKN.out)) hG
                        · exact ry rfl hF 24 rfl rfl rfl rfl rfl hz rfl (ex_field rfl (ev hF 27 rfl rfl) (by go_simp)) hG
                        · exact ry rfl hF 24 rfl rfl rfl rfl rfl hz rfl (ex_load rfl (ev hF 28 rfl rfl) (ld_strT (cell_keep C2.out hG.below))) hG
                        · exact ry rfl hF 24 rfl rfl rfl rfl rfl hz rfl (ex_bin rfl (ev hF 29 rfl rfl) rfl (by go_simp) (bin_neNil HE2.out rfl)) hG
                        · exact ry rfl hF 24 rfl rfl rfl rfl rfl hz rfl (ex_move (Or.inl rfl) (ev hF 30 rfl rfl)) hG
                        iterate 7 exact rn rfl hF 31 rfl rfl rfl rfl rfl rfl hz rfl hG
                        · exact ry rfl hF 24 rfl rfl rfl rfl rfl hz rfl (ex_pick_no rfl (ev hF 31 rfl rfl) rfl) hG
                        · exact rv rfl rfl rfl hz rfl (ex_pick_no rfl (ev hF 24 rfl rfl) (ev hF 39 rfl rfl)) hG
                        · exact rv rfl rfl rfl hz rfl (ex_move (Or.inl rfl) (ev hF 40 rfl rfl)) hG
                        · exact ry rfl hF 41 rfl rfl rfl rfl rfl hz rfl (ex_move (Or.inl rfl) (eval_slot ((hG.slots 0 (by decide)).trans rfl))) hG
                        · exact ry rfl hF 41 rfl rfl rfl rfl rfl hz rfl (ex_move (Or.inl rfl) (eval_slot ((hG.slots 3 (by decide)).trans rfl))) hG
                        · exact ry rfl hF 41 rfl rfl rfl rfl rfl hz rfl (ex_index rfl (ev hF 42 rfl rfl) (ev hF 43 rfl rfl) (idx_ch HKN.out)) hG
                        · exact ry rfl hF 41 rfl rfl rfl rfl rfl hz rfl (ex_field rfl (ev hF 44 rfl rfl) (by go_simp)) hG
                        · exact ry rfl hF 41 rfl rfl rfl rfl rfl hz rfl (ex_load rfl (ev hF 45 rfl rfl) (ld_strT (cell_keep C1.out hG.below))) hG
                        · exact ry rfl hF 41 rfl rfl rfl rfl rfl hz rfl (ex_move (Or.inl rfl) (eval_slot ((hG.slots 0 (by decide)).trans rfl))) hG
                        · exact ry rfl hF 41 rfl rfl rfl rfl rfl hz rfl (ex_move (Or.inl rfl) (eval_slot ((hG.slots 3 (by decide)).trans rfl))) hG
                        · exact ry rfl hF 41 rfl rfl rfl rfl rfl hz rfl (ex_index rfl (ev hF 47 rfl rfl) (ev hF 48 rfl rfl) (idx_ch HKN.out)) hG
                        · exact ry rfl hF 41 rfl rfl rfl rfl rfl hz rfl (ex_field rfl (ev hF 49 rfl rfl) (by go_simp)) hG
                        · exact ry rfl hF 41 rfl rfl rfl rfl rfl hz rfl (ex_load rfl (ev hF 50 rfl rfl) (ld_strT (cell_keep C2.out hG.below))) hG
                        · exact ry rfl hF 41 rfl rfl rfl rfl rfl hz rfl (ex_bin rfl (ev hF 46 rfl rfl) (ev hF 51 rfl rfl) (by go_simp) (bin_eqL HEQ.out)) hG
                        · exact rv rfl rfl rfl hz rfl (ex_pick_no rfl (ev hF 41 rfl rfl) (ev hF 52 rfl rfl)) hG
                        · exact rv rfl rfl rfl hz rfl (ex_move (Or.inl rfl) (ev hF 53 rfl rfl)) hG
                        · exact ry rfl hF 54 rfl rfl rfl rfl rfl hz rfl (ex_move (Or.inl rfl) (eval_slot ((hG.slots 3 (by decide)).trans rfl))) hG
                        · exact ry rfl hF 54 rfl rfl rfl rfl rfl hz rfl (ex_bin rfl (ev hF 55 rfl rfl) rfl (by go_simp) (bin_gt0L HZ.out)) hG
                        · exact ry rfl hF 54 rfl rfl rfl rfl rfl hz rfl (ex_move (Or.inl rfl) (ev hF 56 rfl rfl)) hG
                        · exact ry rfl hF 57 rfl rfl rfl rfl rfl hz rfl (ex_move (Or.inl rfl) (eval_slot ((hG.slots 0 (by decide)).trans rfl))) hG
                        · exact ry rfl hF 57 rfl rfl rfl rfl rfl hz rfl (ex_move (Or.inl rfl) (eval_slot ((hG.slots 3 (by decide)).trans rfl))) hG
                        · exact ry rfl hF 57 rfl rfl rfl rfl rfl hz rfl (ex_bin rfl (ev hF 59 rfl rfl) rfl (by go_simp) (bin_sub1 HM2.out HKB.out)) hG
                        · exact ry rfl hF 57 rfl rfl rfl rfl rfl hz rfl (ex_index rfl (ev hF 58 rfl rfl) (ev hF 60 rfl rfl) (idx_ch HMN.out)) hG
                        · exact ry rfl hF 57 rfl rfl rfl rfl rfl hz rfl (ex_field rfl (ev hF 61 rfl rfl) (by go_simp)) hG
                        · exact ry rfl hF 57 rfl rfl rfl rfl rfl hz rfl (ex_load rfl (ev hF 62 rfl rfl) (ld_strT (cell_keep Q0.out hG.below))) hG
                        · exact ry rfl hF 57 rfl rfl rfl rfl rfl hz rfl (ex_move (Or.inl rfl) (eval_slot ((hG.slots 0 (by decide)).trans rfl))) hG
                        · exact ry rfl hF 57 rfl rfl rfl rfl rfl hz rfl (ex_move (Or.inl rfl) (eval_slot ((hG.slots 3 (by decide)).trans rfl))) hG
                        · exact ry rfl hF 57 rfl rfl rfl rfl rfl hz rfl (ex_index rfl (ev hF 64 rfl rfl) (ev hF 65 rfl rfl) (idx_ch HKN.out)) hG
                        · exact ry rfl hF 57 rfl rfl rfl rfl rfl hz rfl (ex_field rfl (ev hF 66 rfl rfl) (by go_simp)) hG
                        · exact ry rfl hF 57 rfl rfl rfl rfl rfl hz rfl (ex_load rfl (ev hF 67 rfl rfl) (ld_strT (cell_keep C0.out hG.below))) hG
                        · refine rol_call rfl (want_yes rfl rfl (hF 57 (by decide))) rfl (by rw [hz]; decide) (ex_call rfl (by simp [eval_slot (hF 63 (by decide)), eval_slot (hF 68 (by decide))]) e3) (KC.out wx) ?_ hG.below (Nat.le_trans HNW.out hG.new)
                          rintro e w1 ⟨rfl, hb1⟩
                          exact ⟨_, rfl, hb1, .inl rfl⟩
                        · exact ry rfl hF 57 rfl rfl rfl rfl rfl hz rfl (ex_bin rfl (ev hF 69 rfl rfl) rfl (by go_simp) (bin_geq0 HGE.out)) hG
                        · exact ry rfl hF 54 rfl rfl rfl rfl rfl hz rfl (ex_pick_yes rfl (ev hF 57 rfl rfl) (ev hF 70 rfl rfl)) hG
                        · exact rv rfl rfl rfl hz rfl (ex_pick_no rfl (ev hF 54 rfl rfl) (ev hF 71 rfl rfl)) hG
                      · intro a wx who hG hF
                        have fv82 : a.tmps.getD 82 undef = .bool false := eval_slot (s := 82) (hF 72 (of_decide_eq_true (by kernel_rfl)) (of_decide_eq_true (by kernel_rfl)))
                        have hbx := hG.below
                        have hnx := hG.new
                        rw [hG.frame]
                        simp only [List.foldl_cons, List.foldl_nil, List.setIfInBounds_toArray, List.set_cons_zero, List.set_cons_succ]
                        rw [fv82]
                        generalize Array.getD a.tmps = uu
                        clear hF hG fv82
                        go_wp2_with fail
                        go_meet
                        exact ⟨by rw [HSX.out]; rfl, Lib.hid (below_step HB.out hbx)⟩
              | false =>
                cases ov2 with
                | true =>
                  cases oeq with
                  | true =>
                    refine rol_run (by kernel_rfl) [[], [], [0, 1], [2], [3], [4], [5], [6], [7], [7], [7, 8, 9], [7, 10], [7, 11], [7, 12], [7, 13], [14], [14], [14, 15, 16], [14, 17], [14, 18], [14, 19], [14, 20], [7, 14, 21], [7, 22], [23], [24], [24], [24, 25, 26], [24, 27], [24, 28], [24, 29], [24, 30], [31], [31], [31, 32, 33], [31, 34], [31, 35], [31, 36], [31, 37], [24, 31, 38], [24, 39], [40], [41], [41], [41, 42, 43], [41, 44], [41, 45], [41], [41], [41, 47, 48], [41, 49], [41, 50], [41, 46, 51], [41, 52], [53], [54], [54], [54], [57], [57], [57], [57], [57], [57], [57], [57], [57], [57], [57], [57], [57], [54], [54]] (by kernel_rfl) [10, 11, 12, 13, 14, 15, 16, 17, 18, 19, 20, 21, 22, 23, 24, 25, 26, 27, 28, 29, 30, 31, 32, 33, 34, 35, 36, 37, 38, 39, 40, 41, 42, 43, 44, 45, 46, 47, 48, 49, 50, 51, 52, 53, 54, 55, 56, 57, 58, 59, 60, 61, 62, 63, 64, 65, 66, 67, 68, 69, 70, 71, 72, 73, 74, 75, 76, 77, 78, 79, 80, 81, 82] [[], [], [0, 1], [2], [3], [4], [5], [6], [7], [7], [7, 8, 9], [7, 10], [7, 11], [7, 12], [7, 13], [14], [14], [14, 15, 16], [14, 17], [14, 18], [14, 19], [14, 20], [7, 14, 21], [7, 22], [23], [24], [24], [24, 25, 26], [24, 27], [24, 28], [24, 29], [24, 30], [31], [31], [31, 32, 33], [31, 34], [31, 35], [31, 36], [31, 37], [24, 31, 38], [24, 39], [40], [41], [41], [41, 42, 43], [41, 44], [41, 45], [41], [41], [41, 47, 48], [41, 49], [41, 50], [41, 46, 51], [41, 52], [53], [54], [54], [54], [57], [57], [57], [57], [57], [57], [57], [57], [57], [57], [57], [57], [57], [54], [54]] (List.replicate 73 0) (List.replicate 73 0) (List.replicate 73 1000) [.val 10 (.slice (some ⟨b, off, none⟩) n c), .val 11 (.int .i64 (k : Int)), .val 12 (.pointer (some ⟨b, off + k * 3, none⟩)), .val 13 (.pointer (some ⟨b, off + k * 3, none⟩)), .val 14 (.string (mkB y0)), .val 15 (.bool true), .val 16 (.bool false), .val 17 (.bool false), .val 18 (.slice (some ⟨b, off, none⟩) n c), .val 19 (.int .i64 (k : Int)), .val 20 (.pointer (some ⟨b, off + k * 3, none⟩)), .val 21 (.pointer (some ⟨b, off + k * 3 + 1, none⟩)), .val 22 (.string (mkB y1)), .val 23 (.bool true), .val 24 (.bool true), .val 25 (.slice (some ⟨b, off, none⟩) n c), .val 26 (.int .i64 (k : Int)), .val 27 (.pointer (some ⟨b, off + k * 3, none⟩)), .val 28 (.pointer (some ⟨b, off + k * 3 + 1, none⟩)), .val 29 (.string (mkB y1)), .val 30 (.bool true), .val 31 (.bool false), .val 32 (.bool false), .val 33 (.bool false), .val 34 (.bool false), .val 35 (.slice (some ⟨b, off, none⟩) n c), .val 36 (.int .i64 (k : Int)), .val 37 (.pointer (some ⟨b, off + k * 3, none⟩)), .val 38 (.pointer (some ⟨b, off + k * 3 + 2, none⟩)), .val 39 (.string (mkB y2)), .val 40 (.bool true), .val 41 (.bool true), .val 42 (.slice (some ⟨b, off, none⟩) n c), .val 43 (.int .i64 (k : Int)), .val 44 (.pointer (some ⟨b, off + k * 3, none⟩)), .val 45 (.pointer (some ⟨b, off + k * 3 + 2, none⟩)), .val 46 (.string (mkB y2)), .val 47 (.bool true), .val 48 (.bool false), .val 49 (.bool false), .val 50 (.bool false), .val 51 (.bool false), .val 52 (.slice (some ⟨b, off, none⟩) n c), .val 53 (.int .i64 (k : Int)), .val 54 (.pointer (some ⟨b, off + k * 3, none⟩)), .val 55 (.pointer (some ⟨b, off + k * 3 + 1, none⟩)), .val 56 (.string (mkB y1)), .val 57 (.slice (some ⟨b, off, none⟩) n c), .val 58 (.int .i64 (k : Int)), .val 59 (.pointer (some ⟨b, off + k * 3, none⟩)), .val 60 (.pointer (some ⟨b, off + k * 3 + 2, none⟩)), .val 61 (.string (mkB y2)), .val 62 (.bool true), .val 63 (.bool true), .val 64 (.bool true), .val 65 undef, .val 66 undef, .val 67 undef, .val 68 undef, .val 69 undef, .val 70 undef, .val 71 undef, .val 72 undef, .val 73 undef, .val 74 undef, .val 75 undef, .val 76 undef, .val 77 undef, .val 78 undef, .val 79 undef, .val 80 undef, .val 81 undef, .val 82 (.bool true)] (by kernel_rfl) ?_ (wr.heap.size) (wr.heap.size) rfl (Below.refl _ _) rfl (fun _ => 0) ?_ ?_ ?_
                    · intro j hj
                      have hj3 : j < 73 := hj
                      clear hj
                      revert j
                      iterate 73 refine lt_step ?_ ?_
                      · exact lt_none
                      all_goals exact trivial
                    · intro j hj0 hj
                      exact absurd hj (Nat.not_lt.2 hj0)
                    · intro i hi
                      have hi3 : i < 73 := hi
                      clear hi
                      revert i
                      iterate 73 refine lt_step ?_ ?_
                      · exact lt_none
                      all_goals intro a wx who hG hF
                      all_goals have hz : a.tmps.size = 83 := hG.size
                      · exact rv rfl rfl rfl hz rfl (ex_move (Or.inl rfl) (eval_slot ((hG.slots 0 (by decide)).trans rfl))) hG
                      · exact rv rfl rfl rfl hz rfl (ex_move (Or.inl rfl) (eval_slot ((hG.slots 3 (by decide)).trans rfl))) hG
                      · exact rv rfl rfl rfl hz rfl (ex_index rfl (ev hF 0 rfl rfl) (ev hF 1 rfl rfl) (idx_ch HKN.out)) hG
                      · exact rv rfl rfl rfl hz rfl (ex_field rfl (ev hF 2 rfl rfl) (by go_simp)) hG
                      · exact rv rfl rfl rfl hz rfl (ex_load rfl (ev hF 3 rfl rfl) (ld_strT (cell_keep C0.out hG.below))) hG
                      · refine rol_call rfl rfl rfl (by rw [hz]; decide) (ex_call rfl (by simp [eval_slot (hF 4 (by decide))]) e1) (KP.out wx) ?_ hG.below (Nat.le_trans HNW.out hG.new)
                        rintro e w1 ⟨rfl, hb1⟩
                        exact ⟨_, rfl, hb1, .inl rfl⟩
                      · exact rv rfl rfl rfl hz rfl (ex_un rfl (ev hF 5 rfl rfl) rfl) hG
                      · exact rv rfl rfl rfl hz rfl (ex_move (Or.inl rfl) (ev hF 6 rfl rfl)) hG
                      · exact ry rfl hF 7 rfl rfl rfl rfl rfl hz rfl (ex_move (Or.inl rfl) (eval_slot ((hG.slots 0 (by decide)).trans rfl))) hG
                      · exact ry rfl hF 7 rfl rfl rfl rfl rfl hz rfl (ex_move (Or.inl rfl) (eval_slot ((hG.slots 3 (by decide)).trans rfl))) hG
                      · exact ry rfl hF 7 rfl rfl rfl rfl rfl hz rfl (ex_index rfl (ev hF 8 rfl rfl) (ev hF 9 rfl rfl) (idx_ch HKN.out)) hG
                      · exact ry rfl hF 7 rfl rfl rfl rfl rfl hz rfl (ex_field rfl (ev hF 10 rfl rfl) (by go_simp)) hG
                      · exact ry rfl hF 7 rfl rfl rfl rfl rfl hz rfl (ex_load rfl (ev hF 11 rfl rfl) (ld_strT (cell_keep C1.out hG.below))) hG
                      · exact ry rfl hF 7 rfl rfl rfl rfl rfl hz rfl (ex_bin rfl (ev hF 12 rfl rfl) rfl (by go_simp) (bin_neNil HE1.out rfl)) hG
                      · exact ry rfl hF 7 rfl rfl rfl rfl rfl hz rfl (ex_move (Or.inl rfl) (ev hF 13 rfl rfl)) hG
                      · exact ry rfl hF 14 rfl rfl rfl rfl rfl hz rfl (ex_move (Or.inl rfl) (eval_slot ((hG.slots 0 (by decide)).trans rfl))) hG
                      · exact ry rfl hF 14 rfl rfl rfl rfl rfl hz rfl (ex_move (Or.inl rfl) (eval_slot ((hG.slots 3 (by decide)).trans rfl))) hG
                      · exact ry rfl hF 14 rfl rfl rfl rfl rfl hz rfl (ex_index rfl (ev hF 15 rfl rfl) (ev hF 16 rfl rfl) (idx_ch HKN.out)) hG
                      · exact ry rfl hF 14 rfl rfl rfl rfl rfl hz rfl (ex_field rfl (ev hF 17 rfl rfl) (by go_simp)) hG
                      · exact ry rfl hF 14 rfl rfl rfl rfl rfl hz rfl (ex_load rfl (ev hF 18 rfl rfl) (ld_strT (cell_keep C1.out hG.below))) hG
                      · refine rol_call rfl (want_yes rfl rfl (hF 14 (by decide))) rfl (by rw [hz]; decide) (ex_call rfl (by simp [eval_slot (hF 19 (by decide))]) e2) (K1.out wx) ?_ hG.below (Nat.le_trans HNW.out hG.new)
                        rintro e w1 ⟨rfl, hb1⟩
                        exact ⟨_, rfl, hb1, .inl rfl⟩
                      · exact ry rfl hF 14 rfl rfl rfl rfl rfl hz rfl (ex_un rfl (ev hF 20 rfl rfl) rfl) hG
                      · exact ry rfl hF 7 rfl rfl rfl rfl rfl hz rfl (ex_pick_yes rfl (ev hF 14 rfl rfl) (ev hF 21 rfl rfl)) hG
                      · exact rv rfl rfl rfl hz rfl (ex_pick_no rfl (ev hF 7 rfl rfl) (ev hF 22 rfl rfl)) hG
                      · exact rv rfl rfl rfl hz rfl (ex_move (Or.inl rfl) (ev hF 23 rfl rfl)) hG
                      · exact ry rfl hF 24 rfl rfl rfl rfl rfl hz rfl (ex_move (Or.inl rfl) (eval_slot ((hG.slots 0 (by decide)).trans rfl))) hG
                      · exact ry rfl hF 24 rfl rfl rfl rfl rfl hz rfl (ex_move (Or.inl rfl) (eval_slot ((hG.slots 3 (by decide)).trans rfl))) hG
                      · exact ry rfl hF 24 rfl rfl rfl rfl rfl hz rfl (ex_index rfl (ev hF 25 rfl rfl) (ev hF 26 rfl rfl) (idx_ch HKN.out)) hG
                      · exact ry rfl hF 24 rfl rfl rfl rfl rfl hz rfl (ex_field rfl (ev hF 27 rfl rfl) (by go_simp)) hG
                      · exact ry rfl hF 24 rfl rfl rfl rfl rfl hz rfl (ex_load rfl (ev hF 28 rfl rfl) (ld_strT (cell_keep C2.out hG.below))) hG
                      · exact ry rfl hF 24 rfl rfl rfl rfl rfl hz rfl (ex_bin rfl (ev hF 29 rfl rfl) rfl (by go_simp) (bin_neNil HE2.out rfl)) hG
                      · exact ry rfl hF 24 rfl rfl rfl rfl rfl hz rfl (ex_move (Or.inl rfl) (ev hF 30 rfl rfl)) hG
                      · exact ry rfl hF 31 rfl rfl rfl rfl rfl hz rfl (ex_move (Or.inl rfl) (eval_slot ((hG.slots 0 (by decide)).trans rfl))) hG
                      · exact ry rfl hF 31 rfl rfl rfl rfl rfl hz rfl (ex_move (Or.inl rfl) (eval_slot ((hG.slots 3 (by decide)).trans rfl))) hG
                      · exact ry rfl hF 31 rfl rfl rfl rfl rfl hz rfl (ex_index rfl (ev hF 32 rfl rfl) (ev hF 33 rfl rfl) (idx_ch HKN.out)) hG
                      · exact ry rfl hF 31 rfl rfl rfl rfl rfl hz rfl (ex_field rfl (ev hF 34 rfl rfl) (by go_simp)) hG
                      · exact ry rfl hF 31 rfl rfl rfl rfl rfl hz rfl (ex_load rfl (ev hF 35 rfl rfl) (ld_strT (cell_keep C2.out hG.below))) hG
                      · refine rol_call rfl (want_yes rfl rfl (hF 31 (by decide))) rfl (by rw [hz]; decide) (ex_call rfl (by simp [eval_slot (hF 36 (by decide))]) e2) (K2.out wx) ?_ hG.below (Nat.le_trans HNW.out hG.new)
                        rintro e w1 ⟨rfl, hb1⟩
                        exact ⟨_, rfl, hb1, .inl rfl⟩
                      · exact ry rfl hF 31 rfl rfl rfl rfl rfl hz rfl (ex_un rfl (ev hF 37 rfl rfl) rfl) hG
                      · exact ry rfl hF 24 rfl rfl rfl rfl rfl hz rfl (ex_pick_yes rfl (ev hF 31 rfl rfl) (ev hF 38 rfl rfl)) hG
                      · exact rv rfl rfl rfl hz rfl (ex_pick_no rfl (ev hF 24 rfl rfl) (ev hF 39 rfl rfl)) hG
                      · exact rv rfl rfl rfl hz rfl (ex_move (Or.inl rfl) (ev hF 40 rfl rfl)) hG
                      · exact ry rfl hF 41 rfl rfl rfl rfl rfl hz rfl (ex_move (Or.inl rfl) (eval_slot ((hG.slots 0 (by decide)).trans rfl))) hG
                      · exact ry rfl hF 41 rfl rfl rfl rfl rfl hz rfl (ex_move (Or.inl rfl) (eval_slot ((hG.slots 3 (by decide)).trans rfl))) hG
                      · exact ry rfl hF 41 rfl rfl rfl rfl rfl hz rfl (ex_index rfl (ev hF 42 rfl rfl) (ev hF 43 rfl rfl) (idx_ch HKN.out)) hG
                      · exact ry rfl hF 41 rfl rfl rfl rfl rfl hz rfl (ex_field rfl (ev hF 44 rfl rfl) (by go_simp)) hG
                      · exact ry rfl hF 41 rfl rfl rfl rfl rfl hz rfl (ex_load rfl (ev hF 45 rfl rfl) (ld_strT (cell_keep C1.out hG.below))) hG
                      · exact ry rfl hF 41 rfl rfl rfl rfl rfl hz rfl (ex_move (Or.inl rfl) (eval_slot ((hG.slots 0 (by decide)).trans rfl))) hG
                      · exact ry rfl hF 41 rfl rfl rfl rfl rfl hz rfl (ex_move (Or.inl rfl) (eval_slot ((hG.slots 3 (by decide)).trans rfl))) hG
                      · exact ry rfl hF 41 rfl rfl rfl rfl rfl hz rfl (ex_index rfl (ev hF 47 rfl rfl) (ev hF 48 rfl rfl) (idx_ch HKN.out)) hG
                      · exact ry rfl hF 41 rfl rfl rfl rfl rfl hz rfl (ex_field rfl (ev hF 49 rfl rfl) (by go_simp)) hG
                      · exact ry rfl hF 41 rfl rfl rfl rfl rfl hz rfl (ex_load rfl (ev hF 50 rfl rfl) (ld_strT (cell_keep C2.out hG.below))) hG
                      · exact ry rfl hF 41 rfl rfl rfl rfl rfl hz rfl (ex_bin rfl (ev hF 46 rfl rfl) (ev hF 51 rfl rfl) (by go_simp) (bin_eqL HEQ.out)) hG
                      · exact rv rfl rfl rfl hz rfl (ex_pick_no rfl (ev hF 41 rfl rfl) (ev hF 52 rfl rfl)) hG
                      · exact rv rfl rfl rfl hz rfl (ex_move (Or.inl rfl) (ev hF 53 rfl rfl)) hG
                      iterate 3 exact rn rfl hF 54 rfl rfl rfl rfl rfl rfl hz rfl hG
                      iterate 13 exact ru rfl hF 57 rfl rfl rfl rfl rfl hz rfl hG
                      · exact rn rfl hF 54 rfl rfl rfl rfl rfl rfl hz rfl hG
                      · exact rv rfl rfl rfl hz rfl (ex_pick_yes rfl (ev hF 54 rfl rfl) rfl) hG
                    · intro a wx who hG hF
                      have fv82 : a.tmps.getD 82 undef = .bool true := eval_slot (s := 82) (hF 72 (of_decide_eq_true (by kernel_rfl)) (of_decide_eq_true (by kernel_rfl)))
                      have hbx := hG.below
                      have hnx := hG.new
                      rw [hG.frame]
                      simp only [List.foldl_cons, List.foldl_nil, List.setIfInBounds_toArray, List.set_cons_zero, List.set_cons_succ]
                      rw [fv82]
                      generalize Array.getD a.tmps = uu
                      clear hF hG fv82
                      go_wp2_with fail
                      go_meet
                      exact ⟨by rw [HSX.out]; rfl, Lib.hid (below_step HB.out hbx)⟩
                  | false =>
                    by_cases h0 : k = 0
                    · have HZ := Lib.hid (show decide (0 < k) = false by simp [h0])
                      replace HSX := Lib.hid (HSZ.out h0)
                      clear h0 hm
                      refine rol_run (by kernel_rfl) [[], [], [0, 1], [2], [3], [4], [5], [6], [7], [7], [7, 8, 9], [7, 10], [7, 11], [7, 12], [7, 13], [14], [14], [14, 15, 16], [14, 17], [14, 18], [14, 19], [14, 20], [7, 14, 21], [7, 22], [23], [24], [24], [24, 25, 26], [24, 27], [24, 28], [24, 29], [24, 30], [31], [31], [31, 32, 33], [31, 34], [31, 35], [31, 36], [31, 37], [24, 31, 38], [24, 39], [40], [41], [41], [41, 42, 43], [41, 44], [41, 45], [41], [41], [41, 47, 48], [41, 49], [41, 50], [41, 46, 51], [41, 52], [53], [54], [54, 55], [54, 56], [57], [57], [57], [57], [57], [57], [57], [57], [57], [57], [57], [57], [57], [54, 57], [54, 71]] (by kernel_rfl) [10, 11, 12, 13, 14, 15, 16, 17, 18, 19, 20, 21, 22, 23, 24, 25, 26, 27, 28, 29, 30, 31, 32, 33, 34, 35, 36, 37, 38, 39, 40, 41, 42, 43, 44, 45, 46, 47, 48, 49, 50, 51, 52, 53, 54, 55, 56, 57, 58, 59, 60, 61, 62, 63, 64, 65, 66, 67, 68, 69, 70, 71, 72, 73, 74, 75, 76, 77, 78, 79, 80, 81, 82] [[], [], [0, 1], [2], [3], [4], [5], [6], [7], [7], [7, 8, 9], [7, 10], [7, 11], [7, 12], [7, 13], [14], [14], [14, 15, 16], [14, 17], [14, 18], [14, 19], [14, 20], [7, 14, 21], [7, 22], [23], [24], [24], [24, 25, 26], [24, 27], [24, 28], [24, 29], [24, 30], [31], [31], [31, 32, 33], [31, 34], [31, 35], [31, 36], [31, 37], [24, 31, 38], [24, 39], [40], [41], [41], [41, 42, 43], [41, 44], [41, 45], [41], [41], [41, 47, 48], [41, 49], [41, 50], [41, 46, 51], [41, 52], [53], [54], [54, 55], [54, 56], [57], [57], [57], [57], [57], [57], [57], [57], [57], [57], [57], [57], [57], [54, 57], [54, 71]] (List.replicate 73 0) (List.replicate 73 0) (List.replicate 73 1000) [.val 10 (.slice (some ⟨b, off, none⟩) n c), .val 11 (.int .i64 (k : Int)), .val 12 (.pointer (some ⟨b, off + k * 3, none⟩)), .val 13 (.pointer (some ⟨b, off + k * 3, none⟩)), .val 14 (.string (mkB y0)), .val 15 (.bool true), .val 16 (.bool false), .val 17 (.bool false), .val 18 (.slice (some ⟨b, off, none⟩) n c), .val 19 (.int .i64 (k : Int)), .val 20 (.pointer (some ⟨b, off + k * 3, none⟩)), .val 21 (.pointer (some ⟨b, off + k * 3 + 1, none⟩)), .val 22 (.string (mkB y1)), .val 23 (.bool true), .val 24 (.bool true), .val 25 (.slice (some ⟨b, off, none⟩) n c), .val 26 (.int .i64 (k : Int)), .val 27 (.pointer (some ⟨b, off + k * 3, none⟩)), .val 28 (.pointer (some ⟨b, off + k * 3 + 1, none⟩)), .val 29 (.string (mkB y1)), .val 30 (.bool true), .val 31 (.bool false), .val 32 (.bool false), .val 33 (.bool false), .val 34 (.bool false), .val 35 (.slice (some ⟨b, off, none⟩) n c), .val 36 (.int .i64 (k : Int)), .val 37 (.pointer (some ⟨b, off + k * 3, none⟩)), .val 38 (.pointer (some ⟨b, off + k * 3 + 2, none⟩)), .val 39 (.string (mkB y2)), .val 40 (.bool true), .val 41 (.bool true), .val 42 (.slice (some ⟨b, off, none⟩) n c), .val 43 (.int .i64 (k : Int)), .val 44 (.pointer (some ⟨b, off + k * 3, none⟩)), .val 45 (.pointer (some ⟨b, off + k * 3 + 2, none⟩)), .val 46 (.string (mkB y2)), .val 47 (.bool true), .val 48 (.bool false), .val 49 (.bool false), .val 50 (.bool false), .val 51 (.bool false), .val 52 (.slice (some ⟨b, off, none⟩) n c), .val 53 (.int .i64 (k : Int)), .val 54 (.pointer (some ⟨b, off + k * 3, none⟩)), .val 55 (.pointer (some ⟨b, off + k * 3 + 1, none⟩)), .val 56 (.string (mkB y1)), .val 57 (.slice (some ⟨b, off, none⟩) n c), .val 58 (.int .i64 (k : Int)), .val 59 (.pointer (some ⟨b, off + k * 3, none⟩)), .val 60 (.pointer (some ⟨b, off + k * 3 + 2, none⟩)), .val 61 (.string (mkB y2)), .val 62 (.bool false), .val 63 (.bool false), .val 64 (.bool false), .val 65 (.int .i64 (k : Int)), .val 66 (.bool false), .val 67 (.bool false), .val 68 undef, .val 69 undef, .val 70 undef, .val 71 undef, .val 72 undef, .val 73 undef, .val 74 undef, .val 75 undef, .val 76 undef, .val 77 undef, .val 78 undef, .val 79 undef, .val 80 undef, .val 81 (.bool false), .val 82 (.bool false)] (by kernel_rfl) ?_ (wr.heap.size) (wr.heap.size) rfl (Below.refl _ _) rfl (fun _ => 0) ?_ ?_ ?_
                      · intro j hj
                        have hj3 : j < 73 := hj
                        clear hj
                        revert j
                        iterate 73 refine lt_step ?_ ?_
                        · exact lt_none
                        all_goals exact trivial
                      · intro j hj0 hj
                        exact absurd hj (Nat.not_lt.2 hj0)
                      · intro i hi
                        have hi3 : i < 73 := hi
                        clear hi
                        revert i
                        iterate 73 refine lt_step ?_ ?_
                        · exact lt_none
                        all_goals intro a wx who hG hF
                        all_goals have hz : a.tmps.size = 83 := hG.size
                        · exact rv rfl rfl rfl hz rfl (ex_move (Or.inl rfl) (eval_slot ((hG.slots 0 (by decide)).trans rfl))) hG
                        · exact rv rfl rfl rfl hz rfl (ex_move (Or.inl rfl) (eval_slot ((hG.slots 3 (by decide)).trans rfl))) hG
                        · exact rv rfl rfl rfl hz rfl (ex_index rfl (ev hF 0 rfl rfl) (ev hF 1 rfl rfl) (idx_ch HKN.out)) hG
                        · exact rv rfl rfl rfl hz rfl (ex_field rfl (ev hF 2 rfl rfl) (by go_simp)) hG
                        · exact rv rfl rfl rfl hz rfl (ex_load rfl (ev hF 3 rfl rfl) (ld_strT (cell_keep C0.out hG.below))) hG
                        · refine rol_call rfl rfl rfl (by rw [hz]; decide) (ex_call rfl (by simp [eval_slot (hF 4 (by decide))]) e1) (KP.out wx) ?_ hG.below (Nat.le_trans HNW.out hG.new)
                          rintro e w1 ⟨rfl, hb1⟩
                          exact ⟨_, rfl, hb1, .inl rfl⟩
                        · exact rv rfl rfl rfl hz rfl (ex_un rfl (ev hF 5 rfl rfl) rfl) hG
                        · exact rv rfl rfl rfl hz rfl (ex_move (Or.inl rfl) (ev hF 6 rfl rfl)) hG
                        · exact ry rfl hF 7 rfl rfl rfl rfl rfl hz rfl (ex_move (Or.inl rfl) (eval_slot ((hG.slots 0 (by decide)).trans rfl))) hG
                        · exact ry rfl hF 7 rfl rfl rfl rfl rfl hz rfl (ex_move (Or.inl rfl) (eval_slot ((hG.slots 3 (by decide)).trans rfl))) hG
                        · exact ry rfl hF 7 rfl rfl rfl rfl rfl hz rfl (ex_index rfl (ev hF 8 rfl rfl) (ev hF 9 rfl rfl) (idx_ch HKN.out)) hG
                        · exact ry rfl hF 7 rfl rfl rfl rfl rfl hz rfl (ex_field rfl (ev hF 10 rfl rfl) (by go_simp)) hG
                        · exact ry rfl hF 7 rfl rfl rfl rfl rfl hz rfl (ex_load rfl (ev hF 11 rfl rfl) (ld_strT (cell_keep C1.out hG.below))) hG
                        · exact ry rfl hF 7 rfl rfl rfl rfl rfl hz rfl (ex_bin rfl (ev hF 12 rfl rfl) rfl (by go_simp) (bin_neNil HE1.out rfl)) hG
                        · exact ry rfl hF 7 rfl rfl rfl rfl rfl hz rfl (ex_move (Or.inl rfl) (ev hF 13 rfl rfl)) hG
                        · exact ry rfl hF 14 rfl rfl rfl rfl rfl hz rfl (ex_move (Or.inl rfl) (eval_slot ((hG.slots 0 (by decide)).trans rfl))) hG
                        · exact ry rfl hF 14 rfl rfl rfl rfl rfl hz rfl (ex_move (Or.inl rfl) (eval_slot ((hG.slots 3 (by decide)).trans rfl))) hG
                        · exact ry rfl hF 14 rfl rfl rfl rfl rfl hz rfl (ex_index rfl (ev hF 15 rfl rfl) (ev hF 16 rfl rfl) (idx_ch HKN.out)) hG
                        · exact ry rfl hF 14 rfl rfl rfl rfl rfl hz rfl (ex_field rfl (ev hF 17 rfl rfl) (by go_simp)) hG
                        · exact ry rfl hF 14 rfl rfl rfl rfl rfl hz rfl (ex_load rfl (ev hF 18 rfl rfl) (ld_strT (cell_keep C1.out hG.below))) hG
                        · refine rol_call rfl (want_yes rfl rfl (hF 14 (by decide))) rfl (by rw [hz]; decide) (ex_call rfl (by simp [eval_slot (hF 19 (by decide))]) e2) (K1.out wx) ?_ hG.below (Nat.le_trans HNW.out hG.new)
                          rintro e w1 ⟨rfl, hb1⟩
                          exact ⟨_, rfl, hb1, .inl rfl⟩
                        · exact ry rfl hF 14 rfl rfl rfl rfl rfl hz rfl (ex_un rfl (ev hF 20 rfl rfl) rfl) hG
                        · exact ry rfl hF 7 rfl rfl rfl rfl rfl hz rfl (ex_pick_yes rfl (ev hF 14 rfl rfl) (ev hF 21 rfl rfl)) hG
                        · exact rv rfl rfl rfl hz rfl (ex_pick_no rfl (ev hF 7 rfl rfl) (ev hF 22 rfl rfl)) hG
                        · exact rv rfl rfl rfl hz rfl (ex_move (Or.inl rfl) (ev hF 23 rfl rfl)) hG
                        · exact ry rfl hF 24 rfl rfl rfl rfl rfl hz rfl (ex_move (Or.inl rfl) (eval_slot ((hG.slots 0 (by decide)).trans rfl))) hG
                        · exact ry rfl hF 24 rfl rfl rfl rfl rfl hz rfl (ex_move (Or.inl rfl) (eval_slot ((hG.slots 3 (by decide)).trans rfl))) hG
                        · exact ry rfl hF 24 rfl rfl rfl rfl rfl hz rfl (ex_index rfl (ev hF 25 rfl rfl) (ev hF 26 rfl rfl) (idx_ch HKN.out)) hG
                        · exact ry rfl hF 24 rfl rfl rfl rfl rfl hz rfl (ex_field rfl (ev hF 27 rfl rfl) (by go_simp)) hG
                        · exact ry rfl hF 24 rfl rfl rfl rfl rfl hz rfl (ex_load rfl (ev hF 28 rfl rfl) (ld_strT (cell_keep C2.out hG.below))) hG
                        · exact ry rfl hF 24 rfl rfl rfl rfl rfl hz rfl (ex_bin rfl (ev hF 29 rfl rfl) rfl (by go_simp) (bin_neNil HE2.out rfl)) hG
                        · exact ry rfl hF 24 rfl rfl rfl rfl rfl hz rfl (ex_move (Or.inl rfl) (ev hF 30 rfl rfl)) hG
                        · exact ry rfl hF 31 rfl rfl rfl rfl rfl hz rfl (ex_move (Or.inl rfl) (eval_slot ((hG.slots 0 (by decide)).trans rfl))) hG
                        · exact ry rfl hF 31 rfl rfl rfl rfl rfl hz rfl (ex_move (Or.inl rfl) (eval_slot ((hG.slots 3 (by decide)).trans rfl))) hG
                        · exact ry rfl hF 31 rfl rfl rfl rfl rfl hz rfl (ex_index rfl (ev hF 32 rfl rfl) (ev hF 33 rfl rfl) (idx_ch HKN.out)) hG
                        · exact ry rfl hF 31 rfl rfl rfl rfl rfl hz rfl (ex_field rfl (ev hF 34 rfl rfl) (by go_simp)) hG
                        · exact ry rfl hF 31 rfl rfl rfl rfl rfl hz rfl (ex_load rfl (ev hF 35 rfl rfl) (ld_strT (cell_keep C2.out hG.below))) hG
                        · refine rol_call rfl (want_yes rfl rfl (hF 31 (by decide))) rfl (by rw [hz]; decide) (ex_call rfl (by simp [eval_slot (hF 36 (by decide))]) e2) (K2.out wx) ?_ hG.below (Nat.le_trans HNW.out hG.new)
                          rintro e w1 ⟨rfl, hb1⟩
                          exact ⟨_, rfl, hb1, .inl rfl⟩
                        · exact ry rfl hF 31 rfl rfl rfl rfl rfl hz rfl (ex_un rfl (ev hF 37 rfl rfl) rfl) hG
                        · exact ry rfl hF 24 rfl rfl rfl rfl rfl hz rfl (ex_pick_yes rfl (ev hF 31 rfl rfl) (ev hF 38 rfl rfl)) hG
                        · exact rv rfl rfl rfl hz rfl (ex_pick_no rfl (ev hF 24 rfl rfl) (ev hF 39 rfl rfl)) hG
                        · exact rv rfl rfl rfl hz rfl (ex_move (Or.inl rfl) (ev hF 40 rfl rfl)) hG
                        · exact ry rfl hF 41 rfl rfl rfl rfl rfl hz rfl (ex_move (Or.inl rfl) (eval_slot ((hG.slots 0 (by decide)).trans rfl))) hG
                        · exact ry rfl hF 41 rfl rfl rfl rfl rfl hz rfl (ex_move (Or.inl rfl) (eval_slot ((hG.slots 3 (by decide)).trans rfl))) hG
                        · exact ry rfl hF 41 rfl rfl rfl rfl rfl hz rfl (ex_index rfl (ev hF 42 rfl rfl) (ev hF 43 rfl rfl) (idx_ch HKN.out)) hG
                        · exact ry rfl hF 41 rfl rfl rfl rfl rfl hz rfl (ex_field rfl (ev hF 44 rfl rfl) (by go_simp)) hG
                        · exact ry rfl hF 41 rfl rfl rfl rfl rfl hz rfl (ex_load rfl (ev hF 45 rfl rfl) (ld_strT (cell_keep C1.out hG.below))) hG
                        · exact ry rfl hF 41 rfl rfl rfl rfl rfl hz rfl (ex_move (Or.inl rfl) (eval_slot ((hG.slots 0 (by decide)).trans rfl))) hG
                        · exact ry rfl hF 41 rfl rfl rfl rfl rfl hz rfl (ex_move (Or.inl rfl) (eval_slot ((hG.slots 3 (by decide)).trans rfl))) hG
                        · exact ry rfl hF 41 rfl rfl rfl rfl rfl hz rfl (ex_index rfl (ev hF 47 rfl rfl) (ev hF 48 rfl rfl) (idx_ch HKN.out)) hG
                        · exact ry rfl hF 41 rfl rfl rfl rfl rfl hz rfl (ex_field rfl (ev hF 49 rfl rfl) (by go_simp)) hG
                        · exact ry rfl hF 41 rfl rfl rfl rfl rfl hz rfl (ex_load rfl (ev hF 50 rfl rfl) (ld_strT (cell_keep C2.out hG.below))) hG
                        · exact ry rfl hF 41 rfl rfl rfl rfl rfl hz rfl (ex_bin rfl (ev hF 46 rfl rfl) (ev hF 51 rfl rfl) (by go_simp) (bin_eqL HEQ.out)) hG
                        · exact rv rfl rfl rfl hz rfl (ex_pick_no rfl (ev hF 41 rfl rfl) (ev hF 52 rfl rfl)) hG
                        · exact rv rfl rfl rfl hz rfl (ex_move (Or.inl rfl) (ev hF 53 rfl rfl)) hG
                        · exact ry rfl hF 54 rfl rfl rfl rfl rfl hz rfl (ex_move (Or.inl rfl) (eval_slot ((hG.slots 3 (by decide)).trans rfl))) hG
                        · exact ry rfl hF 54 rfl rfl rfl rfl rfl hz rfl (ex_bin rfl (ev hF 55 rfl rfl) rfl (by go_simp) (bin_gt0L HZ.out)) hG
                        · exact ry rfl hF 54 rfl rfl rfl rfl rfl hz rfl (ex_move (Or.inl rfl) (ev hF 56 rfl rfl)) hG
                        iterate 13 exact rn rfl hF 57 rfl rfl rfl rfl rfl rfl hz rfl hG
                        · exact ry rfl hF 54 rfl rfl rfl rfl rfl hz rfl (ex_pick_no rfl (ev hF 57 rfl rfl) rfl) hG
                        · exact rv rfl rfl rfl hz rfl (ex_pick_no rfl (ev hF 54 rfl rfl) (ev hF 71 rfl rfl)) hG
                      · intro a wx who hG hF
                        have fv82 : a.tmps.getD 82 undef = .bool false := eval_slot (s := 82) (hF 72 (of_decide_eq_true (by kernel_rfl)) (of_decide_eq_true (by kernel_rfl)))
                        have hbx := hG.below
                        have hnx := hG.new
                        rw [hG.frame]
                        simp only [List.foldl_cons, List.foldl_nil, List.setIfInBounds_toArray, List.set_cons_zero, List.set_cons_succ]
                        rw [fv82]
                        generalize Array.getD a.tmps = uu
                        clear hF hG fv82
                        go_wp2_with fail
                        go_meet
                        exact ⟨by rw [HSX.out]; rfl, Lib.hid (below_step HB.out hbx)⟩
                    · have HZ := Lib.hid (show decide (0 < k) = true by simp; omega)
                      have HM2 := Lib.hid (show k = m + 1 by omega)
                      replace HSX := Lib.hid (HSN.out h0)
                      clear h0 hm
                      cases oge with
                      | true =>
                        refine rol_run (by kernel_rfl) [[], [], [0, 1], [2], [3], [4], [5], [6], [7], [7], [7, 8, 9], [7, 10], [7, 11], [7, 12], [7, 13], [14], [14], [14, 15, 16], [14, 17], [14, 18], [14, 19], [14, 20], [7, 14, 21], [7, 22], [23], [24], [24], [24, 25, 26], [24, 27], [24, 28], [24, 29], [24, 30], [31], [31], [31, 32, 33], [31, 34], [31, 35], [31, 36], [31, 37], [24, 31, 38], [24, 39], [40], [41], [41], [41, 42, 43], [41, 44], [41, 45], [41], [41], [41, 47, 48], [41, 49], [41, 50], [41, 46, 51], [41, 52], [53], [54], [54, 55], [54, 56], [57], [57], [57, 59], [57, 58, 60], [57, 61], [57, 62], [57], [57], [57, 64, 65], [57, 66], [57, 67], [57, 63, 68], [57, 69], [54, 57, 70], [54, 71]] (by kernel_rfl) [10, 11, 12, 13, 14, 15, 16, 17, 18, 19, 20, 21, 22, 23, 24, 25, 26, 27, 28, 29, 30, 31, 32, 33, 34, 35, 36, 37, 38, 39, 40, 41, 42, 43, 44, 45, 46, 47, 48, 49, 50, 51, 52, 53, 54, 55, 56, 57, 58, 59, 60, 61, 62, 63, 64, 65, 66, 67, 68, 69, 70, 71, 72, 73, 74, 75, 76, 77, 78, 79, 80, 81, 82] [[], [], [0, 1], [2], [3], [4], [5], [6], [7], [7], [7, 8, 9], [7, 10], [7, 11], [7, 12], [7, 13], [14], [14], [14, 15, 16], [14, 17], [14, 18], [14, 19], [14, 20], [7, 14, 21], [7, 22], [23], [24], [24], [24, 25, 26], [24, 27], [24, 28], [24, 29], [24, 30], [31], [31], [31, 32, 33], [31, 34], [31, 35], [31, 36], [31, 37], [24, 31, 38], [24, 39], [40], [41], [41], [41, 42, 43], [41, 44], [41, 45], [41], [41], [41, 47, 48], [41, 49], [41, 50], [41, 46, 51], [41, 52], [53], [54], [54, 55], [54, 56], [57], [57], [57, 59], [57, 58, 60], [57, 61], [57, 62], [57], [57], [57, 64, 65], [57, 66], [57, 67], [57, 63, 68], [57, 69], [54, 57, 70], [54, 71]] (List.replicate 73 0) (List.replicate 73 0) (List.replicate 73 1000) [.val 10 (.slice (some ⟨b, off, none⟩) n c), .val 11 (.int .i64 (k : Int)), .val 12 (.pointer (some ⟨b, off + k * 3, none⟩)), .val 13 (.pointer (some ⟨b, off + k * 3, none⟩)), .val 14 (.string (mkB y0)), .val 15 (.bool true), .val 16 (.bool false), .val 17 (.bool false), .val 18 (.slice (some ⟨b, off, none⟩) n c), .val 19 (.int .i64 (k : Int)), .val 20 (.pointer (some ⟨b, off + k * 3, none⟩)), .val 21 (.pointer (some ⟨b, off + k * 3 + 1, none⟩)), .val 22 (.string (mkB y1)), .val 23 (.bool true), .val 24 (.bool true), .val 25 (.slice (some ⟨b, off, none⟩) n c), .val 26 (.int .i64 (k : Int)), .val 27 (.pointer (some ⟨b, off + k * 3, none⟩)), .val 28 (.pointer (some ⟨b, off + k * 3 + 1, none⟩)), .val 29 (.string (mkB y1)), .val 30 (.bool true), .val 31 (.bool false), .val 32 (.bool false), .val 33 (.bool false), .val 34 (.bool false), .val 35 (.slice (some ⟨b, off, none⟩) n c), .val 36 (.int .i64 (k : Int)), .val 37 (.pointer (some ⟨b, off + k * 3, none⟩)), .val 38 (.pointer (some ⟨b, off + k * 3 + 2, none⟩)), .val 39 (.string (mkB y2)), .val 40 (.bool true), .val 41 (.bool true), .val 42 (.slice (some ⟨b, off, none⟩) n c), .val 43 (.int .i64 (k : Int)), .val 44 (.pointer (some ⟨b, off + k * 3, none⟩)), .val 45 (.pointer (some ⟨b, off + k * 3 + 2, none⟩)), .val 46 (.string (mkB y2)), .val 47 (.bool true), .val 48 (.bool false), .val 49 (.bool false), .val 50 (.bool false), .val 51 (.bool false), .val 52 (.slice (some ⟨b, off, none⟩) n c), .val 53 (.int .i64 (k : Int)), .val 54 (.pointer (some ⟨b, off + k * 3, none⟩)), .val 55 (.pointer (some ⟨b, off + k * 3 + 1, none⟩)), .val 56 (.string (mkB y1)), .val 57 (.slice (some ⟨b, off, none⟩) n c), .val 58 (.int .i64 (k : Int)), .val 59 (.pointer (some ⟨b, off + k * 3, none⟩)), .val 60 (.pointer (some ⟨b, off + k * 3 + 2, none⟩)), .val 61 (.string (mkB y2)), .val 62 (.bool false), .val 63 (.bool false), .val 64 (.bool false), .val 65 (.int .i64 (k : Int)), .val 66 (.bool true), .val 67 (.bool true), .val 68 (.slice (some ⟨b, off, none⟩) n c), .val 69 (.int .i64 (k : Int)), .val 70 (.int .i64 (m : Int)), .val 71 (.pointer (some ⟨b, off + m * 3, none⟩)), .val 72 (.pointer (some ⟨b, off + m * 3, none⟩)), .val 73 (.string (mkB x0)), .val 74 (.slice (some ⟨b, off, none⟩) n c), .val 75 (.int .i64 (k : Int)), .val 76 (.pointer (some ⟨b, off + k * 3, none⟩)), .val 77 (.pointer (some ⟨b, off + k * 3, none⟩)), .val 78 (.string (mkB y0)), .val 79 (.int .i64 C), .val 80 (.bool true), .val 81 (.bool true), .val 82 (.bool true)] (by kernel_rfl) ?_ (wr.heap.size) (wr.heap.size) rfl (Below.refl _ _) rfl (fun _ => 0) ?_ ?_ ?_
                        · intro j hj
                          have hj3 : j < 73 := hj
                          clear hj
                          revert j
                          iterate 73 refine lt_step ?_ ?_
                          · exact lt_none
                          all_goals exact trivial
                        · intro j hj0 hj
                          exact absurd hj (Nat.not_lt.2 hj0)
                        · intro i hi
                          have hi3 : i < 73 := hi
                          clear hi
                          revert i
                          iterate 73 refine lt_step ?_ ?_
                          · exact lt_none
                          all_goals intro a wx who hG hF
                          all_goals have hz : a.tmps.size = 83 := hG.size
                          · exact rv rfl rfl rfl hz rfl (ex_move (Or.inl rfl) (eval_slot ((hG.slots 0 (by decide)).trans rfl))) hG
                          · exact rv rfl rfl rfl hz rfl (ex_move (Or.inl rfl) (eval_slot ((hG.slots 3 (by decide)).trans rfl))) hG
                          · exact rv rfl rfl rfl hz rfl (ex_index rfl (ev hF 0 rfl rfl) (ev hF 1 rfl rfl) (idx_ch HKN.out)) hG
                          · exact rv rfl rfl rfl hz rfl (ex_field rfl (ev hF 2 rfl rfl) (by go_simp)) hG
                          · exact rv rfl rfl rfl hz rfl (ex_load rfl (ev hF 3 rfl rfl) (ld_strT (cell_keep C0.out hG.below))) hG
                          · refine rol_call rfl rfl rfl (by rw [hz]; decide) (ex_call rfl (by simp [eval_slot (hF 4 (by decide))]) e1) (KP.out wx) ?_ hG.below (Nat.le_trans HNW.out hG.new)
                            rintro e w1 ⟨rfl, hb1⟩
                            exact ⟨_, rfl, hb1, .inl rfl⟩
                          · exact rv rfl rfl rfl hz rfl (ex_un rfl (ev hF 5 rfl rfl) rfl) hG
                          · exact rv rfl rfl rfl hz rfl (ex_move (Or.inl rfl) (ev hF 6 rfl rfl)) hG
                          · exact ry rfl hF 7 rfl rfl rfl rfl rfl hz rfl (ex_move (Or.inl rfl) (eval_slot ((hG.slots 0 (by decide)).trans rfl))) hG
                          · exact ry rfl hF 7 rfl rfl rfl rfl rfl hz rfl (ex_move (Or.inl rfl) (eval_slot ((hG.slots 3 (by decide)).trans rfl))) hG
                          · exact ry rfl hF 7 rfl rfl rfl rfl rfl hz rfl (ex_index rfl (ev hF 8 rfl rfl) (ev hF 9 rfl rfl) (idx_ch HKN.out)) hG
                          · exact ry rfl hF 7 rfl rfl rfl rfl rfl hz rfl (ex_field rfl (ev hF 10 rfl rfl) (by go_simp)) hG
                          · exact ry rfl hF 7 rfl rfl rfl rfl rfl hz rfl (ex_load rfl (ev hF 11 rfl rfl) (ld_strT (cell_keep C1.out hG.below))) hG
                          · exact ry rfl hF 7 rfl rfl rfl rfl rfl hz rfl (ex_bin rfl (ev hF 12 rfl rfl) rfl (by go_simp) (bin_neNil HE1.out rfl)) hG
                          · exact ry rfl hF 7 rfl rfl rfl rfl rfl hz rfl (ex_move (Or.inl rfl) (ev hF 13 rfl rfl)) hG
                          · exact ry rfl hF 14 rfl rfl rfl rfl rfl hz rfl (ex_move (Or.inl rfl) (eval_slot ((hG.slots 0 (by decide)).trans rfl))) hG
                          · exact ry rfl hF 14 rfl rfl rfl rfl rfl hz rfl (ex_move (Or.inl rfl) (eval_slot ((hG.slots 3 (by decide)).trans rfl))) hG
                          · exact ry rfl hF 14 rfl rfl rfl rfl rfl hz rfl (ex_index rfl (ev hF 15 rfl rfl) (ev hF 16 rfl rfl) (idx_ch HKN.out)) hG
                          · exact ry rfl hF 14 rfl rfl rfl rfl rfl hz rfl (ex_field rfl (ev hF 17 rfl rfl) (by go_simp)) hG
                          · exact ry rfl hF 14 rfl rfl rfl rfl rfl hz rfl (ex_load rfl (ev hF 18 rfl rfl) (ld_strT (cell_keep C1.out hG.below))) hG
                          · refine rol_call rfl (want_yes rfl rfl (hF 14 (by decide))) rfl (by rw [hz]; decide) (ex_call rfl (by simp [eval_slot (hF 19 (by decide))]) e2) (K1.out wx) ?_ hG.below (Nat.le_trans HNW.out hG.new)
                            rintro e w1 ⟨rfl, hb1⟩
                            exact ⟨_, rfl, hb1, .inl rfl⟩
                          · exact ry rfl hF 14 rfl rfl rfl rfl rfl hz rfl (ex_un rfl (ev hF 20 rfl rfl) rfl) hG
                          · exact ry rfl hF 7 rfl rfl rfl rfl rfl hz rfl (ex_pick_yes rfl (ev hF 14 rfl rfl) (ev hF 21 rfl rfl)) hG
                          · exact rv rfl rfl rfl hz rfl (ex_pick_no rfl (ev hF 7 rfl rfl) (ev hF 22 rfl rfl)) hG
                          · exact rv rfl rfl rfl hz rfl (ex_move (Or.inl rfl) (ev hF 23 rfl rfl)) hG
                          · exact ry rfl hF 24 rfl rfl rfl rfl rfl hz rfl (ex_move (Or.inl rfl) (eval_slot ((hG.slots 0 (by decide)).trans rfl))) hG
                          · exact ry rfl hF 24 rfl rfl rfl rfl rfl hz rfl (ex_move (Or.inl rfl) (eval_slot ((hG.slots 3 (by decide)).trans rfl))) hG
                          · exact ry rfl hF 24 rfl rfl rfl rfl rfl hz rfl (ex_index rfl (ev hF 25 rfl rfl) (ev hF 26 rfl rfl) (idx_ch HKN.out)) hG
                          · exact ry rfl hF 24 rfl rfl rfl rfl rfl hz rfl (ex_field rfl (ev hF 27 rfl rfl) (by go_simp)) hG
                          · exact ry rfl hF 24 rfl rfl rfl rfl rfl hz rfl (ex_load rfl (ev hF 28 rfl rfl) (ld_strT (cell_keep C2.out hG.below))) hG
                          · exact ry rfl hF 24 rfl rfl rfl rfl rfl hz rfl (ex_bin rfl (ev hF 29 rfl rfl) rfl (by go_simp) (bin_neNil HE2.out rfl)) hG
                          · exact ry rfl hF 24 rfl rfl rfl rfl rfl hz rfl (ex_move (Or.inl rfl) (ev hF 30 rfl rfl)) hG
                          · exact ry rfl hF 31 rfl rfl rfl rfl rfl hz rfl (ex_move (Or.inl rfl) (eval_slot ((hG.slots 0 (by decide)).trans rfl))) hG
                          · exact ry rfl hF 31 rfl rfl rfl rfl rfl hz rfl (ex_move (Or.inl rfl) (eval_slot ((hG.slots 3 (by decide)).trans rfl))) hG
                          · exact ry rfl hF 31 rfl rfl rfl rfl rfl hz rfl (ex_index rfl (ev hF 32 rfl rfl) (ev hF 33 rfl rfl) (idx_ch HKN.out)) hG
                          · exact ry rfl hF 31 rfl rfl rfl rfl rfl hz rfl (ex_field rfl (ev hF 34 rfl rfl) (by go_simp)) hG
                          · exact ry rfl hF 31 rfl rfl rfl rfl rfl hz rfl (ex_load rfl (ev hF 35 rfl rfl) (ld_strT (cell_keep C2.out hG.below))) hG
                          · refine rol_call rfl (want_yes rfl rfl (hF 31 (by decide))) rfl (by rw [hz]; decide) (ex_call rfl (by simp [eval_slot (hF 36 (by decide))]) e2) (K2.out wx) ?_ hG.below (Nat.le_trans HNW.out hG.new)
                            rintro e w1 ⟨rfl, hb1⟩
                            exact ⟨_, rfl, hb1, .inl rfl⟩
                          · exact ry rfl hF 31 rfl rfl rfl rfl rfl hz rfl (ex_un rfl (ev hF 37 rfl rfl) rfl) hG
                          · exact ry rfl hF 24 rfl rfl rfl rfl rfl hz rfl (ex_pick_yes rfl (ev hF 31 rfl rfl) (ev hF 38 rfl rfl)) hG
                          · exact rv rfl rfl rfl hz rfl (ex_pick_no rfl (ev hF 24 rfl rfl) (ev hF 39 rfl rfl)) hG
                          · exact rv rfl rfl rfl hz rfl (ex_move (Or.inl rfl) (ev hF 40 rfl rfl)) hG
                          · exact ry rfl hF 41 rfl rfl rfl rfl rfl hz rfl (ex_move (Or.inl rfl) (eval_slot ((hG.slots 0 (by decide)).trans rfl))) hG
                          · exact ry rfl hF 41 rfl rfl rfl rfl rfl hz rfl (ex_move (Or.inl rfl) (eval_slot ((hG.slots 3 (by decide)).trans rfl))) hG
                          · exact ry rfl hF 41 rfl rfl rfl rfl rfl hz rfl (ex_index rfl (ev hF 42 rfl rfl) (ev hF 43 rfl rfl) (idx_ch HKN.out)) hG
                          · exact ry rfl hF 41 rfl rfl rfl rfl rfl hz rfl (ex_field rfl (ev hF 44 rfl rfl) (by go_simp)) hG
                          · exact ry rfl hF 41 rfl rfl rfl rfl rfl hz rfl (ex_load rfl (ev hF 45 rfl rfl) (ld_strT (cell_keep C1.out hG.below))) hG
                          · exact ry rfl hF 41 rfl rfl rfl rfl rfl hz rfl (ex_move (Or.inl rfl) (eval_slot ((hG.slots 0 (by decide)).trans rfl))) hG
                          · exact ry rfl hF 41 rfl rfl rfl rfl rfl hz rfl (ex_move (Or.inl rfl) (eval_slot ((hG.slots 3 (by decide)).trans rfl))) hG
                          · exact ry rfl hF 41 rfl rfl rfl rfl rfl hz rfl (ex_index rfl (ev hF 47 rfl rfl) (ev hF 48 rfl rfl) (idx_ch HKN.out)) hG
                          · exact ry rfl hF 41 rfl rfl rfl rfl rfl hz rfl (ex_field rfl (ev hF 49 rfl rfl) (by go_simp)) hG
                          · exact ry rfl hF 41 rfl rfl rfl rfl rfl hz rfl (ex_load rfl (ev hF 50 rfl rfl) (ld_strT (cell_keep C2.out hG.below))) hG
                          · exact ry rfl hF 41 rfl rfl rfl rfl rfl hz rfl (ex_bin rfl (ev hF 46 rfl rfl) (ev hF 51 rfl rfl) (by go_simp) (bin_eqL HEQ.out)) hG
                          · exact rv rfl rfl rfl hz rfl (ex_pick_no rfl (ev hF 41 rfl rfl) (ev hF 52 rfl rfl)) hG
                          · exact rv rfl rfl rfl hz rfl (ex_move (Or.inl rfl) (ev hF 53 rfl rfl)) hG
                          · exact ry rfl hF 54 rfl rfl rfl rfl rfl hz rfl (ex_move (Or.inl rfl) (eval_slot ((hG.slots 3 (by decide)).trans rfl))) hG
                          · exact ry rfl hF 54 rfl rfl rfl rfl rfl hz rfl (ex_bin rfl (ev hF 55 rfl rfl) rfl (by go_simp) (bin_gt0L HZ.out)) hG
                          · exact ry rfl hF 54 rfl rfl rfl rfl rfl hz rfl (ex_move (Or.inl rfl) (ev hF 56 rfl rfl)) hG
                          · exact ry rfl hF 57 rfl rfl rfl rfl rfl hz rfl (ex_move (Or.inl rfl) (eval_slot ((hG.slots 0 (by decide)).trans rfl))) hG
                          · exact ry rfl hF 57 rfl rfl rfl rfl rfl hz rfl (ex_move (Or.inl rfl) (eval_slot ((hG.slots 3 (by decide)).trans rfl))) hG
                          · exact ry rfl hF 57 rfl rfl rfl rfl rfl hz rfl (ex_bin rfl (ev hF 59 rfl rfl) rfl (by go_simp) (bin_sub1 HM2.out HKB.out)) hG
                          · exact ry rfl hF 57 rfl rfl rfl rfl rfl hz rfl (ex_index rfl (ev hF 58 rfl rfl) (ev hF 60 rfl rfl) (idx_ch HMN.out)) hG
                          · exact ry rfl hF 57 rfl rfl rfl rfl rfl hz rfl (ex_field rfl (ev hF 61 rfl rfl) (by go_simp)) hG
                          · exact ry rfl hF 57 rfl rfl rfl rfl rfl hz rfl (ex_load rfl (ev hF 62 rfl rfl) (ld_strT (cell_keep Q0.out hG.below))) hG
                          · exact ry rfl hF 57 rfl rfl rfl rfl rfl hz rfl (ex_move (Or.inl rfl) (eval_slot ((hG.slots 0 (by decide)).trans rfl))) hG
                          · exact ry rfl hF 57 rfl rfl rfl rfl rfl hz rfl (ex_move (Or.inl rfl) (eval_slot ((hG.slots 3 (by decide)).trans rfl))) hG
                          · exact ry rfl hF 57 rfl rfl rfl rfl rfl hz rfl (ex_index rfl (ev hF 64 rfl rfl) (ev hF 65 rfl rfl) (idx_ch HKN.out)) hG
                          · exact ry rfl hF 57 rfl rfl rfl rfl rfl hz rfl (ex_field rfl (ev hF 66 rfl rfl) (by go_simp)) hG
                          · exact ry rfl hF 57 rfl rfl rfl rfl rfl hz rfl (ex_load rfl (ev hF 67 rfl rfl) (ld_strT (cell_keep C0.out hG.below))) hG
                          · refine rol_call rfl (want_yes rfl rfl (hF 57 (by decide))) rfl (by rw [hz]; decide) (ex_call rfl (by simp [eval_slot (hF 63 (by decide)), eval_slot (hF 68 (by decide))]) e3) (KC.out wx) ?_ hG.below (Nat.le_trans HNW.out hG.new)
                            rintro e w1 ⟨rfl, hb1⟩
                            exact ⟨_, rfl, hb1, .inl rfl⟩
                          · exact ry rfl hF 57 rfl rfl rfl rfl rfl hz rfl (ex_bin rfl (ev hF 69 rfl rfl) rfl (by go_simp) (bin_geq0 HGE.out)) hG
                          · exact ry rfl hF 54 rfl rfl rfl rfl rfl hz rfl (ex_pick_yes rfl (ev hF 57 rfl rfl) (ev hF 70 rfl rfl)) hG
                          · exact rv rfl rfl rfl hz rfl (ex_pick_no rfl (ev hF 54 rfl rfl) (ev hF 71 rfl rfl)) hG
                        · intro a wx who hG hF
                          have fv82 : a.tmps.getD 82 undef = .bool true := eval_slot (s := 82) (hF 72 (of_decide_eq_true (by kernel_rfl)) (of_decide_eq_true (by kernel_rfl)))
                          have hbx := hG.below
                          have hnx := hG.new
                          rw [hG.frame]
                          simp only [List.foldl_cons, List.foldl_nil, List.setIfInBounds_toArray, List.set_cons_zero, List.set_cons_succ]
                          rw [fv82]
                          generalize Array.getD a.tmps = uu
                          clear hF hG fv82
                          go_wp2_with fail
                          go_meet
                          exact ⟨by rw [HSX.out]; rfl, Lib.hid (below_step HB.out hbx)⟩
                      | false =>
                        refine rol_run (by kernel_rfl) [[], [], [0, 1], [2], [3], [4], [5], [6], [7], [7], [7, 8, 9], [7, 10], [7, 11], [7, 12], [7, 13], [14], [14], [14, 15, 16], [14, 17], [14, 18], [14, 19], [14, 20], [7, 14, 21], [7, 22], [23], [24], [24], [24, 25, 26], [24, 27], [24, 28], [24, 29], [24, 30], [31], [31], [31, 32, 33], [31, 34], [31, 35], [31, 36], [31, 37], [24, 31, 38], [24, 39], [40], [41], [41], [41, 42, 43], [41, 44], [41, 45], [41], [41], [41, 47, 48], [41, 49], [41, 50], [41, 46, 51], [41, 52], [53], [54], [54, 55], [54, 56], [57], [57], [57, 59], [57, 58, 60], [57, 61], [57, 62], [57], [57], [57, 64, 65], [57, 66], [57, 67], [57, 63, 68], [57, 69], [54, 57, 70], [54, 71]] (by kernel_rfl) [10, 11, 12, 13, 14, 15, 16, 17, 18, 19, 20, 21, 22, 23, 24, 25, 26, 27, 28, 29, 30, 31, 32, 33, 34, 35, 36, 37, 38, 39, 40, 41, 42, 43, 44, 45, 46, 47, 48, 49, 50, 51, 52, 53, 54, 55, 56, 57, 58, 59, 60, 61, 62, 63, 64, 65, 66, 67, 68, 69, 70, 71, 72, 73, 74, 75, 76, 77, 78, 79, 80, 81, 82] [[], [], [0, 1], [2], [3], [4], [5], [6], [7], [7], [7, 8, 9], [7, 10], [7, 11], [7, 12], [7, 13], [14], [14], [14, 15, 16], [14, 17], [14, 18], [14, 19], [14, 20], [7, 14, 21], [7, 22], [23], [24], [24], [24, 25, 26], [24, 27], [24, 28], [24, 29], [24, 30], [31], [31], [31, 32, 33], [31, 34], [31, 35], [31, 36], [31, 37], [24, 31, 38], [24, 39], [40], [41], [41], [41, 42, 43], [41, 44], [41, 45], [41], [41], [41, 47, 48], [41, 49], [41, 50], [41, 46, 51], [41, 52], [53], [54], [54, 55], [54, 56], [57], [57], [57, 59], [57, 58, 60], [57, 61], [57, 62], [57], [57], [57, 64, 65], [57, 66], [57, 67], [57, 63, 68], [57, 69], [54, 57, 70], [54, 71]] (List.replicate 73 0) (List.replicate 73 0) (List.replicate 73 1000) [.val 10 (.slice (some ⟨b, off, none⟩) n c), .val 11 (.int .i64 (k : Int)), .val 12 (.pointer (some ⟨b, off + k * 3, none⟩)), .val 13 (.pointer (some ⟨b, off + k * 3, none⟩)), .val 14 (.string (mkB y0)), .val 15 (.bool true), .val 16 (.bool false), .val 17 (.bool false), .val 18 (.slice (some ⟨b, off, none⟩) n c), .val 19 (.int .i64 (k : Int)), .val 20 (.pointer (some ⟨b, off + k * 3, none⟩)), .val 21 (.pointer (some ⟨b, off + k * 3 + 1, none⟩)), .val 22 (.string (mkB y1)), .val 23 (.bool true), .val 24 (.bool true), .val 25 (.slice (some ⟨b, off, none⟩) n c), .val 26 (.int .i64 (k : Int)), .val 27 (.pointer (some ⟨b, off + k * 3, none⟩)), .val 28 (.pointer (some ⟨b, off + k * 3 + 1, none⟩)), .val 29 (.string (mkB y1)), .val 30 (.bool true), .val 31 (.bool false), .val 32 (.bool false), .val 33 (.bool false), .val 34 (.bool false), .val 35 (.slice (some ⟨b, off, none⟩) n c), .val 36 (.int .i64 (k : Int)), .val 37 (.pointer (some ⟨b, off + k * 3, none⟩)), .val 38 (.pointer (some ⟨b, off + k * 3 + 2, none⟩)), .val 39 (.string (mkB y2)), .val 40 (.bool true), .val 41 (.bool true), .val 42 (.slice (some ⟨b, off, none⟩) n c), .val 43 (.int .i64 (k : Int)), .val 44 (.pointer (some ⟨b, off + k * 3, none⟩)), .val 45 (.pointer (some ⟨b, off + k * 3 + 2, none⟩)), .val 46 (.string (mkB y2)), .val 47 (.bool true), .val 48 (.bool false), .val 49 (.bool false), .val 50 (.bool false), .val 51 (.bool false), .val 52 (.slice (some ⟨b, off, none⟩) n c), .val 53 (.int .i64 (k : Int)), .val 54 (.pointer (some ⟨b, off + k * 3, none⟩)), .val 55 (.pointer (some ⟨b, off + k * 3 + 1, none⟩)), .val 56 (.string (mkB y1)), .val 57 (.slice (some ⟨b, off, none⟩) n c), .val 58 (.int .i64 (k : Int)), .val 59 (.pointer (some ⟨b, off + k * 3, none⟩)), .val 60 (.pointer (some ⟨b, off + k * 3 + 2, none⟩)), .val 61 (.string (mkB y2)), .val 62 (.bool false), .val 63 (.bool false), .val 64 (.bool false), .val 65 (.int .i64 (k : Int)), .val 66 (.bool true), .val 67 (.bool true), .val 68 (.slice (some ⟨b, off, none⟩) n c), .val 69 (.int .i64 (k : Int)), .val 70 (.int .i64 (m : Int)), .val 71 (.pointer (some ⟨b, off + m * 3, none⟩)), .val 72 (.pointer (some ⟨b, off + m * 3, none⟩)), .val 73 (.string (mkB x0)), .val 74 (.slice (some ⟨b, off, none⟩) n c), .val 75 (.int .i64 (k : Int)), .val 76 (.pointer (some ⟨b, off + k * 3, none⟩)), .val 77 (.pointer (some ⟨b, off + k * 3, none⟩)), .val 78 (.string (mkB y0)), .val 79 (.int .i64 C), .val 80 (.bool false), .val 81 (.bool false), .val 82 (.bool false)] (by kernel_rfl) ?_ (wr.heap.size) (wr.heap.size) rfl (Below.refl _ _) rfl (fun _ => 0) ?_ ?_ ?_
                        · intro j hj
                          have hj3 : j < 73 := hj
                          clear hj
                          revert j
                          iterate 73 refine lt_step ?_ ?_
                          · exact lt_none
                          all_goals exact trivial
                        · intro j hj0 hj
                          exact absurd hj (Nat.not_lt.2 hj0)
                        · intro i hi
                          have hi3 : i < 73 := hi
                          clear hi
                          revert i
                          iterate 73 refine lt_step ?_ ?_
                          · exact lt_none
                          all_goals intro a wx who hG hF
                          all_goals have hz : a.tmps.size = 83 := hG.size
                          · exact rv rfl rfl rfl hz rfl (ex_move (Or.inl rfl) (eval_slot ((hG.slots 0 (by decide)).trans rfl))) hG
                          · exact rv rfl rfl rfl hz rfl (ex_move (Or.inl rfl) (eval_slot ((hG.slots 3 (by decide)).trans rfl))) hG
                          · exact rv rfl rfl rfl hz rfl (ex_index rfl (ev hF 0 rfl rfl) (ev hF 1 rfl rfl) (idx_ch HKN.out)) hG
                          · exact rv rfl rfl rfl hz rfl (ex_field rfl (ev hF 2 rfl rfl) (by go_simp)) hG
                          · exact rv rfl rfl rfl hz rfl (ex_load rfl (ev hF 3 rfl rfl) (ld_strT (cell_keep C0.out hG.below))) hG
                          · refine rol_call rfl rfl rfl (by rw [hz]; decide) (ex_call rfl (by simp [eval_slot (hF 4 (by decide))]) e1) (KP.out wx) ?_ hG.below (Nat.le_trans HNW.out hG.new)
                            rintro e w1 ⟨rfl, hb1⟩
                            exact ⟨_, rfl, hb1, .inl rfl⟩
                          · exact rv rfl rfl rfl hz rfl (ex_un rfl (ev hF 5 rfl rfl) rfl) hG
                          · exact rv rfl rfl rfl hz rfl (ex_move (Or.inl rfl) (ev hF 6 rfl rfl)) hG
                          · exact ry rfl hF 7 rfl rfl rfl rfl rfl hz rfl (ex_move (Or.inl rfl) (eval_slot ((hG.slots 0 (by decide)).trans rfl))) hG
                          · exact ry rfl hF 7 rfl rfl rfl rfl rfl hz rfl (ex_move (Or.inl rfl) (eval_slot ((hG.slots 3 (by decide)).trans rfl))) hG
                          · exact ry rfl hF 7 rfl rfl rfl rfl rfl hz rfl (ex_index rfl (ev hF 8 rfl rfl) (ev hF 9 rfl rfl) (idx_ch HKN.out)) hG
                          · exact ry rfl hF 7 rfl rfl rfl rfl rfl hz rfl (ex_field rfl (ev hF 10 rfl rfl) (by go_simp)) hG
                          · exact ry rfl hF 7 rfl rfl rfl rfl rfl hz rfl (ex_load rfl (ev hF 11 rfl rfl) (ld_strT (cell_keep C1.out hG.below))) hG
                          · exact ry rfl hF 7 rfl rfl rfl rfl rfl hz rfl (ex_bin rfl (ev hF 12 rfl rfl) rfl (by go_simp) (bin_neNil HE1.out rfl)) hG
                          · exact ry rfl hF 7 rfl rfl rfl rfl rfl hz rfl (ex_move (Or.inl rfl) (ev hF 13 rfl rfl)) hG
                          · exact ry rfl hF 14 rfl rfl rfl rfl rfl hz rfl (ex_move (Or.inl rfl) (eval_slot ((hG.slots 0 (by decide)).trans rfl))) hG
                          · exact ry rfl hF 14 rfl rfl rfl rfl rfl hz rfl (ex_move (Or.inl rfl) (eval_slot ((hG.slots 3 (by decide)).trans rfl))) hG
                          · exact ry rfl hF 14 rfl rfl rfl rfl rfl hz rfl (ex_index rfl (ev hF 15 rfl rfl) (ev hF 16 rfl rfl) (idx_ch HKN.out)) hG
                          · exact ry rfl hF 14 rfl rfl rfl rfl rfl hz rfl (ex_field rfl (ev hF 17 rfl rfl) (by go_simp)) hG
                          · exact ry rfl hF 14 rfl rfl rfl rfl rfl hz rfl (ex_load rfl (ev hF 18 rfl rfl) (ld_strT (cell_keep C1.out hG.below))) hG
                          · refine rol_call rfl (want_yes rfl rfl (hF 14 (by decide))) rfl (by rw [hz]; decide) (ex_call rfl (by simp [eval_slot (hF 19 (by decide))]) e2) (K1.out wx) ?_ hG.below (Nat.le_trans HNW.out hG.new)
                            rintro e w1 ⟨rfl, hb1⟩
                            exact ⟨_, rfl, hb1, .inl rfl⟩
                          · exact ry rfl hF 14 rfl rfl rfl rfl rfl hz rfl (ex_un rfl (ev hF 20 rfl rfl) rfl) hG
                          · exact ry rfl hF 7 rfl rfl rfl rfl rfl hz rfl (ex_pick_yes rfl (ev hF 14 rfl rfl) (ev hF 21 rfl rfl)) hG
                          · exact rv rfl rfl rfl hz rfl (ex_pick_no rfl (ev hF 7 rfl rfl) (ev hF 22 rfl rfl)) hG
                          · exact rv rfl rfl rfl hz rfl (ex_move (Or.inl rfl) (ev hF 23 rfl rfl)) hG
                          · exact ry rfl hF 24 rfl rfl rfl rfl rfl hz rfl (ex_move (Or.inl rfl) (eval_slot ((hG.slots 0 (by decide)).trans rfl))) hG
                          · exact ry rfl hF 24 rfl rfl rfl rfl rfl hz rfl (ex_move (Or.inl rfl) (eval_slot ((hG.slots 3 (by decide)).trans rfl))) hG
                          · exact ry rfl hF 24 rfl rfl rfl rfl rfl hz rfl (ex_index rfl (ev hF 25 rfl rfl) (ev hF 26 rfl rfl) (idx_ch HKN.out)) hG
                          · exact ry rfl hF 24 rfl rfl rfl rfl rfl hz rfl (ex_field rfl (ev hF 27 rfl rfl) (by go_simp)) hG
                          · exact ry rfl hF 24 rfl rfl rfl rfl rfl hz rfl (ex_load rfl (ev hF 28 rfl rfl) (ld_strT (cell_keep C2.out hG.below))) hG
                          · exact ry rfl hF 24 rfl rfl rfl rfl rfl hz rfl (ex_bin rfl (ev hF 29 rfl rfl) rfl (by go_simp) (bin_neNil HE2.out rfl)) hG
                          · exact ry rfl hF 24 rfl rfl rfl rfl rfl hz rfl (ex_move (Or.inl rfl) (ev hF 30 rfl rfl)) hG
                          · exact ry rfl hF 31 rfl rfl rfl rfl rfl hz rfl (ex_move (Or.inl rfl) (eval_slot ((hG.slots 0 (by decide)).trans rfl))) hG
                          · exact ry rfl hF 31 rfl rfl rfl rfl rfl hz rfl (ex_move (Or.inl rfl) (eval_slot ((hG.slots 3 (by decide)).trans rfl))) hG
                          · exact ry rfl hF 31 rfl rfl rfl rfl rfl hz rfl (ex_index rfl (ev hF 32 rfl rfl) (ev hF 33 rfl rfl) (idx_ch HKN.out)) hG
                          · exact ry rfl hF 31 rfl rfl rfl rfl rfl hz rfl (ex_field rfl (ev hF 34 rfl rfl) (by go_simp)) hG
                          · exact ry rfl hF 31 rfl rfl rfl rfl rfl hz rfl (ex_load rfl (ev hF 35 rfl rfl) (ld_strT (cell_keep C2.out hG.below))) hG
                          · refine rol_call rfl (want_yes rfl rfl (hF 31 (by decide))) rfl (by rw [hz]; decide) (ex_call rfl (by simp [eval_slot (hF 36 (by decide))]) e2) (K2.out wx) ?_ hG.below (Nat.le_trans HNW.out hG.new)
                            rintro e w1 ⟨rfl, hb1⟩
                            exact ⟨_, rfl, hb1, .inl rfl⟩
                          · exact ry rfl hF 31 rfl rfl rfl rfl rfl hz rfl (ex_un rfl (ev hF 37 rfl rfl) rfl) hG
                          · exact ry rfl hF 24 rfl rfl rfl rfl rfl hz rfl (ex_pick_yes rfl (ev hF 31 rfl rfl) (ev hF 38 rfl rfl)) hG
                          · exact rv rfl rfl rfl hz rfl (ex_pick_no rfl (ev hF 24 rfl rfl) (ev hF 39 rfl rfl)) hG
                          · exact rv rfl rfl rfl hz rfl (ex_move (Or.inl rfl) (ev hF 40 rfl rfl)) hG
                          · exact ry rfl hF 41 rfl rfl rfl rfl rfl hz rfl (ex_move (Or.inl rfl) (eval_slot ((hG.slots 0 (by decide)).trans rfl))) hG
                          · exact ry rfl hF 41 rfl rfl rfl rfl rfl hz rfl (ex_move (Or.inl rfl) (eval_slot ((hG.slots 3 (by decide)).trans rfl))) hG
                          · exact ry rfl hF 41 rfl rfl rfl rfl rfl hz rfl (ex_index rfl (ev hF 42 rfl rfl) (ev hF 43 rfl rfl) (idx_ch HKN.out)) hG
                          · exact ry rfl hF 41 rfl rfl rfl rfl rfl hz rfl (ex_field rfl (ev hF 44 rfl rfl) (by go_simp)) hG
                          · exact ry rfl hF 41 rfl rfl rfl rfl rfl hz rfl (ex_load rfl (ev hF 45 rfl rfl) (ld_strT (cell_keep C1.out hG.below))) hG
                          · exact ry rfl hF 41 rfl rfl rfl rfl rfl hz rfl (ex_move (Or.inl rfl) (eval_slot ((hG.slots 0 (by decide)).trans rfl))) hG
                          · exact ry rfl hF 41 rfl rfl rfl rfl rfl hz rfl (ex_move (Or.inl rfl) (eval_slot ((hG.slots 3 (by decide)).trans rfl))) hG
                          · exact ry rfl hF 41 rfl rfl rfl rfl rfl hz rfl (ex_index rfl (ev hF 47 rfl rfl) (ev hF 48 rfl rfl) (idx_ch HKN.out)) hG
                          · exact ry rfl hF 41 rfl rfl rfl rfl rfl hz rfl (ex_field rfl (ev hF 49 rfl rfl) (by go_simp)) hG
                          · exact ry rfl hF 41 rfl rfl rfl rfl rfl hz rfl (ex_load rfl (ev hF 50 rfl rfl) (ld_strT (cell_keep C2.out hG.below))) hG
                          · exact ry rfl hF 41 rfl rfl rfl rfl rfl hz rfl (ex_bin rfl (ev hF 46 rfl rfl) (ev hF 51 rfl rfl) (by go_simp) (bin_eqL HEQ.out)) hG
                          · exact rv rfl rfl rfl hz rfl (ex_pick_no rfl (ev hF 41 rfl rfl) (ev hF 52 rfl rfl)) hG
                          · exact rv rfl rfl rfl hz rfl (ex_move (Or.inl rfl) (ev hF 53 rfl rfl)) hG
                          · exact ry rfl hF 54 rfl rfl rfl rfl rfl hz rfl (ex_move (Or.inl rfl) (eval_slot ((hG.slots 3 (by decide)).trans rfl))) hG
                          · exact ry rfl hF 54 rfl rfl rfl rfl rfl hz rfl (ex_bin rfl (ev hF 55 rfl rfl) rfl (by go_simp) (bin_gt0L HZ.out)) hG
                          · exact ry rfl hF 54 rfl rfl rfl rfl rfl hz rfl (ex_move (Or.inl rfl) (ev hF 56 rfl rfl)) hG
                          · exact ry rfl hF 57 rfl rfl rfl rfl rfl hz rfl (ex_move (Or.inl rfl) (eval_slot ((hG.slots 0 (by decide)).trans rfl))) hG
                          · exact ry rfl hF 57 rfl rfl rfl rfl rfl hz rfl (ex_move (Or.inl rfl) (eval_slot ((hG.slots 3 (by decide)).trans rfl))) hG
                          · exact ry rfl hF 57 rfl rfl rfl rfl rfl hz rfl (ex_bin rfl (ev hF 59 rfl rfl) rfl (by go_simp) (bin_sub1 HM2.out HKB.out)) hG
                          · exact ry rfl hF 57 rfl rfl rfl rfl rfl hz rfl (ex_index rfl (ev hF 58 rfl rfl) (ev hF 60 rfl rfl) (idx_ch HMN.out)) hG
                          · exact ry rfl hF 57 rfl rfl rfl rfl rfl hz rfl (ex_field rfl (ev hF 61 rfl rfl) (by go_simp)) hG
                          · exact ry rfl hF 57 rfl rfl rfl rfl rfl hz rfl (ex_load rfl (ev hF 62 rfl rfl) (ld_strT (cell_keep Q0.out hG.below))) hG
                          · exact ry rfl hF 57 rfl rfl rfl rfl rfl hz rfl (ex_move (Or.inl rfl) (eval_slot ((hG.slots 0 (by decide)).trans rfl))) hG
                          · exact ry rfl hF 57 rfl rfl rfl rfl rfl hz rfl (ex_move (Or.inl rfl) (eval_slot ((hG.slots 3 (by decide)).trans rfl))) hG
                          · exact ry rfl hF 57 rfl rfl rfl rfl rfl hz rfl (ex_index rfl (ev hF 64 rfl rfl) (ev hF 65 rfl rfl) (idx_ch HKN.out)) hG
                          · exact ry rfl hF 57 rfl rfl rfl rfl rfl hz rfl (ex_field rfl (ev hF 66 rfl rfl) (by go_simp)) hG
                          · exact ry rfl hF 57 rfl rfl rfl rfl rfl hz rfl (ex_load rfl (ev hF 67 rfl rfl) (ld_strT (cell_keep C0.out hG.below))) hG
                          · refine rol_call rfl (want_yes rfl rfl (hF 57 (by decide))) rfl (by rw [hz]; decide) (ex_call rfl (by simp [eval_slot (hF 63 (by decide)), eval_slot (hF 68 (by decide))]) e3) (KC.out wx) ?_ hG.below (Nat.le_trans HNW.out hG.new)
                            rintro e w1 ⟨rfl, hb1⟩
                            exact ⟨_, rfl, hb1, .inl rfl⟩
                          · exact ry rfl hF 57 rfl rfl rfl rfl rfl hz rfl (ex_bin rfl (ev hF 69 rfl rfl) rfl (by go_simp) (bin_geq0 HGE.out)) hG
                          · exact ry rfl hF 54 rfl rfl rfl rfl rfl hz rfl (ex_pick_yes rfl (ev hF 57 rfl rfl) (ev hF 70 rfl rfl)) hG
                          · exact rv rfl rfl rfl hz rfl (ex_pick_no rfl (ev hF 54 rfl rfl) (ev hF 71 rfl rfl)) hG
                        · intro a wx who hG hF
                          have fv82 : a.tmps.getD 82 undef = .bool false := eval_slot (s := 82) (hF 72 (of_decide_eq_true (by kernel_rfl)) (of_decide_eq_true (by kernel_rfl)))
                          have hbx := hG.below
                          have hnx := hG.new
                          rw [hG.frame]
                          simp only [List.foldl_cons, List.foldl_nil, List.setIfInBounds_toArray, List.set_cons_zero, List.set_cons_succ]
                          rw [fv82]
                          generalize Array.getD a.tmps = uu
                          clear hF hG fv82
                          go_wp2_with fail
                          go_meet
                          exact ⟨by rw [HSX.out]; rfl, Lib.hid (below_step HB.out hbx)⟩
                | false =>
                  refine rol_run (by kernel_rfl) [[], [], [0, 1], [2], [3], [4], [5], [6], [7], [7], [7, 8, 9], [7, 10], [7, 11], [7, 12], [7, 13], [14], [14], [14, 15, 16], [14, 17], [14, 18], [14, 19], [14, 20], [7, 14, 21], [7, 22], [23], [24], [24], [24, 25, 26], [24, 27], [24, 28], [24, 29], [24, 30], [31], [31], [31, 32, 33], [31, 34], [31, 35], [31, 36], [31, 37], [24, 31, 38], [24, 39], [40], [41], [41], [41], [41], [41], [41], [41], [41], [41], [41], [41], [41], [53], [54], [54], [54], [57], [57], [57], [57], [57], [57], [57], [57], [57], [57], [57], [57], [57], [54], [54]] (by kernel_rfl) [10, 11, 12, 13, 14, 15, 16, 17, 18, 19, 20, 21, 22, 23, 24, 25, 26, 27, 28, 29, 30, 31, 32, 33, 34, 35, 36, 37, 38, 39, 40, 41, 42, 43, 44, 45, 46, 47, 48, 49, 50, 51, 52, 53, 54, 55, 56, 57, 58, 59, 60, 61, 62, 63, 64, 65, 66, 67, 68, 69, 70, 71, 72, 73, 74, 75, 76, 77, 78, 79, 80, 81, 82] [[], [], [0, 1], [2], [3], [4], [5], [6], [7], [7], [7, 8, 9], [7, 10], [7, 11], [7, 12], [7, 13], [14], [14], [14, 15, 16], [14, 17], [14, 18], [14, 19], [14, 20], [7, 14, 21], [7, 22], [23], [24], [24], [24, 25, 26], [24, 27], [24, 28], [24, 29], [24, 30], [31], [31], [31, 32, 33], [31, 34], [31, 35], [31, 36], [31, 37], [24, 31, 38], [24, 39], [40], [41], [41], [41], [41], [41], [41], [41], [41], [41], [41], [41], [41], [53], [54], [54], [54], [57], [57], [57], [57], [57], [57], [57], [57], [57], [57], [57], [57], [57], [54], [54]] (List.replicate 73 0) (List.replicate 73 0) (List.replicate 73 1000) [.val 10 (.slice (some ⟨b, off, none⟩) n c), .val 11 (.int .i64 (k : Int)), .val 12 (.pointer (some ⟨b, off + k * 3, none⟩)), .val 13 (.pointer (some ⟨b, off + k * 3, none⟩)), .val 14 (.string (mkB y0)), .val 15 (.bool true), .val 16 (.bool false), .val 17 (.bool false), .val 18 (.slice (some ⟨b, off, none⟩) n c), .val 19 (.int .i64 (k : Int)), .val 20 (.pointer (some ⟨b, off + k * 3, none⟩)), .val 21 (.pointer (some ⟨b, off + k * 3 + 1, none⟩)), .val 22 (.string (mkB y1)), .val 23 (.bool true), .val 24 (.bool true), .val 25 (.slice (some ⟨b, off, none⟩) n c), .val 26 (.int .i64 (k : Int)), .val 27 (.pointer (some ⟨b, off + k * 3, none⟩)), .val 28 (.pointer (some ⟨b, off + k * 3 + 1, none⟩)), .val 29 (.string (mkB y1)), .val 30 (.bool true), .val 31 (.bool false), .val 32 (.bool false), .val 33 (.bool false), .val 34 (.bool false), .val 35 (.slice (some ⟨b, off, none⟩) n c), .val 36 (.int .i64 (k : Int)), .val 37 (.pointer (some ⟨b, off + k * 3, none⟩)), .val 38 (.pointer (some ⟨b, off + k * 3 + 2, none⟩)), .val 39 (.string (mkB y2)), .val 40 (.bool true), .val 41 (.bool true), .val 42 (.slice (some ⟨b, off, none⟩) n c), .val 43 (.int .i64 (k : Int)), .val 44 (.pointer (some ⟨b, off + k * 3, none⟩)), .val 45 (.pointer (some ⟨b, off + k * 3 + 2, none⟩)), .val 46 (.string (mkB y2)), .val 47 (.bool false), .val 48 (.bool true), .val 49 (.bool true), .val 50 (.bool true), .val 51 (.bool true), .val 52 undef, .val 53 undef, .val 54 undef, .val 55 undef, .val 56 undef, .val 57 undef, .val 58 undef, .val 59 undef, .val 60 undef, .val 61 undef, .val 62 undef, .val 63 (.bool true), .val 64 (.bool true), .val 65 undef, .val 66 undef, .val 67 undef, .val 68 undef, .val 69 undef, .val 70 undef, .val 71 undef, .val 72 undef, .val 73 undef, .val 74 undef, .val 75 undef, .val 76 undef, .val 77 undef, .val 78 undef, .val 79 undef, .val 80 undef, .val 81 undef, .val 82 (.bool true)] (by kernel_rfl) ?_ (wr.heap.size) (wr.heap.size) rfl (Below.refl _ _) rfl (fun _ => 0) ?_ ?_ ?_
                  · intro j hj
                    have hj3 : j < 73 := hj
                    clear hj
                    revert j
                    iterate 73 refine lt_step ?_ ?_
                    · exact lt_none
                    all_goals exact trivial
                  · intro j hj0 hj
                    exact absurd hj (Nat.not_lt.2 hj0)
                  · intro i hi
                    have hi3 : i < 73 := hi
                    clear hi
                    revert i
                    iterate 73 refine lt_step ?_ ?_
                    · exact lt_none
                    all_goals intro a wx who hG hF
                    all_goals have hz : a.tmps.size = 83 := hG.size
                    · exact rv rfl rfl rfl hz rfl (ex_move (Or.inl rfl) (eval_slot ((hG.slots 0 (by decide)).trans rfl))) hG
                    · exact rv rfl rfl rfl hz rfl (ex_move (Or.inl rfl) (eval_slot ((hG.slots 3 (by decide)).trans rfl))) hG
                    · exact rv rfl rfl rfl hz rfl (ex_index rfl (ev hF 0 rfl rfl) (ev hF 1 rfl rfl) (idx_ch HKN.out)) hG
                    · exact rv rfl rfl rfl hz rfl (ex_field rfl (ev hF 2 rfl rfl) (by go_simp)) hG
                    · exact rv rfl rfl rfl hz rfl (ex_load rfl (ev hF 3 rfl rfl) (ld_strT (cell_keep C0.out hG.below))) hG
                    · refine rol_call rfl rfl rfl (by rw [hz]; decide) (ex_call rfl (by simp [eval_slot (hF 4 (by decide))]) e1) (KP.out wx) ?_ hG.below (Nat.le_trans HNW.out hG.new)
                      rintro e w1 ⟨rfl, hb1⟩
                      exact ⟨_, rfl, hb1, .inl rfl⟩
                    · exact rv rfl rfl rfl hz rfl (ex_un rfl (ev hF 5 rfl rfl) rfl) hG
                    · exact rv rfl rfl rfl hz rfl (ex_move (Or.inl rfl) (ev hF 6 rfl rfl)) hG
                    · exact ry rfl hF 7 rfl rfl rfl rfl rfl hz rfl (ex_move (Or.inl rfl) (eval_slot ((hG.slots 0 (by decide)).trans rfl))) hG
                    · exact ry rfl hF 7 rfl rfl rfl rfl rfl hz rfl (ex_move (Or.inl rfl) (eval_slot ((hG.slots 3 (by decide)).trans rfl))) hG
                    · exact ry rfl hF 7 rfl rfl rfl rfl rfl hz rfl (ex_index rfl (ev hF 8 rfl rfl) (ev hF 9 rfl rfl) (idx_ch HKN.out)) hG
                    · exact ry rfl hF 7 rfl rfl rfl rfl rfl hz rfl (ex_field rfl (ev hF 10 rfl rfl) (by go_simp)) hG
                    · exact ry rfl hF 7 rfl rfl rfl rfl rfl hz rfl (ex_load rfl (ev hF 11 rfl rfl) (ld_strT (cell_keep C1.out hG.below))) hG
                    · exact ry rfl hF 7 rfl rfl rfl rfl rfl hz rfl (ex_bin rfl (ev hF 12 rfl rfl) rfl (by go_simp) (bin_neNil HE1.out rfl)) hG
                    · exact ry rfl hF 7 rfl rfl rfl rfl rfl hz rfl (ex_move (Or.inl rfl) (ev hF 13 rfl rfl)) hG
                    · exact ry rfl hF 14 rfl rfl rfl rfl rfl hz rfl (ex_move (Or.inl rfl) (eval_slot ((hG.slots 0 (by decide)).trans rfl))) hG
                    · exact ry rfl hF 14 rfl rfl rfl rfl rfl hz rfl (ex_move (Or.inl rfl) (eval_slot ((hG.slots 3 (by decide)).trans rfl))) hG
                    · exact ry rfl hF 14 rfl rfl rfl rfl rfl hz rfl (ex_index rfl (ev hF 15 rfl rfl) (ev hF 16 rfl rfl) (idx_ch HKN.out)) hG
                    · exact ry rfl hF 14 rfl rfl rfl rfl rfl hz rfl (ex_field rfl (ev hF 17 rfl rfl) (by go_simp)) hG
                    · exact ry rfl hF 14 rfl rfl rfl rfl rfl hz rfl (ex_load rfl (ev hF 18 rfl rfl) (ld_strT (cell_keep C1.out hG.below))) hG
                    · refine rol_call rfl (want_yes rfl rfl (hF 14 (by decide))) rfl (by rw [hz]; decide) (ex_call rfl (by simp [eval_slot (hF 19 (by decide))]) e2) (K1.out wx) ?_ hG.below (Nat.le_trans HNW.out hG.new)
                      rintro e w1 ⟨rfl, hb1⟩
                      exact ⟨_, rfl, hb1, .inl rfl⟩
                    · exact ry rfl hF 14 rfl rfl rfl rfl rfl hz rfl (ex_un rfl (ev hF 20 rfl rfl) rfl) hG
                    · exact ry rfl hF 7 rfl rfl rfl rfl rfl hz rfl (ex_pick_yes rfl (ev hF 14 rfl rfl) (ev hF 21 rfl rfl)) hG
                    · exact rv rfl rfl rfl hz rfl (ex_pick_no rfl (ev hF 7 rfl rfl) (ev hF 22 rfl rfl)) hG
                    · exact rv rfl rfl rfl hz rfl (ex_move (Or.inl rfl) (ev hF 23 rfl rfl)) hG
                    · exact ry rfl hF 24 rfl rfl rfl rfl rfl hz rfl (ex_move (Or.inl rfl) (eval_slot ((hG.slots 0 (by decide)).trans rfl))) hG
                    · exact ry rfl hF 24 rfl rfl rfl rfl rfl hz rfl (ex_move (Or.inl rfl) (eval_slot ((hG.slots 3 (by decide)).trans rfl))) hG
                    · exact ry rfl hF 24 rfl rfl rfl rfl rfl hz rfl (ex_index rfl (ev hF 25 rfl rfl) (ev hF 26 rfl rfl) (idx_ch HKN.out)) hG
                    · exact ry rfl hF 24 rfl rfl rfl rfl rfl hz rfl (ex_field rfl (ev hF 27 rfl rfl) (by go_simp)) hG
                    · exact ry rfl hF 24 rfl rfl rfl rfl rfl hz rfl (ex_load rfl (ev hF 28 rfl rfl) (ld_strT (cell_keep C2.out hG.below))) hG
                    · exact ry rfl hF 24 rfl rfl rfl rfl rfl hz rfl (ex_bin rfl (ev hF 29 rfl rfl) rfl (by go_simp) (bin_neNil HE2.out rfl)) hG
                    · exact ry rfl hF 24 rfl rfl rfl rfl rfl hz rfl (ex_move (Or.inl rfl) (ev hF 30 rfl rfl)) hG
                    · exact ry rfl hF 31 rfl rfl rfl rfl rfl hz rfl (ex_move (Or.inl rfl) (eval_slot ((hG.slots 0 (by decide)).trans rfl))) hG
                    · exact ry rfl hF 31 rfl rfl rfl rfl rfl hz rfl (ex_move (Or.inl rfl) (eval_slot ((hG.slots 3 (by decide)).trans rfl))) hG
                    · exact ry rfl hF 31 rfl rfl rfl rfl rfl hz rfl (ex_index rfl (ev hF 32 rfl rfl) (ev hF 33 rfl rfl) (idx_ch HKN.out)) hG
                    · exact ry rfl hF 31 rfl rfl rfl rfl rfl hz rfl (ex_field rfl (ev hF 34 rfl rfl) (by go_simp)) hG
                    · exact ry rfl hF 31 rfl rfl rfl rfl rfl hz rfl (ex_load rfl (ev hF 35 rfl rfl) (ld_strT (cell_keep C2.out hG.below))) hG
                    · refine rol_call rfl (want_yes rfl rfl (hF 31 (by decide))) rfl (by rw [hz]; decide) (ex_call rfl (by simp [eval_slot (hF 36 (by decide))]) e2) (K2.out wx) ?_ hG.below (Nat.le_trans HNW.out hG.new)
                      rintro e w1 ⟨rfl, hb1⟩
                      exact ⟨_, rfl, hb1, .inl rfl⟩
                    · exact ry rfl hF 31 rfl rfl rfl rfl rfl hz rfl (ex_un rfl (ev hF 37 rfl rfl) rfl) hG
                    · exact ry rfl hF 24 rfl rfl rfl rfl rfl hz rfl (ex_pick_yes rfl (ev hF 31 rfl rfl) (ev hF 38 rfl rfl)) hG
                    · exact rv rfl rfl rfl hz rfl (ex_pick_no rfl (ev hF 24 rfl rfl) (ev hF 39 rfl rfl)) hG
                    · exact rv rfl rfl rfl hz rfl (ex_move (Or.inl rfl) (ev hF 40 rfl rfl)) hG
                    iterate 11 exact rn rfl hF 41 rfl rfl rfl rfl rfl rfl hz rfl hG
                    · exact rv rfl rfl rfl hz rfl (ex_pick_yes rfl (ev hF 41 rfl rfl) rfl) hG
                    · exact rv rfl rfl rfl hz rfl (ex_move (Or.inl rfl) (ev hF 53 rfl rfl)) hG
                    iterate 3 exact rn rfl hF 54 rfl rfl rfl rfl rfl rfl hz rfl hG
                    iterate 13 exact ru rfl hF 57 rfl rfl rfl rfl rfl hz rfl hG
                    · exact rn rfl hF 54 rfl rfl rfl rfl rfl rfl hz rfl hG
                    · exact rv rfl rfl rfl hz rfl (ex_pick_yes rfl (ev hF 54 rfl rfl) rfl) hG
                  · intro a wx who hG hF
                    have fv82 : a.tmps.getD 82 undef = .bool true := eval_slot (s := 82) (hF 72 (of_decide_eq_true (by kernel_rfl)) (of_decide_eq_true (by kernel_rfl)))
                    have hbx := hG.below
                    have hnx := hG.new
                    rw [hG.frame]
                    simp only [List.foldl_cons, List.foldl_nil, List.setIfInBounds_toArray, List.set_cons_zero, List.set_cons_succ]
                    rw [fv82]
                    generalize Array.getD a.tmps = uu
                    clear hF hG fv82
                    go_wp2_with fail
                    go_meet
                    exact ⟨by rw [HSX.out]; rfl, Lib.hid (below_step HB.out hbx)⟩
            | false =>
              refine rol_run (by kernel_rfl) [[], [], [0, 1], [2], [3], [4], [5], [6], [7], [7], [7, 8, 9], [7, 10], [7, 11], [7, 12], [7, 13], [14], [14], [14, 15, 16], [14, 17], [14, 18], [14, 19], [14, 20], [7, 14, 21], [7, 22], [23], [24], [24], [24], [24], [24], [24], [24], [31], [31], [31], [31], [31], [31], [31], [24], [24], [40], [41], [41], [41], [41], [41], [41], [41], [41], [41], [41], [41], [41], [53], [54], [54], [54], [57], [57], [57], [57], [57], [57], [57], [57], [57], [57], [57], [57], [57], [54], [54]] (by kernel_rfl) [10, 11, 12, 13, 14, 15, 16, 17, 18, 19, 20, 21, 22, 23, 24, 25, 26, 27, 28, 29, 30, 31, 32, 33, 34, 35, 36, 37, 38, 39, 40, 41, 42, 43, 44, 45, 46, 47, 48, 49, 50, 51, 52, 53, 54, 55, 56, 57, 58, 59, 60, 61, 62, 63, 64, 65, 66, 67, 68, 69, 70, 71, 72, 73, 74, 75, 76, 77, 78, 79, 80, 81, 82] [[], [], [0, 1], [2], [3], [4], [5], [6], [7], [7], [7, 8, 9], [7, 10], [7, 11], [7, 12], [7, 13], [14], [14], [14, 15, 16], [14, 17], [14, 18], [14, 19], [14, 20], [7, 14, 21], [7, 22], [23], [24], [24], [24], [24], [24], [24], [24], [31], [31], [31], [31], [31], [31], [31], [24], [24], [40], [41], [41], [41], [41], [41], [41], [41], [41], [41], [41], [41], [41], [53], [54], [54], [54], [57], [57], [57], [57], [57], [57], [57], [57], [57], [57], [57], [57], [57], [54], [54]] (List.replicate 73 0) (List.replicate 73 0) (List.replicate 73 1000) [.val 10 (.slice (some ⟨b, off, none⟩) n c), .val 11 (.int .i64 (k : Int)), .val 12 (.pointer (some ⟨b, off + k * 3, none⟩)), .val 13 (.pointer (some ⟨b, off + k * 3, none⟩)), .val 14 (.string (mkB y0)), .val 15 (.bool true), .val 16 (.bool false), .val 17 (.bool false), .val 18 (.slice (some ⟨b, off, none⟩) n c), .val 19 (.int .i64 (k : Int)), .val 20 (.pointer (some ⟨b, off + k * 3, none⟩)), .val 21 (.pointer (some ⟨b, off + k * 3 + 1, none⟩)), .val 22 (.string (mkB y1)), .val 23 (.bool true), .val 24 (.bool true), .val 25 (.slice (some ⟨b, off, none⟩) n c), .val 26 (.int .i64 (k : Int)), .val 27 (.pointer (some ⟨b, off + k * 3, none⟩)), .val 28 (.pointer (some ⟨b, off + k * 3 + 1, none⟩)), .val 29 (.string (mkB y1)), .val 30 (.bool false), .val 31 (.bool true), .val 32 (.bool true), .val 33 (.bool true), .val 34 (.bool true), .val 35 undef, .val 36 undef, .val 37 undef, .val 38 undef, .val 39 undef, .val 40 undef, .val 41 undef, .val 42 undef, .val 43 undef, .val 44 undef, .val 45 undef, .val 46 undef, .val 47 undef, .val 48 undef, .val 49 undef, .val 50 (.bool true), .val 51 (.bool true), .val 52 undef, .val 53 undef, .val 54 undef, .val 55 undef, .val 56 undef, .val 57 undef, .val 58 undef, .val 59 undef, .val 60 undef, .val 61 undef, .val 62 undef, .val 63 (.bool true), .val 64 (.bool true), .val 65 undef, .val 66 undef, .val 67 undef, .val 68 undef, .val 69 undef, .val 70 undef, .val 71 undef, .val 72 undef, .val 73 undef, .val 74 undef, .val 75 undef, .val 76 undef, .val 77 undef, .val 78 undef, .val 79 undef, .val 80 undef, .val 81 undef, .val 82 (.bool true)] (by kernel_rfl) ?_ (wr.heap.size) (wr.heap.size) rfl (Below.refl _ _) rfl (fun _ => 0) ?_ ?_ ?_
              · intro j hj
                have hj3 : j < 73 := hj
                clear hj
                revert j
                iterate 73 refine lt_step ?_ ?_
                · exact lt_none
                all_goals exact trivial
              · intro j hj0 hj
                exact absurd hj (Nat.not_lt.2 hj0)
              · intro i hi
                have hi3 : i < 73 := hi
                clear hi
                revert i
                iterate 73 refine lt_step ?_ ?_
                · exact lt_none
                all_goals intro a wx who hG hF
                all_goals have hz : a.tmps.size = 83 := hG.size
                · exact rv rfl rfl rfl hz rfl (ex_move (Or.inl rfl) (eval_slot ((hG.slots 0 (by decide)).trans rfl))) hG
                · exact rv rfl rfl rfl hz rfl (ex_move (Or.inl rfl) (eval_slot ((hG.slots 3 (by decide)).trans rfl))) hG
                · exact rv rfl rfl rfl hz rfl (ex_index rfl (ev hF 0 rfl rfl) (ev hF 1 rfl rfl) (idx_ch HKN.out)) hG
                · exact rv rfl rfl rfl hz rfl (ex_field rfl (ev hF 2 rfl rfl) (by go_simp)) hG
                · exact rv rfl rfl rfl hz rfl (ex_load rfl (ev hF 3 rfl rfl) (ld_strT (cell_keep C0.out hG.below))) hG
                · refine rol_call rfl rfl rfl (by rw [hz]; decide) (ex_call rfl (by simp [eval_slot (hF 4 (by decide))]) e1) (KP.out wx) ?_ hG.below (Nat.le_trans HNW.out hG.new)
                  rintro e w1 ⟨rfl, hb1⟩
                  exact ⟨_, rfl, hb1, .inl rfl⟩
                · exact rv rfl rfl rfl hz rfl (ex_un rfl (ev hF 5 rfl rfl) rfl) hG
                · exact rv rfl rfl rfl hz rfl (ex_move (Or.inl rfl) (ev hF 6 rfl rfl)) hG
                · exact ry rfl hF 7 rfl rfl rfl rfl rfl hz rfl (ex_move (Or.inl rfl) (eval_slot ((hG.slots 0 (by decide)).trans rfl))) hG
                · exact ry rfl hF 7 rfl rfl rfl rfl rfl hz rfl (ex_move (Or.inl rfl) (eval_slot ((hG.slots 3 (by decide)).trans rfl))) hG
                · exact ry rfl hF 7 rfl rfl rfl rfl rfl hz rfl (ex_index rfl (ev hF 8 rfl rfl) (ev hF 9 rfl rfl) (idx_ch HKN.out)) hG
                · exact ry rfl hF 7 rfl rfl rfl rfl rfl hz rfl (ex_field rfl (ev hF 10 rfl rfl) (by go_simp)) hG
                · exact ry rfl hF 7 rfl rfl rfl rfl rfl hz rfl (ex_load rfl (ev hF 11 rfl rfl) (ld_strT (cell_keep C1.out hG.below))) hG
                · exact ry rfl hF 7 rfl rfl rfl rfl rfl hz rfl (ex_bin rfl (ev hF 12 rfl rfl) rfl (by go_simp) (bin_neNil HE1.out rfl)) hG
                · exact ry rfl hF 7 rfl rfl rfl rfl rfl hz rfl (ex_move (Or.inl rfl) (ev hF 13 rfl rfl)) hG
                · exact ry rfl hF 14 rfl rfl rfl rfl rfl hz rfl (ex_move (Or.inl rfl) (eval_slot ((hG.slots 0 (by decide)).trans rfl))) hG
                · exact ry rfl hF 14 rfl rfl rfl rfl rfl hz rfl (ex_move (Or.inl rfl) (eval_slot ((hG.slots 3 (by decide)).trans rfl))) hG
                · exact ry rfl hF 14 rfl rfl rfl rfl rfl hz rfl (ex_index rfl (ev hF 15 rfl rfl) (ev hF 16 rfl rfl) (idx_ch HKN.out)) hG
                · exact ry rfl hF 14 rfl rfl rfl rfl rfl hz rfl (ex_field rfl (ev hF 17 rfl rfl) (by go_simp)) hG
                · exact ry rfl hF 14 rfl rfl rfl rfl rfl hz rfl (ex_load rfl (ev hF 18 rfl rfl) (ld_strT (cell_keep C1.out hG.below))) hG
                · refine rol_call rfl (want_yes rfl rfl (hF 14 (by decide))) rfl (by rw [hz]; decide) (ex_call rfl (by simp [eval_slot (hF 19 (by decide))]) e2) (K1.out wx) ?_ hG.below (Nat.le_trans HNW.out hG.new)
                  rintro e w1 ⟨rfl, hb1⟩
                  exact ⟨_, rfl, hb1, .inl rfl⟩
                · exact ry rfl hF 14 rfl rfl rfl rfl rfl hz rfl (ex_un rfl (ev hF 20 rfl rfl) rfl) hG
                · exact ry rfl hF 7 rfl rfl rfl rfl rfl hz rfl (ex_pick_yes rfl (ev hF 14 rfl rfl) (ev hF 21 rfl rfl)) hG
                · exact rv rfl rfl rfl hz rfl (ex_pick_no rfl (ev hF 7 rfl rfl) (ev hF 22 rfl rfl)) hG
                · exact rv rfl rfl rfl hz rfl (ex_move (Or.inl rfl) (ev hF 23 rfl rfl)) hG
                iterate 7 exact rn rfl hF 24 rfl rfl rfl rfl rfl rfl hz rfl hG
                iterate 7 exact ru rfl hF 31 rfl rfl rfl rfl rfl hz rfl hG
                · exact rn rfl hF 24 rfl rfl rfl rfl rfl rfl hz rfl hG
                · exact rv rfl rfl rfl hz rfl (ex_pick_yes rfl (ev hF 24 rfl rfl) rfl) hG
                · exact rv rfl rfl rfl hz rfl (ex_move (Or.inl rfl) (ev hF 40 rfl rfl)) hG
                iterate 11 exact rn rfl hF 41 rfl rfl rfl rfl rfl rfl hz rfl hG
                · exact rv rfl rfl rfl hz rfl (ex_pick_yes rfl (ev hF 41 rfl rfl) rfl) hG
                · exact rv rfl rfl rfl hz rfl (ex_move (Or.inl rfl) (ev hF 53 rfl rfl)) hG
                iterate 3 exact rn rfl hF 54 rfl rfl rfl rfl rfl rfl hz rfl hG
                iterate 13 exact ru rfl hF 57 rfl rfl rfl rfl rfl hz rfl hG
                · exact rn rfl hF 54 rfl rfl rfl rfl rfl rfl hz rfl hG
                · exact rv rfl rfl rfl hz rfl (ex_pick_yes rfl (ev hF 54 rfl rfl) rfl) hG
              · intro a wx who hG hF
                have fv82 : a.tmps.getD 82 undef = .bool true := eval_slot (s := 82) (hF 72 (of_decide_eq_true (by kernel_rfl)) (of_decide_eq_true (by kernel_rfl)))
                have hbx := hG.below
                have hnx := hG.new
                rw [hG.frame]
                simp only [List.foldl_cons, List.foldl_nil, List.setIfInBounds_toArray, List.set_cons_zero, List.set_cons_succ]
                rw [fv82]
                generalize Array.getD a.tmps = uu
                clear hF hG fv82
                go_wp2_with fail
                go_meet
                exact ⟨by rw [HSX.out]; rfl, Lib.hid (below_step HB.out hbx)⟩
        | false =>
          refine rol_run (by kernel_rfl) [[], [], [0, 1], [2], [3], [4], [5], [6], [7], [7], [7], [7], [7], [7], [7], [14], [14], [14], [14], [14], [14], [14], [7], [7], [23], [24], [24], [24], [24], [24], [24], [24], [31], [31], [31], [31], [31], [31], [31], [24], [24], [40], [41], [41], [41], [41], [41], [41], [41], [41], [41], [41], [41], [41], [53], [54], [54], [54], [57], [57], [57], [57], [57], [57], [57], [57], [57], [57], [57], [57], [57], [54], [54]] (by kernel_rfl) [10, 11, 12, 13, 14, 15, 16, 17, 18, 19, 20, 21, 22, 23, 24, 25, 26, 27, 28, 29, 30, 31, 32, 33, 34, 35, 36, 37, 38, 39, 40, 41, 42, 43, 44, 45, 46, 47, 48, 49, 50, 51, 52, 53, 54, 55, 56, 57, 58, 59, 60, 61, 62, 63, 64, 65, 66, 67, 68, 69, 70, 71, 72, 73, 74, 75, 76, 77, 78, 79, 80, 81, 82] [[], [], [0, 1], [2], [3], [4], [5], [6], [7], [7], [7], [7], [7], [7], [7], [14], [14], [14], [14], [14], [14], [14], [7], [7], [23], [24], [24], [24], [24], [24], [24], [24], [31], [31], [31], [31], [31], [31], [31], [24], [24], [40], [41], [41], [41], [41], [41], [41], [41], [41], [41], [41], [41], [41], [53], [54], [54], [54], [57], [57], [57], [57], [57], [57], [57], [57], [57], [57], [57], [57], [57], [54], [54]] (List.replicate 73 0) (List.replicate 73 0) (List.replicate 73 1000) [.val 10 (.slice (some ⟨b, off, none⟩) n c), .val 11 (.int .i64 (k : Int)), .val 12 (.pointer (some ⟨b, off + k * 3, none⟩)), .val 13 (.pointer (some ⟨b, off + k * 3, none⟩)), .val 14 (.string (mkB y0)), .val 15 (.bool false), .val 16 (.bool true), .val 17 (.bool true), .val 18 undef, .val 19 undef, .val 20 undef, .val 21 undef, .val 22 undef, .val 23 undef, .val 24 undef, .val 25 undef, .val 26 undef, .val 27 undef, .val 28 undef, .val 29 undef, .val 30 undef, .val 31 undef, .val 32 undef, .val 33 (.bool true), .val 34 (.bool true), .val 35 undef, .val 36 undef, .val 37 undef, .val 38 undef, .val 39 undef, .val 40 undef, .val 41 undef, .val 42 undef, .val 43 undef, .val 44 undef, .val 45 undef, .val 46 undef, .val 47 undef, .val 48 undef, .val 49 undef, .val 50 (.bool true), .val 51 (.bool true), .val 52 undef, .val 53 undef, .val 54 undef, .val 55 undef, .val 56 undef, .val 57 undef, .val 58 undef, .val 59 undef, .val 60 undef, .val 61 undef, .val 62 undef, .val 63 (.bool true), .val 64 (.bool true), .val 65 undef, .val 66 undef, .val 67 undef, .val 68 undef, .val 69 undef, .val 70 undef, .val 71 undef, .val 72 undef, .val 73 undef, .val 74 undef, .val 75 undef, .val 76 undef, .val 77 undef, .val 78 undef, .val 79 undef, .val 80 undef, .val 81 undef, .val 82 (.bool true)] (by kernel_rfl) ?_ (wr.heap.size) (wr.heap.size) rfl (Below.refl _ _) rfl (fun _ => 0) ?_ ?_ ?_
          · intro j hj
            have hj3 : j < 73 := hj
            clear hj
            revert j
            iterate 73 refine lt_step ?_ ?_
            · exact lt_none
            all_goals exact trivial
          · intro j hj0 hj
            exact absurd hj (Nat.not_lt.2 hj0)
          · intro i hi
            have hi3 : i < 73 := hi
            clear hi
            revert i
            iterate 73 refine lt_step ?_ ?_
            · exact lt_none
            all_goals intro a wx who hG hF
            all_goals have hz : a.tmps.size = 83 := hG.size
            · exact rv rfl rfl rfl hz rfl (ex_move (Or.inl rfl) (eval_slot ((hG.slots 0 (by decide)).trans rfl))) hG
            · exact rv rfl rfl rfl hz rfl (ex_move (Or.inl rfl) (eval_slot ((hG.slots 3 (by decide)).trans rfl))) hG
            · exact rv rfl rfl rfl hz rfl (ex_index rfl (ev hF 0 rfl rfl) (ev hF 1 rfl rfl) (idx_ch HKN.out)) hG
            · exact rv rfl rfl rfl hz rfl (ex_field rfl (ev hF 2 rfl rfl) (by go_simp)) hG
            · exact rv rfl rfl rfl hz rfl (ex_load rfl (ev hF 3 rfl rfl) (ld_strT (cell_keep C0.out hG.below))) hG
            · refine rol_call rfl rfl rfl (by rw [hz]; decide) (ex_call rfl (by simp [eval_slot (hF 4 (by decide))]) e1) (KP.out wx) ?_ hG.below (Nat.le_trans HNW.out hG.new)
              rintro e w1 ⟨rfl, hb1⟩
              exact ⟨_, rfl, hb1, .inl rfl⟩
            · exact rv rfl rfl rfl hz rfl (ex_un rfl (ev hF 5 rfl rfl) rfl) hG
            · exact rv rfl rfl rfl hz rfl (ex_move (Or.inl rfl) (ev hF 6 rfl rfl)) hG
            iterate 7 exact rn rfl hF 7 rfl rfl rfl rfl rfl rfl hz rfl hG
            iterate 7 exact ru rfl hF 14 rfl rfl rfl rfl rfl hz rfl hG
            · exact rn rfl hF 7 rfl rfl rfl rfl rfl rfl hz rfl hG
            · exact rv rfl rfl rfl hz rfl (ex_pick_yes rfl (ev hF 7 rfl rfl) rfl) hG
            · exact rv rfl rfl rfl hz rfl (ex_move (Or.inl rfl) (ev hF 23 rfl rfl)) hG
            iterate 7 exact rn rfl hF 24 rfl rfl rfl rfl rfl rfl hz rfl hG
            iterate 7 exact ru rfl hF 31 rfl rfl rfl rfl rfl hz rfl hG
            · exact rn rfl hF 24 rfl rfl rfl rfl rfl rfl hz rfl hG
            · exact rv rfl rfl rfl hz rfl (ex_pick_yes rfl (ev hF 24 rfl rfl) rfl) hG
            · exact rv rfl rfl rfl hz rfl (ex_move (Or.inl rfl) (ev hF 40 rfl rfl)) hG
            iterate 11 exact rn rfl hF 41 rfl rfl rfl rfl rfl rfl hz rfl hG
            · exact rv rfl rfl rfl hz rfl (ex_pick_yes rfl (ev hF 41 rfl rfl) rfl) hG
            · exact rv rfl rfl rfl hz rfl (ex_move (Or.inl rfl) (ev hF 53 rfl rfl)) hG
            iterate 3 exact rn rfl hF 54 rfl rfl rfl rfl rfl rfl hz rfl hG
            iterate 13 exact ru rfl hF 57 rfl rfl rfl rfl rfl hz rfl hG
            · exact rn rfl hF 54 rfl rfl rfl rfl rfl rfl hz rfl hG
            · exact rv rfl rfl rfl hz rfl (ex_pick_yes rfl (ev hF 54 rfl rfl) rfl) hG
          · intro a wx who hG hF
            have fv82 : a.tmps.getD 82 undef = .bool true := eval_slot (s := 82) (hF 72 (of_decide_eq_true (by kernel_rfl)) (of_decide_eq_true (by kernel_rfl)))
            have hbx := hG.below
            have hnx := hG.new
            rw [hG.frame]
            simp only [List.foldl_cons, List.foldl_nil, List.setIfInBounds_toArray, List.set_cons_zero, List.set_cons_succ]
            rw [fv82]
            generalize Array.getD a.tmps = uu
            clear hF hG fv82
            go_wp2_with fail
            go_meet
            exact ⟨by rw [HSX.out]; rfl, Lib.hid (below_step HB.out hbx)⟩
      case rest =>
        obtain ⟨rfl, HBW⟩ := hcut
        cases X with
        | false =>
          have HF := Lib.hid (show R = false by rw [HR.out]; exact chain_no HKL.out HX.out)
          go_wp2
          go_ret
          exact ⟨by rw [HF.out]; rfl, HBW.out⟩
        | true =>
          have HM2 : Hid (∀ j, j < k + 1 → chainB okCh ltC zC l j = true) := Lib.hid fun j hj => by
            rcases Nat.lt_succ_iff_lt_or_eq.1 hj with q2 | rfl
            · exact HM.out j q2
            · exact HX.out
          go_wp2
          go_roundw
          case rel => exact ⟨k + 1, by omega, by go_num, HM2, HBW⟩
          case measure => simp [intOf]; omega
    · have e : k = n := by omega
      subst e
      have hyes : chainA okCh ltC zC l = true := chain_yes fun j hj => HM.out j (by rw [← HN.out]; exact hj)
      have HT := Lib.hid (show R = true by rw [HR.out, hyes])
      clear hyes
      go_wp2
      go_ret
      exact ⟨by rw [HT.out]; rfl, HB.out⟩
end Go.Proofs.YtlbibgofhhdgoaaGreat
