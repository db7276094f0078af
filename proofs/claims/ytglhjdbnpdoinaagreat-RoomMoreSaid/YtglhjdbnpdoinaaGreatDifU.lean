/- May edits be: of the document; may all nodes be. -/
import Derived.Test.YtglhjdbnpdoinaaGreatDifT
namespace Go.Proofs.YtglhjdbnpdoinaaGreat
open Go.RowKit
set_option linter.unusedVariables false
set_option maxRecDepth 100000

theorem bin_eqz {w : World} {z : Int} {b : Bool} (h : (z == 0) = b) : Sem.run Tryz.prog (binOp .eql 3 (.int .i64 z) (.int .i64 0)) w = .ok (.bool b) w := by go_simp
theorem bin_gtt {w : World} {z : Int} {b : Bool} (h : decide (1099511627776 < z) = b) : Sem.run Tryz.prog (binOp .gtr 3 (.int .i64 z) (.int .i64 1099511627776)) w = .ok (.bool b) w := by go_simp
theorem bin_lsb {w : World} {z : Int} {b : Bool} (h : decide (z < -1099511627776) = b) : Sem.run Tryz.prog (binOp .lss 3 (.int .i64 z) (.int .i64 (-1099511627776))) w = .ok (.bool b) w := by go_simp
theorem bin_gtz {w : World} {k : Nat} {b : Bool} (h : decide (0 < k) = b) : Sem.run Tryz.prog (binOp .gtr 3 (.int .i64 (k : Int)) (.int .i64 0)) w = .ok (.bool b) w := by
  have e : decide ((0 : Int) < (k : Int)) = b := by rw [← h]; exact decide_eq_decide.2 (by omega)
  rw [← e]
  go_simp
theorem bin_pred {w : World} {k m : Nat} (h : IntKind.i64.wrap ((k : Int) - 1) = (m : Int)) : Sem.run Tryz.prog (binOp .sub 3 (.int .i64 (k : Int)) (.int .i64 1)) w = .ok (.int .i64 (m : Int)) w := by go_simp

/-- What is asked of place k of edits. -/
def stepD (l : List De) (k : Nat) : Bool := okN (l.getD k zD).1 && !decide ((l.getD k zD).2 = 0) && inD (l.getD k zD).2 && (decide (k = 0) || ltN (l.getD (k - 1) zD).1 (l.getD k zD).1)
theorem keyD_at {l : List De} {k : Nat} (h : k < l.length) : (keyD l).getD k ([], []) = (l.getD k zD).1 := by
  rw [df_getD h, List.getD_eq_getElem?_getD]; unfold keyD; rw [List.getElem?_map, List.getElem?_eq_getElem h]; rfl
theorem stepD_key {l : List De} {k : Nat} (h : k < l.length) : stepD l k = (!decide ((l.getD k zD).2 = 0) && inD (l.getD k zD).2 && stepN (keyD l) k) := by
  unfold stepD stepN
  rw [keyD_at h]
  by_cases hk : k = 0
  · subst hk
    cases okN (l.getD 0 zD).1 <;> cases decide ((l.getD 0 zD).2 = 0) <;> cases inD (l.getD 0 zD).2 <;> simp
  · rw [keyD_at (show k - 1 < l.length by omega)]
    cases okN (l.getD k zD).1 <;> cases decide ((l.getD k zD).2 = 0) <;> cases inD (l.getD k zD).2 <;> simp
theorem keyD_len (l : List De) : (keyD l).length = l.length := List.length_map _
theorem okD_yes {l : List De} (h : ∀ j, j < l.length → stepD l j = true) : okD l = true := by
  refine okD_of (byOk_iff.2 fun e he => ?_) (checkN_yes fun j hj => ?_)
  · obtain ⟨j, hj, rfl⟩ := List.getElem_of_mem he
    have h1 := h j hj
    rw [stepD_key hj, df_getD hj] at h1
    simp only [Bool.and_eq_true, Bool.not_eq_true', decide_eq_false_iff_not] at h1
    exact ⟨h1.1.1, h1.1.2⟩
  · rw [keyD_len] at hj
    have h1 := h j hj
    rw [stepD_key hj] at h1
    simp only [Bool.and_eq_true] at h1
    exact h1.2
theorem okD_no {l : List De} {k : Nat} (hk : k < l.length) (h : stepD l k = false) : okD l = false := by
  cases e : okD l
  · rfl
  · exfalso
    obtain ⟨h1, h2⟩ := okD_parts e
    have h3 := byOk_iff.1 h1 _ (df_mem hk)
    have h4 := checkN_at h2 (j := k) (by rw [keyD_len]; exact hk)
    rw [stepD_key hk, h4, h3.2, decide_eq_false h3.1] at h
    cases h
theorem stepD_ok {l : List De} {k : Nat} (h : stepD l k = true) : okN (l.getD k zD).1 = true := by
  unfold stepD at h; simp only [Bool.and_eq_true] at h; exact h.1.1.1

set_option maxHeartbeats 6400000 in
theorem refdmay_any (V : Value) (l : List De) (w : World) (h : Dfs w V l) (hs : ∀ e ∈ l, smallD e) :
    Calls Tryz.prog 37 #[V] w fun e w' => e = .returned (.bool (okD l)) ∧ Below w.heap.size w w' := by
  obtain ⟨a, c, rfl, h1, h2, -, -⟩ := h.ex
  unfold maxLen at h2
  obtain ⟨n, hn⟩ : ∃ n, l.length = n := ⟨_, rfl⟩
  rw [hn] at h1 h ⊢
  obtain ⟨R, hR⟩ : ∃ R, okD l = R := ⟨_, rfl⟩
  rw [hR]
  have HN := Lib.hid hn; have ST := Lib.hid h; have HR := Lib.hid hR; have HS := Lib.hid hs
  have e1 : ∀ args w, (callFunc 25 args).run Tryz.prog w = .ok (.enter 25 args) w := enters_of Tryz.func25 (by kernel_rfl) rfl
  have e2 : ∀ args w, (callFunc 51 args).run Tryz.prog w = .ok (.enter 51 args) w := enters_of Tryz.func51 (by kernel_rfl) rfl
  clear h hn hR hs
  go_enter Tryz.func37, Tryz.ntmps37
  go_wp2
  go_loopw [3] (fun i wr => ∃ k : Nat, k ≤ n ∧ i = .int .i64 k ∧ Hid (∀ j, j < k → stepD l j = true) ∧ Hid (Below w.heap.size w wr)) (fun i _ => n - (intOf i).toNat)
  case atStart => exact ⟨0, Nat.zero_le _, rfl, Lib.hid (fun j hj => absurd hj (Nat.not_lt_zero j)), Lib.hid (Below.refl _ _)⟩
  case round =>
    obtain ⟨k, hk, rfl, H, HB⟩ := hrel
    by_cases hlt : k < n
    · have hkl : k < l.length := by rw [HN.out]; exact hlt
      obtain ⟨bb, off, rfl, -, cw0, cw1, cw2⟩ := (ST.out.below HB.out).at k hkl
      have hno : stepD l k = false → R = false := fun h => by rw [← HR.out]; exact okD_no hkl h
      have hst : stepD l k = (okN (l.getD k zD).1 && !decide ((l.getD k zD).2 = 0) && inD (l.getD k zD).2 && (decide (k = 0) || ltN (l.getD (k - 1) zD).1 (l.getD k zD).1)) := rfl
      have hsm := (HS.out _ (df_mem hkl)).1
      obtain ⟨y, hy⟩ : ∃ y, y = l.getD k zD := ⟨_, rfl⟩
      rw [← hy] at cw0 cw1 cw2 hst hsm
      obtain ⟨⟨y1, y2⟩, z⟩ := y
      simp only at cw0 cw1 cw2 hst hsm
      have ko := fun wx => refnmay_any y1 y2 wx hsm.1 hsm.2
      obtain ⟨o, ho⟩ : ∃ o, okN (y1, y2) = o := ⟨_, rfl⟩
      rw [ho] at ko hst
      have HNO := Lib.hid hno; have HST := Lib.hid hst; have HLT := Lib.hid hlt; have KO := Lib.hid ko; have HO := Lib.hid ho; have HSM := Lib.hid hsm
      clear hno hst ko ho hy hsm
      have hkb : (k : Int) < (n : Int) := by omega
      cases o
      · go_upto_region 4 with fail
        refine rol_run (by kernel_rfl) [[], [], [0, 1], [0, 1, 2], [0, 1, 2, 3], [0, 1, 2, 3, 4], [0, 1, 2, 3, 4, 5], [0, 1, 2, 3, 4, 5, 6], [0, 1, 2, 3, 4, 5, 6, 7], [0, 1, 2, 3, 4, 5, 6, 7], [0, 1, 2, 3, 4, 5, 6, 7, 8, 9], [0, 1, 2, 3, 4, 5, 6, 7, 8, 9, 10], [0, 1, 2, 3, 4, 5, 6, 7, 8, 9, 10, 11], [0, 1, 2, 3, 4, 5, 6, 7, 8, 9, 10, 11, 12], [0, 1, 2, 3, 4, 5, 6, 7, 8, 9, 10, 11, 12, 13], [0, 1, 2, 3, 4, 5, 6, 7, 8, 9, 10, 11, 12, 13, 14], [0, 1, 2, 3, 4, 5, 6, 7, 8, 9, 10, 11, 12, 13, 14, 15], [0, 1, 2, 3, 4, 5, 6, 7, 8, 9, 10, 11, 12, 13, 14, 15], [0, 1, 2, 3, 4, 5, 6, 7, 8, 9, 10, 11, 12, 13, 14, 15, 16, 17], [0, 1, 2, 3, 4, 5, 6, 7, 8, 9, 10, 11, 12, 13, 14, 15, 16, 17, 18], [0, 1, 2, 3, 4, 5, 6, 7, 8, 9, 10, 11, 12, 13, 14, 15, 16, 17, 18, 19], [0, 1, 2, 3, 4, 5, 6, 7, 8, 9, 10, 11, 12, 13, 14, 15, 16, 17, 18, 19, 20], [0, 1, 2, 3, 4, 5, 6, 7, 8, 9, 10, 11, 12, 13, 14, 15, 16, 17, 18, 19, 20, 21], [0, 1, 2, 3, 4, 5, 6, 7, 8, 9, 10, 11, 12, 13, 14, 15, 16, 17, 18, 19, 20, 21, 22], [0, 1, 2, 3, 4, 5, 6, 7, 8, 9, 10, 11, 12, 13, 14, 15, 16, 17, 18, 19, 20, 21, 22, 23], [0, 1, 2, 3, 4, 5, 6, 7, 8, 9, 10, 11, 12, 13, 14, 15, 16, 17, 18, 19, 20, 21, 22, 23], [0, 1, 2, 3, 4, 5, 6, 7, 8, 9, 10, 11, 12, 13, 14, 15, 16, 17, 18, 19, 20, 21, 22, 23, 24, 25], [0, 1, 2, 3, 4, 5, 6, 7, 8, 9, 10, 11, 12, 13, 14, 15, 16, 17, 18, 19, 20, 21, 22, 23, 24, 25, 26], [0, 1, 2, 3, 4, 5, 6, 7, 8, 9, 10, 11, 12, 13, 14, 15, 16, 17, 18, 19, 20, 21, 22, 23, 24, 25, 26, 27], [0, 1, 2, 3, 4, 5, 6, 7, 8, 9, 10, 11, 12, 13, 14, 15, 16, 17, 18, 19, 20, 21, 22, 23, 24, 25, 26, 27, 28], [0, 1, 2, 3, 4, 5, 6, 7, 8, 9, 10, 11, 12, 13, 14, 15, 16, 17, 18, 19, 20, 21, 22, 23, 24, 25, 26, 27, 28, 29], [0, 1, 2, 3, 4, 5, 6, 7, 8, 9, 10, 11, 12, 13, 14, 15, 16, 17, 18, 19, 20, 21, 22, 23, 24, 25, 26, 27, 28, 29, 30], [0, 1, 2, 3, 4, 5, 6, 7, 8, 9, 10, 11, 12, 13, 14, 15, 16, 17, 18, 19, 20, 21, 22, 23, 24, 25, 26, 27, 28, 29, 30, 31], [0, 1, 2, 3, 4, 5, 6, 7, 8, 9, 10, 11, 12, 13, 14, 15, 16, 17, 18, 19, 20, 21, 22, 23, 24, 25, 26, 27, 28, 29, 30, 31, 32], [0, 1, 2, 3, 4, 5, 6, 7, 8, 9, 10, 11, 12, 13, 14, 15, 16, 17, 18, 19, 20, 21, 22, 23, 24, 25, 26, 27, 28, 29, 30, 31, 32, 33], [0, 1, 2, 3, 4, 5, 6, 7, 8, 9, 10, 11, 12, 13, 14, 15, 16, 17, 18, 19, 20, 21, 22, 23, 24, 25, 26, 27, 28, 29, 30, 31, 32, 33, 34], [0, 1, 2, 3, 4, 5, 6, 7, 8, 9, 10, 11, 12, 13, 14, 15, 16, 17, 18, 19, 20, 21, 22, 23, 24, 25, 26, 27, 28, 29, 30, 31, 32, 33, 34], [0, 1, 2, 3, 4, 5, 6, 7, 8, 9, 10, 11, 12, 13, 14, 15, 16, 17, 18, 19, 20, 21, 22, 23, 24, 25, 26, 27, 28, 29, 30, 31, 32, 33, 34, 36], [0, 1, 2, 3, 4, 5, 6, 7, 8, 9, 10, 11, 12, 13, 14, 15, 16, 17, 18, 19, 20, 21, 22, 23, 24, 25, 26, 27, 28, 29, 30, 31, 32, 33, 34, 35, 36, 37], [0, 1, 2, 3, 4, 5, 6, 7, 8, 9, 10, 11, 12, 13, 14, 15, 16, 17, 18, 19, 20, 21, 22, 23, 24, 25, 26, 27, 28, 29, 30, 31, 32, 33, 34, 35, 36, 37, 38], [0, 1, 2, 3, 4, 5, 6, 7, 8, 9, 10, 11, 12, 13, 14, 15, 16, 17, 18, 19, 20, 21, 22, 23, 24, 25, 26, 27, 28, 29, 30, 31, 32, 33, 34, 35, 36, 37, 38, 39], [0, 1, 2, 3, 4, 5, 6, 7, 8, 9, 10, 11, 12, 13, 14, 15, 16, 17, 18, 19, 20, 21, 22, 23, 24, 25, 26, 27, 28, 29, 30, 31, 32, 33, 34], [0, 1, 2, 3, 4, 5, 6, 7, 8, 9, 10, 11, 12, 13, 14, 15, 16, 17, 18, 19, 20, 21, 22, 23, 24, 25, 26, 27, 28, 29, 30, 31, 32, 33, 34], [0, 1, 2, 3, 4, 5, 6, 7, 8, 9, 10, 11, 12, 13, 14, 15, 16, 17, 18, 19, 20, 21, 22, 23, 24, 25, 26, 27, 28, 29, 30, 31, 32, 33, 34, 41, 42], [0, 1, 2, 3, 4, 5, 6, 7, 8, 9, 10, 11, 12, 13, 14, 15, 16, 17, 18, 19, 20, 21, 22, 23, 24, 25, 26, 27, 28, 29, 30, 31, 32, 33, 34, 41, 42, 43], [0, 1, 2, 3, 4, 5, 6, 7, 8, 9, 10, 11, 12, 13, 14, 15, 16, 17, 18, 19, 20, 21, 22, 23, 24, 25, 26, 27, 28, 29, 30, 31, 32, 33, 34, 41, 42, 43, 44], [0, 1, 2, 3, 4, 5, 6, 7, 8, 9, 10, 11, 12, 13, 14, 15, 16, 17, 18, 19, 20, 21, 22, 23, 24, 25, 26, 27, 28, 29, 30, 31, 32, 33, 34, 35, 36, 37, 38, 39, 40, 41, 42, 43, 44, 45], [0, 1, 2, 3, 4, 5, 6, 7, 8, 9, 10, 11, 12, 13, 14, 15, 16, 17, 18, 19, 20, 21, 22, 23, 24, 25, 26, 27, 28, 29, 30, 31, 32, 33, 34, 35, 36, 37, 38, 39, 40, 41, 42, 43, 44, 45, 46], [0, 1, 2, 3, 4, 5, 6, 7, 8, 9, 10, 11, 12, 13, 14, 15, 16, 17, 18, 19, 20, 21, 22, 23, 24, 25, 26, 27, 28, 29, 30, 31, 32, 33, 34, 35, 36, 37, 38, 39, 40, 41, 42, 43, 44, 45, 46, 47], [0, 1, 2, 3, 4, 5, 6, 7, 8, 9, 10, 11, 12, 13, 14, 15, 16, 17, 18, 19, 20, 21, 22, 23, 24, 25, 26, 27, 28, 29, 30, 31, 32, 33, 34, 35, 36, 37, 38, 39, 40, 41, 42, 43, 44, 45, 46, 47, 48]] (by kernel_rfl) [10, 11, 12, 13, 14, 15, 16, 17, 18, 19, 20, 21, 22, 23, 24, 25, 26, 27, 28, 29, 30, 31, 32, 33, 34, 35, 36, 37, 38, 39, 40, 41, 42, 43, 44, 45, 46, 47, 48, 49, 50, 51, 52, 53, 54, 55, 56, 57, 58, 59] [[], [], [0, 1], [2], [3], [4], [5], [6], [7], [7], [7], [7], [7], [7], [7], [14], [15], [15], [15], [15], [15], [15], [15], [22], [23], [23], [23], [23], [23], [23], [23], [30], [31], [31], [31], [34], [34], [34], [34], [34], [34], [34], [34], [34], [34], [34], [34], [34], [31], [31]] [0, 0, 0, 0, 0, 0, 0, 0, 0, 0, 0, 0, 0, 0, 0, 0, 0, 0, 0, 0, 0, 0, 0, 0, 0, 0, 0, 0, 0, 0, 0, 0, 0, 0, 0, 0, 0, 0, 0, 0, 0, 0, 0, 0, 0, 0, 0, 0, 0, 0] [0, 0, 0, 0, 0, 0, 0, 0, 0, 0, 0, 0, 0, 0, 0, 0, 0, 0, 0, 0, 0, 0, 0, 0, 0, 0, 0, 0, 0, 0, 0, 0, 0, 0, 0, 0, 0, 0, 0, 0, 0, 0, 0, 0, 0, 0, 0, 0, 0, 0] [1000, 1000, 1000, 1000, 1000, 1000, 1000, 1000, 1000, 1000, 1000, 1000, 1000, 1000, 1000, 1000, 1000, 1000, 1000, 1000, 1000, 1000, 1000, 1000, 1000, 1000, 1000, 1000, 1000, 1000, 1000, 1000, 1000, 1000, 1000, 1000, 1000, 1000, 1000, 1000, 1000, 1000, 1000, 1000, 1000, 1000, 1000, 1000, 1000, 1000] [.val 10 (.slice (some ⟨bb, off, none⟩) n c), .val 11 (.int .i64 (k : Int)), .val 12 (.pointer (some ⟨bb, off + k * 3, none⟩)), .val 13 (.pointer (some ⟨bb, off + k * 3, none⟩)), .val 14 (.agg #[.string (mkB y1), .string (mkB y2)]), .val 15 (.bool false), .val 16 (.bool true), .val 17 (.bool true), .val 18 undef, .val 19 undef, .val 20 undef, .val 21 undef, .val 22 undef, .val 23 undef, .val 24 (.bool true), .val 25 (.bool true), .val 26 undef, .val 27 undef, .val 28 undef, .val 29 undef, .val 30 undef, .val 31 undef, .val 32 (.bool true), .val 33 (.bool true), .val 34 undef, .val 35 undef, .val 36 undef, .val 37 undef, .val 38 undef, .val 39 undef, .val 40 (.bool true), .val 41 (.bool true), .val 42 undef, .val 43 undef, .val 44 undef, .val 45 undef, .val 46 undef, .val 47 undef, .val 48 undef, .val 49 undef, .val 50 undef, .val 51 undef, .val 52 undef, .val 53 undef, .val 54 undef, .val 55 undef, .val 56 undef, .val 57 undef, .val 58 undef, .val 59 (.bool true)] (by kernel_rfl) ?_ (wr.heap.size) (wr.heap.size) rfl (Below.refl _ _) rfl (fun _ => 0) ?_ ?_ ?_
        · intro j hj
          have hj3 : j < 50 := hj
          have hj2 : j = 0 ∨ j = 1 ∨ j = 2 ∨ j = 3 ∨ j = 4 ∨ j = 5 ∨ j = 6 ∨ j = 7 ∨ j = 8 ∨ j = 9 ∨ j = 10 ∨ j = 11 ∨ j = 12 ∨ j = 13 ∨ j = 14 ∨ j = 15 ∨ j = 16 ∨ j = 17 ∨ j = 18 ∨ j = 19 ∨ j = 20 ∨ j = 21 ∨ j = 22 ∨ j = 23 ∨ j = 24 ∨ j = 25 ∨ j = 26 ∨ j = 27 ∨ j = 28 ∨ j = 29 ∨ j = 30 ∨ j = 31 ∨ j = 32 ∨ j = 33 ∨ j = 34 ∨ j = 35 ∨ j = 36 ∨ j = 37 ∨ j = 38 ∨ j = 39 ∨ j = 40 ∨ j = 41 ∨ j = 42 ∨ j = 43 ∨ j = 44 ∨ j = 45 ∨ j = 46 ∨ j = 47 ∨ j = 48 ∨ j = 49 := by omega
          clear hj hj3
          rcases hj2 with rfl | rfl | rfl | rfl | rfl | rfl | rfl | rfl | rfl | rfl | rfl | rfl | rfl | rfl | rfl | rfl | rfl | rfl | rfl | rfl | rfl | rfl | rfl | rfl | rfl | rfl | rfl | rfl | rfl | rfl | rfl | rfl | rfl | rfl | rfl | rfl | rfl | rfl | rfl | rfl | rfl | rfl | rfl | rfl | rfl | rfl | rfl | rfl | rfl | rfl
          · exact trivial
          · exact trivial
          · exact trivial
          · exact trivial
          · exact trivial
          · exact trivial
          · exact trivial
          · exact trivial
          · exact trivial
          · exact trivial
          · exact trivial
          · exact trivial
          · exact trivial
          · exact trivial
          · exact trivial
          · exact trivial
          · exact trivial
          · exact trivial
          · exact trivial
          · exact trivial
          · exact trivial
          · exact trivial
          · exact trivial
          · exact trivial
          · exact trivial
          · exact trivial
          · exact trivial
          · exact trivial
          · exact trivial
          · exact trivial
          · exact trivial
          · exact trivial
          · exact trivial
          · exact trivial
          · exact trivial
          · exact trivial
          · exact trivial
          · exact trivial
          · exact trivial
          · exact trivial
          · exact trivial
          · exact trivial
          · exact trivial
          · exact trivial
          · exact trivial
          · exact trivial
          · exact trivial
          · exact trivial
          · exact trivial
          · exact trivial
        · intro j hj0 hj
          exact absurd hj (Nat.not_lt.2 hj0)
        · intro i hi a wx who hG hF
          have hz : a.tmps.size = 60 := hG.size
          have hi3 : i < 50 := hi
          have hi2 : i = 0 ∨ i = 1 ∨ i = 2 ∨ i = 3 ∨ i = 4 ∨ i = 5 ∨ i = 6 ∨ i = 7 ∨ i = 8 ∨ i = 9 ∨ i = 10 ∨ i = 11 ∨ i = 12 ∨ i = 13 ∨ i = 14 ∨ i = 15 ∨ i = 16 ∨ i = 17 ∨ i = 18 ∨ i = 19 ∨ i = 20 ∨ i = 21 ∨ i = 22 ∨ i = 23 ∨ i = 24 ∨ i = 25 ∨ i = 26 ∨ i = 27 ∨ i = 28 ∨ i = 29 ∨ i = 30 ∨ i = 31 ∨ i = 32 ∨ i = 33 ∨ i = 34 ∨ i = 35 ∨ i = 36 ∨ i = 37 ∨ i = 38 ∨ i = 39 ∨ i = 40 ∨ i = 41 ∨ i = 42 ∨ i = 43 ∨ i = 44 ∨ i = 45 ∨ i = 46 ∨ i = 47 ∨ i = 48 ∨ i = 49 := by omega
          clear hi hi3
          rcases hi2 with rfl | rfl | rfl | rfl | rfl | rfl | rfl | rfl | rfl | rfl | rfl | rfl | rfl | rfl | rfl | rfl | rfl | rfl | rfl | rfl | rfl | rfl | rfl | rfl | rfl | rfl | rfl | rfl | rfl | rfl | rfl | rfl | rfl | rfl | rfl | rfl | rfl | rfl | rfl | rfl | rfl | rfl | rfl | rfl | rfl | rfl | rfl | rfl | rfl | rfl
          · exact rol_val rfl rfl rfl (by rw [hz]; decide) (ex_move (Or.inl rfl) (eval_slot ((hG.slots 0 (by decide)).trans rfl))) hG.below
          · exact rol_val rfl rfl rfl (by rw [hz]; decide) (ex_move (Or.inl rfl) (eval_slot ((hG.slots 3 (by decide)).trans rfl))) hG.below
          · exact rol_val rfl rfl rfl (by rw [hz]; decide) (ex_index rfl (eval_slot (hF 0 (by decide))) (eval_slot (hF 1 (by decide))) (idx_df HLT.out)) hG.below
          · exact rol_val rfl rfl rfl (by rw [hz]; decide) (ex_field rfl (eval_slot (hF 2 (by decide))) fld_df) hG.below
          · exact rol_val rfl rfl rfl (by rw [hz]; decide) (ex_load rfl (eval_slot (hF 3 (by decide))) (ld_node (cell_keep cw0 hG.below) (cell_keep cw1 hG.below))) hG.below
          · refine rol_call rfl rfl rfl (by rw [hz]; decide) (ex_call rfl (by simp [eval_slot (hF 4 (by decide))]) e1) (KO.out wx) ?_ hG.below hG.new
            rintro e w1 ⟨rfl, hb1⟩
            exact ⟨_, rfl, hb1, .inl rfl⟩
          · exact rol_val rfl rfl rfl (by rw [hz]; decide) (ex_un rfl (eval_slot (hF 5 (by decide))) rfl) hG.below
          · exact rol_val rfl rfl rfl (by rw [hz]; decide) (ex_move (Or.inl rfl) (eval_slot (hF 6 (by decide)))) hG.below
          · exact rol_val_skip rfl (want_no rfl rfl (hF 7 (by decide)) (by decide)) rfl (by rw [hz]; decide) hG.below
          · exact rol_val_skip rfl (want_no rfl rfl (hF 7 (by decide)) (by decide)) rfl (by rw [hz]; decide) hG.below
          · exact rol_val_skip rfl (want_no rfl rfl (hF 7 (by decide)) (by decide)) rfl (by rw [hz]; decide) hG.below
          · exact rol_val_skip rfl (want_no rfl rfl (hF 7 (by decide)) (by decide)) rfl (by rw [hz]; decide) hG.below
          · exact rol_val_skip rfl (want_no rfl rfl (hF 7 (by decide)) (by decide)) rfl (by rw [hz]; decide) hG.below
          · exact rol_val_skip rfl (want_no rfl rfl (hF 7 (by decide)) (by decide)) rfl (by rw [hz]; decide) hG.below
          · exact rol_val rfl rfl rfl (by rw [hz]; decide) (ex_pick_yes rfl (eval_slot (hF 7 (by decide))) rfl) hG.below
          · exact rol_val rfl rfl rfl (by rw [hz]; decide) (ex_move (Or.inl rfl) (eval_slot (hF 14 (by decide)))) hG.below
          · exact rol_val_skip rfl (want_no rfl rfl (hF 15 (by decide)) (by decide)) rfl (by rw [hz]; decide) hG.below
          · exact rol_val_skip rfl (want_no rfl rfl (hF 15 (by decide)) (by decide)) rfl (by rw [hz]; decide) hG.below
          · exact rol_val_skip rfl (want_no rfl rfl (hF 15 (by decide)) (by decide)) rfl (by rw [hz]; decide) hG.below
          · exact rol_val_skip rfl (want_no rfl rfl (hF 15 (by decide)) (by decide)) rfl (by rw [hz]; decide) hG.below
          · exact rol_val_skip rfl (want_no rfl rfl (hF 15 (by decide)) (by decide)) rfl (by rw [hz]; decide) hG.below
          · exact rol_val_skip rfl (want_no rfl rfl (hF 15 (by decide)) (by decide)) rfl (by rw [hz]; decide) hG.below
          · exact rol_val rfl rfl rfl (by rw [hz]; decide) (ex_pick_yes rfl (eval_slot (hF 15 (by decide))) rfl) hG.below
          · exact rol_val rfl rfl rfl (by rw [hz]; decide) (ex_move (Or.inl rfl) (eval_slot (hF 22 (by decide)))) hG.below
          · exact rol_val_skip rfl (want_no rfl rfl (hF 23 (by decide)) (by decide)) rfl (by rw [hz]; decide) hG.below
          · exact rol_val_skip rfl (want_no rfl rfl (hF 23 (by decide)) (by decide)) rfl (by rw [hz]; decide) hG.below
          · exact rol_val_skip rfl (want_no rfl rfl (hF 23 (by decide)) (by decide)) rfl (by rw [hz]; decide) hG.below
          · exact rol_val_skip rfl (want_no rfl rfl (hF 23 (by decide)) (by decide)) rfl (by rw [hz]; decide) hG.below
          · exact rol_val_skip rfl (want_no rfl rfl (hF 23 (by decide)) (by decide)) rfl (by rw [hz]; decide) hG.below
          · exact rol_val_skip rfl (want_no rfl rfl (hF 23 (by decide)) (by decide)) rfl (by rw [hz]; decide) hG.below
          · exact rol_val rfl rfl rfl (by rw [hz]; decide) (ex_pick_yes rfl (eval_slot (hF 23 (by decide))) rfl) hG.below
          · exact rol_val rfl rfl rfl (by rw [hz]; decide) (ex_move (Or.inl rfl) (eval_slot (hF 30 (by decide)))) hG.below
          · exact rol_val_skip rfl (want_no rfl rfl (hF 31 (by decide)) (by decide)) rfl (by rw [hz]; decide) hG.below
          · exact rol_val_skip rfl (want_no rfl rfl (hF 31 (by decide)) (by decide)) rfl (by rw [hz]; decide) hG.below
          · exact rol_val_skip rfl (want_no rfl rfl (hF 31 (by decide)) (by decide)) rfl (by rw [hz]; decide) hG.below
          · exact rol_val_skip rfl (want_undef rfl rfl (hF 34 (by decide))) rfl (by rw [hz]; decide) hG.below
          · exact rol_val_skip rfl (want_undef rfl rfl (hF 34 (by decide))) rfl (by rw [hz]; decide) hG.below
          · exact rol_val_skip rfl (want_undef rfl rfl (hF 34 (by decide))) rfl (by rw [hz]; decide) hG.below
          · exact rol_val_skip rfl (want_undef rfl rfl (hF 34 (by decide))) rfl (by rw [hz]; decide) hG.below
          · exact rol_val_skip rfl (want_undef rfl rfl (hF 34 (by decide))) rfl (by rw [hz]; decide) hG.below
          · exact rol_val_skip rfl (want_undef rfl rfl (hF 34 (by decide))) rfl (by rw [hz]; decide) hG.below
          · exact rol_val_skip rfl (want_undef rfl rfl (hF 34 (by decide))) rfl (by rw [hz]; decide) hG.below
          · exact rol_val_skip rfl (want_undef rfl rfl (hF 34 (by decide))) rfl (by rw [hz]; decide) hG.below
          · exact rol_val_skip rfl (want_undef rfl rfl (hF 34 (by decide))) rfl (by rw [hz]; decide) hG.below
          · exact rol_val_skip rfl (want_undef rfl rfl (hF 34 (by decide))) rfl (by rw [hz]; decide) hG.below
          · exact rol_val_skip rfl (want_undef rfl rfl (hF 34 (by decide))) rfl (by rw [hz]; decide) hG.below
          · exact rol_val_skip rfl (want_undef rfl rfl (hF 34 (by decide))) rfl (by rw [hz]; decide) hG.below
          · exact rol_val_skip rfl (want_undef rfl rfl (hF 34 (by decide))) rfl (by rw [hz]; decide) hG.below
          · exact rol_val_skip rfl (want_no rfl rfl (hF 31 (by decide)) (by decide)) rfl (by rw [hz]; decide) hG.below
          · exact rol_val rfl rfl rfl (by rw [hz]; decide) (ex_pick_yes rfl (eval_slot (hF 31 (by decide))) rfl) hG.below
        · intro a wx who hG hF
          have fv59 : a.tmps.getD 59 undef = .bool true := eval_slot (s := 59) (hF 49 (of_decide_eq_true (by kernel_rfl)) (of_decide_eq_true (by kernel_rfl)))
          have hbx := hG.below
          have hnx := hG.new
          rw [hG.frame]
          simp only [List.foldl_cons, List.foldl_nil, List.setIfInBounds_toArray, List.set_cons_zero, List.set_cons_succ]
          generalize a.tmps.getD 10 undef = u10
          generalize a.tmps.getD 11 undef = u11
          generalize a.tmps.getD 12 undef = u12
          generalize a.tmps.getD 13 undef = u13
          generalize a.tmps.getD 14 undef = u14
          generalize a.tmps.getD 15 undef = u15
          generalize a.tmps.getD 16 undef = u16
          generalize a.tmps.getD 17 undef = u17
          generalize a.tmps.getD 18 undef = u18
          generalize a.tmps.getD 19 undef = u19
          generalize a.tmps.getD 20 undef = u20
          generalize a.tmps.getD 21 undef = u21
          generalize a.tmps.getD 22 undef = u22
          generalize a.tmps.getD 23 undef = u23
          generalize a.tmps.getD 24 undef = u24
          generalize a.tmps.getD 25 undef = u25
          generalize a.tmps.getD 26 undef = u26
          generalize a.tmps.getD 27 undef = u27
          generalize a.tmps.getD 28 undef = u28
          generalize a.tmps.getD 29 undef = u29
          generalize a.tmps.getD 30 undef = u30
          generalize a.tmps.getD 31 undef = u31
          generalize a.tmps.getD 32 undef = u32
          generalize a.tmps.getD 33 undef = u33
          generalize a.tmps.getD 34 undef = u34
          generalize a.tmps.getD 35 undef = u35
          generalize a.tmps.getD 36 undef = u36
          generalize a.tmps.getD 37 undef = u37
          generalize a.tmps.getD 38 undef = u38
          generalize a.tmps.getD 39 undef = u39
          generalize a.tmps.getD 40 undef = u40
          generalize a.tmps.getD 41 undef = u41
          generalize a.tmps.getD 42 undef = u42
          generalize a.tmps.getD 43 undef = u43
          generalize a.tmps.getD 44 undef = u44
          generalize a.tmps.getD 45 undef = u45
          generalize a.tmps.getD 46 undef = u46
          generalize a.tmps.getD 47 undef = u47
          generalize a.tmps.getD 48 undef = u48
          generalize a.tmps.getD 49 undef = u49
          generalize a.tmps.getD 50 undef = u50
          generalize a.tmps.getD 51 undef = u51
          generalize a.tmps.getD 52 undef = u52
          generalize a.tmps.getD 53 undef = u53
          generalize a.tmps.getD 54 undef = u54
          generalize a.tmps.getD 55 undef = u55
          generalize a.tmps.getD 56 undef = u56
          generalize a.tmps.getD 57 undef = u57
          generalize a.tmps.getD 58 undef = u58
          rw [fv59]
          clear hF hG fv59
          go_wp2
          go_ret
          exact ⟨by rw [HNO.out (by rw [HST.out]; rfl)]; rfl, below_step HB.out hbx⟩
      · by_cases t0 : z = 0
        · have HE : Hid ((z == 0) = true) := Lib.hid (by simp [t0])
          have HQ : Hid (stepD l k = false) := Lib.hid (by rw [HST.out, decide_eq_true t0]; rfl)
          clear t0
          go_upto_region 4 with fail
          refine rol_run (by kernel_rfl) [[], [], [0, 1], [0, 1, 2], [0, 1, 2, 3], [0, 1, 2, 3, 4], [0, 1, 2, 3, 4, 5], [0, 1, 2, 3, 4, 5, 6], [0, 1, 2, 3, 4, 5, 6, 7], [0, 1, 2, 3, 4, 5, 6, 7], [0, 1, 2, 3, 4, 5, 6, 7, 8, 9], [0, 1, 2, 3, 4, 5, 6, 7, 8, 9, 10], [0, 1, 2, 3, 4, 5, 6, 7, 8, 9, 10, 11], [0, 1, 2, 3, 4, 5, 6, 7, 8, 9, 10, 11, 12], [0, 1, 2, 3, 4, 5, 6, 7, 8, 9, 10, 11, 12, 13], [0, 1, 2, 3, 4, 5, 6, 7, 8, 9, 10, 11, 12, 13, 14], [0, 1, 2, 3, 4, 5, 6, 7, 8, 9, 10, 11, 12, 13, 14, 15], [0, 1, 2, 3, 4, 5, 6, 7, 8, 9, 10, 11, 12, 13, 14, 15], [0, 1, 2, 3, 4, 5, 6, 7, 8, 9, 10, 11, 12, 13, 14, 15, 16, 17], [0, 1, 2, 3, 4, 5, 6, 7, 8, 9, 10, 11, 12, 13, 14, 15, 16, 17, 18], [0, 1, 2, 3, 4, 5, 6, 7, 8, 9, 10, 11, 12, 13, 14, 15, 16, 17, 18, 19], [0, 1, 2, 3, 4, 5, 6, 7, 8, 9, 10, 11, 12, 13, 14, 15, 16, 17, 18, 19, 20], [0, 1, 2, 3, 4, 5, 6, 7, 8, 9, 10, 11, 12, 13, 14, 15, 16, 17, 18, 19, 20, 21], [0, 1, 2, 3, 4, 5, 6, 7, 8, 9, 10, 11, 12, 13, 14, 15, 16, 17, 18, 19, 20, 21, 22], [0, 1, 2, 3, 4, 5, 6, 7, 8, 9, 10, 11, 12, 13, 14, 15, 16, 17, 18, 19, 20, 21, 22, 23], [0, 1, 2, 3, 4, 5, 6, 7, 8, 9, 10, 11, 12, 13, 14, 15, 16, 17, 18, 19, 20, 21, 22, 23], [0, 1, 2, 3, 4, 5, 6, 7, 8, 9, 10, 11, 12, 13, 14, 15, 16, 17, 18, 19, 20, 21, 22, 23, 24, 25], [0, 1, 2, 3, 4, 5, 6, 7, 8, 9, 10, 11, 12, 13, 14, 15, 16, 17, 18, 19, 20, 21, 22, 23, 24, 25, 26], [0, 1, 2, 3, 4, 5, 6, 7, 8, 9, 10, 11, 12, 13, 14, 15, 16, 17, 18, 19, 20, 21, 22, 23, 24, 25, 26, 27], [0, 1, 2, 3, 4, 5, 6, 7, 8, 9, 10, 11, 12, 13, 14, 15, 16, 17, 18, 19, 20, 21, 22, 23, 24, 25, 26, 27, 28], [0, 1, 2, 3, 4, 5, 6, 7, 8, 9, 10, 11, 12, 13, 14, 15, 16, 17, 18, 19, 20, 21, 22, 23, 24, 25, 26, 27, 28, 29], [0, 1, 2, 3, 4, 5, 6, 7, 8, 9, 10, 11, 12, 13, 14, 15, 16, 17, 18, 19, 20, 21, 22, 23, 24, 25, 26, 27, 28, 29, 30], [0, 1, 2, 3, 4, 5, 6, 7, 8, 9, 10, 11, 12, 13, 14, 15, 16, 17, 18, 19, 20, 21, 22, 23, 24, 25, 26, 27, 28, 29, 30, 31], [0, 1, 2, 3, 4, 5, 6, 7, 8, 9, 10, 11, 12, 13, 14, 15, 16, 17, 18, 19, 20, 21, 22, 23, 24, 25, 26, 27, 28, 29, 30, 31, 32], [0, 1, 2, 3, 4, 5, 6, 7, 8, 9, 10, 11, 12, 13, 14, 15, 16, 17, 18, 19, 20, 21, 22, 23, 24, 25, 26, 27, 28, 29, 30, 31, 32, 33], [0, 1, 2, 3, 4, 5, 6, 7, 8, 9, 10, 11, 12, 13, 14, 15, 16, 17, 18, 19, 20, 21, 22, 23, 24, 25, 26, 27, 28, 29, 30, 31, 32, 33, 34], [0, 1, 2, 3, 4, 5, 6, 7, 8, 9, 10, 11, 12, 13, 14, 15, 16, 17, 18, 19, 20, 21, 22, 23, 24, 25, 26, 27, 28, 29, 30, 31, 32, 33, 34], [0, 1, 2, 3, 4, 5, 6, 7, 8, 9, 10, 11, 12, 13, 14, 15, 16, 17, 18, 19, 20, 21, 22, 23, 24, 25, 26, 27, 28, 29, 30, 31, 32, 33, 34, 36], [0, 1, 2, 3, 4, 5, 6, 7, 8, 9, 10, 11, 12, 13, 14, 15, 16, 17, 18, 19, 20, 21, 22, 23, 24, 25, 26, 27, 28, 29, 30, 31, 32, 33, 34, 35, 36, 37], [0, 1, 2, 3, 4, 5, 6, 7, 8, 9, 10, 11, 12, 13, 14, 15, 16, 17, 18, 19, 20, 21, 22, 23, 24, 25, 26, 27, 28, 29, 30, 31, 32, 33, 34, 35, 36, 37, 38], [0, 1, 2, 3, 4, 5, 6, 7, 8, 9, 10, 11, 12, 13, 14, 15, 16, 17, 18, 19, 20, 21, 22, 23, 24, 25, 26, 27, 28, 29, 30, 31, 32, 33, 34, 35, 36, 37, 38, 39], [0, 1, 2, 3, 4, 5, 6, 7, 8, 9, 10, 11, 12, 13, 14, 15, 16, 17, 18, 19, 20, 21, 22, 23, 24, 25, 26, 27, 28, 29, 30, 31, 32, 33, 34], [0, 1, 2, 3, 4, 5, 6, 7, 8, 9, 10, 11, 12, 13, 14, 15, 16, 17, 18, 19, 20, 21, 22, 23, 24, 25, 26, 27, 28, 29, 30, 31, 32, 33, 34], [0, 1, 2, 3, 4, 5, 6, 7, 8, 9, 10, 11, 12, 13, 14, 15, 16, 17, 18, 19, 20, 21, 22, 23, 24, 25, 26, 27, 28, 29, 30, 31, 32, 33, 34, 41, 42], [0, 1, 2, 3, 4, 5, 6, 7, 8, 9, 10, 11, 12, 13, 14, 15, 16, 17, 18, 19, 20, 21, 22, 23, 24, 25, 26, 27, 28, 29, 30, 31, 32, 33, 34, 41, 42, 43], [0, 1, 2, 3, 4, 5, 6, 7, 8, 9, 10, 11, 12, 13, 14, 15, 16, 17, 18, 19, 20, 21, 22, 23, 24, 25, 26, 27, 28, 29, 30, 31, 32, 33, 34, 41, 42, 43, 44], [0, 1, 2, 3, 4, 5, 6, 7, 8, 9, 10, 11, 12, 13, 14, 15, 16, 17, 18, 19, 20, 21, 22, 23, 24, 25, 26, 27, 28, 29, 30, 31, 32, 33, 34, 35, 36, 37, 38, 39, 40, 41, 42, 43, 44, 45], [0, 1, 2, 3, 4, 5, 6, 7, 8, 9, 10, 11, 12, 13, 14, 15, 16, 17, 18, 19, 20, 21, 22, 23, 24, 25, 26, 27, 28, 29, 30, 31, 32, 33, 34, 35, 36, 37, 38, 39, 40, 41, 42, 43, 44, 45, 46], [0, 1, 2, 3, 4, 5, 6, 7, 8, 9, 10, 11, 12, 13, 14, 15, 16, 17, 18, 19, 20, 21, 22, 23, 24, 25, 26, 27, 28, 29, 30, 31, 32, 33, 34, 35, 36, 37, 38, 39, 40, 41, 42, 43, 44, 45, 46, 47], [0, 1, 2, 3, 4, 5, 6, 7, 8, 9, 10, 11, 12, 13, 14, 15, 16, 17, 18, 19, 20, 21, 22, 23, 24, 25, 26, 27, 28, 29, 30, 31, 32, 33, 34, 35, 36, 37, 38, 39, 40, 41, 42, 43, 44, 45, 46, 47, 48]] (by kernel_rfl) [10, 11, 12, 13, 14, 15, 16, 17, 18, 19, 20, 21, 22, 23, 24, 25, 26, 27, 28, 29, 30, 31, 32, 33, 34, 35, 36, 37, 38, 39, 40, 41, 42, 43, 44, 45, 46, 47, 48, 49, 50, 51, 52, 53, 54, 55, 56, 57, 58, 59] [[], [], [0, 1], [2], [3], [4], [5], [6], [7], [7], [7, 8, 9], [7, 10], [7, 11], [7, 12], [7, 13], [14], [15], [15], [15], [15], [15], [15], [15], [22], [23], [23], [23], [23], [23], [23], [23], [30], [31], [31], [31], [34], [34], [34], [34], [34], [34], [34], [34], [34], [34], [34], [34], [34], [31], [31]] [0, 0, 0, 0, 0, 0, 0, 0, 0, 0, 0, 0, 0, 0, 0, 0, 0, 0, 0, 0, 0, 0, 0, 0, 0, 0, 0, 0, 0, 0, 0, 0, 0, 0, 0, 0, 0, 0, 0, 0, 0, 0, 0, 0, 0, 0, 0, 0, 0, 0] [0, 0, 0, 0, 0, 0, 0, 0, 0, 0, 0, 0, 0, 0, 0, 0, 0, 0, 0, 0, 0, 0, 0, 0, 0, 0, 0, 0, 0, 0, 0, 0, 0, 0, 0, 0, 0, 0, 0, 0, 0, 0, 0, 0, 0, 0, 0, 0, 0, 0] [1000, 1000, 1000, 1000, 1000, 1000, 1000, 1000, 1000, 1000, 1000, 1000, 1000, 1000, 1000, 1000, 1000, 1000, 1000, 1000, 1000, 1000, 1000, 1000, 1000, 1000, 1000, 1000, 1000, 1000, 1000, 1000, 1000, 1000, 1000, 1000, 1000, 1000, 1000, 1000, 1000, 1000, 1000, 1000, 1000, 1000, 1000, 1000, 1000, 1000] [.val 10 (.slice (some ⟨bb, off, none⟩) n c), .val 11 (.int .i64 (k : Int)), .val 12 (.pointer (some ⟨bb, off + k * 3, none⟩)), .val 13 (.pointer (some ⟨bb, off + k * 3, none⟩)), .val 14 (.agg #[.string (mkB y1), .string (mkB y2)]), .val 15 (.bool true), .val 16 (.bool false), .val 17 (.bool false), .val 18 (.slice (some ⟨bb, off, none⟩) n c), .val 19 (.int .i64 (k : Int)), .val 20 (.pointer (some ⟨bb, off + k * 3, none⟩)), .val 21 (.pointer (some ⟨bb, off + k * 3 + 2, none⟩)), .val 22 (.int .i64 z), .val 23 (.bool true), .val 24 (.bool true), .val 25 (.bool true), .val 26 undef, .val 27 undef, .val 28 undef, .val 29 undef, .val 30 undef, .val 31 undef, .val 32 (.bool true), .val 33 (.bool true), .val 34 undef, .val 35 undef, .val 36 undef, .val 37 undef, .val 38 undef, .val 39 undef, .val 40 (.bool true), .val 41 (.bool true), .val 42 undef, .val 43 undef, .val 44 undef, .val 45 undef, .val 46 undef, .val 47 undef, .val 48 undef, .val 49 undef, .val 50 undef, .val 51 undef, .val 52 undef, .val 53 undef, .val 54 undef, .val 55 undef, .val 56 undef, .val 57 undef, .val 58 undef, .val 59 (.bool true)] (by kernel_rfl) ?_ (wr.heap.size) (wr.heap.size) rfl (Below.refl _ _) rfl (fun _ => 0) ?_ ?_ ?_
          · intro j hj
            have hj3 : j < 50 := hj
            have hj2 : j = 0 ∨ j = 1 ∨ j = 2 ∨ j = 3 ∨ j = 4 ∨ j = 5 ∨ j = 6 ∨ j = 7 ∨ j = 8 ∨ j = 9 ∨ j = 10 ∨ j = 11 ∨ j = 12 ∨ j = 13 ∨ j = 14 ∨ j = 15 ∨ j = 16 ∨ j = 17 ∨ j = 18 ∨ j = 19 ∨ j = 20 ∨ j = 21 ∨ j = 22 ∨ j = 23 ∨ j = 24 ∨ j = 25 ∨ j = 26 ∨ j = 27 ∨ j = 28 ∨ j = 29 ∨ j = 30 ∨ j = 31 ∨ j = 32 ∨ j = 33 ∨ j = 34 ∨ j = 35 ∨ j = 36 ∨ j = 37 ∨ j = 38 ∨ j = 39 ∨ j = 40 ∨ j = 41 ∨ j = 42 ∨ j = 43 ∨ j = 44 ∨ j = 45 ∨ j = 46 ∨ j = 47 ∨ j = 48 ∨ j = 49 := by omega
            clear hj hj3
            rcases hj2 with rfl | rfl | rfl | rfl | rfl | rfl | rfl | rfl | rfl | rfl | rfl | rfl | rfl | rfl | rfl | rfl | rfl | rfl | rfl | rfl | rfl | rfl | rfl | rfl | rfl | rfl | rfl | rfl | rfl | rfl | rfl | rfl | rfl | rfl | rfl | rfl | rfl | rfl | rfl | rfl | rfl | rfl | rfl | rfl | rfl | rfl | rfl | rfl | rfl | rfl
            · exact trivial
            · exact trivial
            · exact trivial
            · exact trivial
            · exact trivial
            · exact trivial
            · exact trivial
            · exact trivial
            · exact trivial
            · exact trivial
            · exact trivial
            · exact trivial
            · exact trivial
            · exact trivial
            · exact trivial
            · exact trivial
            · exact trivial
            · exact trivial
            · exact trivial
            · exact trivial
            · exact trivial
            · exact trivial
            · exact trivial
            · exact trivial
            · exact trivial
            · exact trivial
            · exact trivial
            · exact trivial
            · exact trivial
            · exact trivial
            · exact trivial
            · exact trivial
            · exact trivial
            · exact trivial
            · exact trivial
            · exact trivial
            · exact trivial
            · exact trivial
            · exact trivial
            · exact trivial
            · exact trivial
            · exact trivial
            · exact trivial
            · exact trivial
            · exact trivial
            · exact trivial
            · exact trivial
            · exact trivial
            · exact trivial
            · exact trivial
          · intro j hj0 hj
            exact absurd hj (Nat.not_lt.2 hj0)
          · intro i hi a wx who hG hF
            have hz : a.tmps.size = 60 := hG.size
            have hi3 : i < 50 := hi
            have hi2 : i = 0 ∨ i = 1 ∨ i = 2 ∨ i = 3 ∨ i = 4 ∨ i = 5 ∨ i = 6 ∨ i = 7 ∨ i = 8 ∨ i = 9 ∨ i = 10 ∨ i = 11 ∨ i = 12 ∨ i = 13 ∨ i = 14 ∨ i = 15 ∨ i = 16 ∨ i = 17 ∨ i = 18 ∨ i = 19 ∨ i = 20 ∨ i = 21 ∨ i = 22 ∨ i = 23 ∨ i = 24 ∨ i = 25 ∨ i = 26 ∨ i = 27 ∨ i = 28 ∨ i = 29 ∨ i = 30 ∨ i = 31 ∨ i = 32 ∨ i = 33 ∨ i = 34 ∨ i = 35 ∨ i = 36 ∨ i = 37 ∨ i = 38 ∨ i = 39 ∨ i = 40 ∨ i = 41 ∨ i = 42 ∨ i = 43 ∨ i = 44 ∨ i = 45 ∨ i = 46 ∨ i = 47 ∨ i = 48 ∨ i = 49 := by omega
            clear hi hi3
            rcases hi2 with rfl | rfl | rfl | rfl | rfl | rfl | rfl | rfl | rfl | rfl | rfl | rfl | rfl | rfl | rfl | rfl | rfl | rfl | rfl | rfl | rfl | rfl | rfl | rfl | rfl | rfl | rfl | rfl | rfl | rfl | rfl | rfl | rfl | rfl | rfl | rfl | rfl | rfl | rfl | rfl | rfl | rfl | rfl | rfl | rfl | rfl | rfl | rfl | rfl | rfl
            · exact rol_val rfl rfl rfl (by rw [hz]; decide) (ex_move (Or.inl rfl) (eval_slot ((hG.slots 0 (by decide)).trans rfl))) hG.below
            · exact rol_val rfl rfl rfl (by rw [hz]; decide) (ex_move (Or.inl rfl) (eval_slot ((hG.slots 3 (by decide)).trans rfl))) hG.below
            · exact rol_val rfl rfl rfl (by rw [hz]; decide) (ex_index rfl (eval_slot (hF 0 (by decide))) (eval_slot (hF 1 (by decide))) (idx_df HLT.out)) hG.below
            · exact rol_val rfl rfl rfl (by rw [hz]; decide) (ex_field rfl (eval_slot (hF 2 (by decide))) fld_df) hG.below
            · exact rol_val rfl rfl rfl (by rw [hz]; decide) (ex_load rfl (eval_slot (hF 3 (by decide))) (ld_node (cell_keep cw0 hG.below) (cell_keep cw1 hG.below))) hG.below
            · refine rol_call rfl rfl rfl (by rw [hz]; decide) (ex_call rfl (by simp [eval_slot (hF 4 (by decide))]) e1) (KO.out wx) ?_ hG.below hG.new
              rintro e w1 ⟨rfl, hb1⟩
              exact ⟨_, rfl, hb1, .inl rfl⟩
            · exact rol_val rfl rfl rfl (by rw [hz]; decide) (ex_un rfl (eval_slot (hF 5 (by decide))) rfl) hG.below
            · exact rol_val rfl rfl rfl (by rw [hz]; decide) (ex_move (Or.inl rfl) (eval_slot (hF 6 (by decide)))) hG.below
            · exact rol_val rfl (want_yes rfl rfl (hF 7 (by decide))) rfl (by rw [hz]; decide) (ex_move (Or.inl rfl) (eval_slot ((hG.slots 0 (by decide)).trans rfl))) hG.below
            · exact rol_val rfl (want_yes rfl rfl (hF 7 (by decide))) rfl (by rw [hz]; decide) (ex_move (Or.inl rfl) (eval_slot ((hG.slots 3 (by decide)).trans rfl))) hG.below
            · exact rol_val rfl (want_yes rfl rfl (hF 7 (by decide))) rfl (by rw [hz]; decide) (ex_index rfl (eval_slot (hF 8 (by decide))) (eval_slot (hF 9 (by decide))) (idx_df HLT.out)) hG.below
            · exact rol_val rfl (want_yes rfl rfl (hF 7 (by decide))) rfl (by rw [hz]; decide) (ex_field rfl (eval_slot (hF 10 (by decide))) fld2_df) hG.below
            · exact rol_val rfl (want_yes rfl rfl (hF 7 (by decide))) rfl (by rw [hz]; decide) (ex_load rfl (eval_slot (hF 11 (by decide))) (ld_num (cell_keep cw2 hG.below))) hG.below
            · exact rol_val rfl (want_yes rfl rfl (hF 7 (by decide))) rfl (by rw [hz]; decide) (ex_bin rfl (eval_slot (hF 12 (by decide))) rfl (by go_simp) (bin_eqz HE.out)) hG.below
            · exact rol_val rfl rfl rfl (by rw [hz]; decide) (ex_pick_no rfl (eval_slot (hF 7 (by decide))) (eval_slot (hF 13 (by decide)))) hG.below
            · exact rol_val rfl rfl rfl (by rw [hz]; decide) (ex_move (Or.inl rfl) (eval_slot (hF 14 (by decide)))) hG.below
            · exact rol_val_skip rfl (want_no rfl rfl (hF 15 (by decide)) (by decide)) rfl (by rw [hz]; decide) hG.below
            · exact rol_val_skip rfl (want_no rfl rfl (hF 15 (by decide)) (by decide)) rfl (by rw [hz]; decide) hG.below
            · exact rol_val_skip rfl (want_no rfl rfl (hF 15 (by decide)) (by decide)) rfl (by rw [hz]; decide) hG.below
            · exact rol_val_skip rfl (want_no rfl rfl (hF 15 (by decide)) (by decide)) rfl (by rw [hz]; decide) hG.below
            · exact rol_val_skip rfl (want_no rfl rfl (hF 15 (by decide)) (by decide)) rfl (by rw [hz]; decide) hG.below
            · exact rol_val_skip rfl (want_no rfl rfl (hF 15 (by decide)) (by decide)) rfl (by rw [hz]; decide) hG.below
            · exact rol_val rfl rfl rfl (by rw [hz]; decide) (ex_pick_yes rfl (eval_slot (hF 15 (by decide))) rfl) hG.below
            · exact rol_val rfl rfl rfl (by rw [hz]; decide) (ex_move (Or.inl rfl) (eval_slot (hF 22 (by decide)))) hG.below
            · exact rol_val_skip rfl (want_no rfl rfl (hF 23 (by decide)) (by decide)) rfl (by rw [hz]; decide) hG.below
            · exact rol_val_skip rfl (want_no rfl rfl (hF 23 (by decide)) (by decide)) rfl (by rw [hz]; decide) hG.below
            · exact rol_val_skip rfl (want_no rfl rfl (hF 23 (by decide)) (by decide)) rfl (by rw [hz]; decide) hG.below
            · exact rol_val_skip rfl (want_no rfl rfl (hF 23 (by decide)) (by decide)) rfl (by rw [hz]; decide) hG.below
            · exact rol_val_skip rfl (want_no rfl rfl (hF 23 (by decide)) (by decide)) rfl (by rw [hz]; decide) hG.below
            · exact rol_val_skip rfl (want_no rfl rfl (hF 23 (by decide)) (by decide)) rfl (by rw [hz]; decide) hG.below
            · exact rol_val rfl rfl rfl (by rw [hz]; decide) (ex_pick_yes rfl (eval_slot (hF 23 (by decide))) rfl) hG.below
            · exact rol_val rfl rfl rfl (by rw [hz]; decide) (ex_move (Or.inl rfl) (eval_slot (hF 30 (by decide)))) hG.below
            · exact rol_val_skip rfl (want_no rfl rfl (hF 31 (by decide)) (by decide)) rfl (by rw [hz]; decide) hG.below
            · exact rol_val_skip rfl (want_no rfl rfl (hF 31 (by decide)) (by decide)) rfl (by rw [hz]; decide) hG.below
            · exact rol_val_skip rfl (want_no rfl rfl (hF 31 (by decide)) (by decide)) rfl (by rw [hz]; decide) hG.below
            · exact rol_val_skip rfl (want_undef rfl rfl (hF 34 (by decide))) rfl (by rw [hz]; decide) hG.below
            · exact rol_val_skip rfl (want_undef rfl rfl (hF 34 (by decide))) rfl (by rw [hz]; decide) hG.below
            · exact rol_val_skip rfl (want_undef rfl rfl (hF 34 (by decide))) rfl (by rw [hz]; decide) hG.below
            · exact rol_val_skip rfl (want_undef rfl rfl (hF 34 (by decide))) rfl (by rw [hz]; decide) hG.below
            · exact rol_val_skip rfl (want_undef rfl rfl (hF 34 (by decide))) rfl (by rw [hz]; decide) hG.below
            · exact rol_val_skip rfl (want_undef rfl rfl (hF 34 (by decide))) rfl (by rw [hz]; decide) hG.below
            · exact rol_val_skip rfl (want_undef rfl rfl (hF 34 (by decide))) rfl (by rw [hz]; decide) hG.below
            · exact rol_val_skip rfl (want_undef rfl rfl (hF 34 (by decide))) rfl (by rw [hz]; decide) hG.below
            · exact rol_val_skip rfl (want_undef rfl rfl (hF 34 (by decide))) rfl (by rw [hz]; decide) hG.below
            · exact rol_val_skip rfl (want_undef rfl rfl (hF 34 (by decide))) rfl (by rw [hz]; decide) hG.below
            · exact rol_val_skip rfl (want_undef rfl rfl (hF 34 (by decide))) rfl (by rw [hz]; decide) hG.below
            · exact rol_val_skip rfl (want_undef rfl rfl (hF 34 (by decide))) rfl (by rw [hz]; decide) hG.below
            · exact rol_val_skip rfl (want_undef rfl rfl (hF 34 (by decide))) rfl (by rw [hz]; decide) hG.below
            · exact rol_val_skip rfl (want_no rfl rfl (hF 31 (by decide)) (by decide)) rfl (by rw [hz]; decide) hG.below
            · exact rol_val rfl rfl rfl (by rw [hz]; decide) (ex_pick_yes rfl (eval_slot (hF 31 (by decide))) rfl) hG.below
          · intro a wx who hG hF
            have fv59 : a.tmps.getD 59 undef = .bool true := eval_slot (s := 59) (hF 49 (of_decide_eq_true (by kernel_rfl)) (of_decide_eq_true (by kernel_rfl)))
            have hbx := hG.below
            have hnx := hG.new
            rw [hG.frame]
            simp only [List.foldl_cons, List.foldl_nil, List.setIfInBounds_toArray, List.set_cons_zero, List.set_cons_succ]
            generalize a.tmps.getD 10 undef = u10
            generalize a.tmps.getD 11 undef = u11
            generalize a.tmps.getD 12 undef = u12
            generalize a.tmps.getD 13 undef = u13
            generalize a.tmps.getD 14 undef = u14
            generalize a.tmps.getD 15 undef = u15
            generalize a.tmps.getD 16 undef = u16
            generalize a.tmps.getD 17 undef = u17
            generalize a.tmps.getD 18 undef = u18
            generalize a.tmps.getD 19 undef = u19
            generalize a.tmps.getD 20 undef = u20
            generalize a.tmps.getD 21 undef = u21
            generalize a.tmps.getD 22 undef = u22
            generalize a.tmps.getD 23 undef = u23
            generalize a.tmps.getD 24 undef = u24
            generalize a.tmps.getD 25 undef = u25
            generalize a.tmps.getD 26 undef = u26
            generalize a.tmps.getD 27 undef = u27
            generalize a.tmps.getD 28 undef = u28
            generalize a.tmps.getD 29 undef = u29
            generalize a.tmps.getD 30 undef = u30
            generalize a.tmps.getD 31 undef = u31
            generalize a.tmps.getD 32 undef = u32
            generalize a.tmps.getD 33 undef = u33
            generalize a.tmps.getD 34 undef = u34
            generalize a.tmps.getD 35 undef = u35
            generalize a.tmps.getD 36 undef = u36
            generalize a.tmps.getD 37 undef = u37
            generalize a.tmps.getD 38 undef = u38
            generalize a.tmps.getD 39 undef = u39
            generalize a.tmps.getD 40 undef = u40
            generalize a.tmps.getD 41 undef = u41
            generalize a.tmps.getD 42 undef = u42
            generalize a.tmps.getD 43 undef = u43
            generalize a.tmps.getD 44 undef = u44
            generalize a.tmps.getD 45 undef = u45
            generalize a.tmps.getD 46 undef = u46
            generalize a.tmps.getD 47 undef = u47
            generalize a.tmps.getD 48 undef = u48
            generalize a.tmps.getD 49 undef = u49
            generalize a.tmps.getD 50 undef = u50
            generalize a.tmps.getD 51 undef = u51
            generalize a.tmps.getD 52 undef = u52
            generalize a.tmps.getD 53 undef = u53
            generalize a.tmps.getD 54 undef = u54
            generalize a.tmps.getD 55 undef = u55
            generalize a.tmps.getD 56 undef = u56
            generalize a.tmps.getD 57 undef = u57
            generalize a.tmps.getD 58 undef = u58
            rw [fv59]
            clear hF hG fv59
            go_wp2
            go_ret
            exact ⟨by rw [HNO.out HQ.out]; rfl, below_step HB.out hbx⟩
        · have HE : Hid ((z == 0) = false) := Lib.hid (by simp [t0])
          have HZ : Hid (decide (z = 0) = false) := Lib.hid (decide_eq_false t0)
          clear t0
          by_cases t1 : 1099511627776 < z
          · have HGT : Hid (decide (1099511627776 < z) = true) := Lib.hid (decide_eq_true t1)
            have HQ : Hid (stepD l k = false) := Lib.hid (by rw [HST.out, show inD z = false by unfold inD; rw [decide_eq_false (show ¬ z ≤ 1099511627776 by omega), Bool.and_false], Bool.and_false]; rfl)
            clear t1
            go_upto_region 4 with fail
            refine rol_run (by kernel_rfl) [[], [], [0, 1], [0, 1, 2], [0, 1, 2, 3], [0, 1, 2, 3, 4], [0, 1, 2, 3, 4, 5], [0, 1, 2, 3, 4, 5, 6], [0, 1, 2, 3, 4, 5, 6, 7], [0, 1, 2, 3, 4, 5, 6, 7], [0, 1, 2, 3, 4, 5, 6, 7, 8, 9], [0, 1, 2, 3, 4, 5, 6, 7, 8, 9, 10], [0, 1, 2, 3, 4, 5, 6, 7, 8, 9, 10, 11], [0, 1, 2, 3, 4, 5, 6, 7, 8, 9, 10, 11, 12], [0, 1, 2, 3, 4, 5, 6, 7, 8, 9, 10, 11, 12, 13], [0, 1, 2, 3, 4, 5, 6, 7, 8, 9, 10, 11, 12, 13, 14], [0, 1, 2, 3, 4, 5, 6, 7, 8, 9, 10, 11, 12, 13, 14, 15], [0, 1, 2, 3, 4, 5, 6, 7, 8, 9, 10, 11, 12, 13, 14, 15], [0, 1, 2, 3, 4, 5, 6, 7, 8, 9, 10, 11, 12, 13, 14, 15, 16, 17], [0, 1, 2, 3, 4, 5, 6, 7, 8, 9, 10, 11, 12, 13, 14, 15, 16, 17, 18], [0, 1, 2, 3, 4, 5, 6, 7, 8, 9, 10, 11, 12, 13, 14, 15, 16, 17, 18, 19], [0, 1, 2, 3, 4, 5, 6, 7, 8, 9, 10, 11, 12, 13, 14, 15, 16, 17, 18, 19, 20], [0, 1, 2, 3, 4, 5, 6, 7, 8, 9, 10, 11, 12, 13, 14, 15, 16, 17, 18, 19, 20, 21], [0, 1, 2, 3, 4, 5, 6, 7, 8, 9, 10, 11, 12, 13, 14, 15, 16, 17, 18, 19, 20, 21, 22], [0, 1, 2, 3, 4, 5, 6, 7, 8, 9, 10, 11, 12, 13, 14, 15, 16, 17, 18, 19, 20, 21, 22, 23], [0, 1, 2, 3, 4, 5, 6, 7, 8, 9, 10, 11, 12, 13, 14, 15, 16, 17, 18, 19, 20, 21, 22, 23], [0, 1, 2, 3, 4, 5, 6, 7, 8, 9, 10, 11, 12, 13, 14, 15, 16, 17, 18, 19, 20, 21, 22, 23, 24, 25], [0, 1, 2, 3, 4, 5, 6, 7, 8, 9, 10, 11, 12, 13, 14, 15, 16, 17, 18, 19, 20, 21, 22, 23, 24, 25, 26], [0, 1, 2, 3, 4, 5, 6, 7, 8, 9, 10, 11, 12, 13, 14, 15, 16, 17, 18, 19, 20, 21, 22, 23, 24, 25, 26, 27], [0, 1, 2, 3, 4, 5, 6, 7, 8, 9, 10, 11, 12, 13, 14, 15, 16, 17, 18, 19, 20, 21, 22, 23, 24, 25, 26, 27, 28], [0, 1, 2, 3, 4, 5, 6, 7, 8, 9, 10, 11, 12, 13, 14, 15, 16, 17, 18, 19, 20, 21, 22, 23, 24, 25, 26, 27, 28, 29], [0, 1, 2, 3, 4, 5, 6, 7, 8, 9, 10, 11, 12, 13, 14, 15, 16, 17, 18, 19, 20, 21, 22, 23, 24, 25, 26, 27, 28, 29, 30], [0, 1, 2, 3, 4, 5, 6, 7, 8, 9, 10, 11, 12, 13, 14, 15, 16, 17, 18, 19, 20, 21, 22, 23, 24, 25, 26, 27, 28, 29, 30, 31], [0, 1, 2, 3, 4, 5, 6, 7, 8, 9, 10, 11, 12, 13, 14, 15, 16, 17, 18, 19, 20, 21, 22, 23, 24, 25, 26, 27, 28, 29, 30, 31, 32], [0, 1, 2, 3, 4, 5, 6, 7, 8, 9, 10, 11, 12, 13, 14, 15, 16, 17, 18, 19, 20, 21, 22, 23, 24, 25, 26, 27, 28, 29, 30, 31, 32, 33], [0, 1, 2, 3, 4, 5, 6, 7, 8, 9, 10, 11, 12, 13, 14, 15, 16, 17, 18, 19, 20, 21, 22, 23, 24, 25, 26, 27, 28, 29, 30, 31, 32, 33, 34], [0, 1, 2, 3, 4, 5, 6, 7, 8, 9, 10, 11, 12, 13, 14, 15, 16, 17, 18, 19, 20, 21, 22, 23, 24, 25, 26, 27, 28, 29, 30, 31, 32, 33, 34], [0, 1, 2, 3, 4, 5, 6, 7, 8, 9, 10, 11, 12, 13, 14, 15, 16, 17, 18, 19, 20, 21, 22, 23, 24, 25, 26, 27, 28, 29, 30, 31, 32, 33, 34, 36], [0, 1, 2, 3, 4, 5, 6, 7, 8, 9, 10, 11, 12, 13, 14, 15, 16, 17, 18, 19, 20, 21, 22, 23, 24, 25, 26, 27, 28, 29, 30, 31, 32, 33, 34, 35, 36, 37], [0, 1, 2, 3, 4, 5, 6, 7, 8, 9, 10, 11, 12, 13, 14, 15, 16, 17, 18, 19, 20, 21, 22, 23, 24, 25, 26, 27, 28, 29, 30, 31, 32, 33, 34, 35, 36, 37, 38], [0, 1, 2, 3, 4, 5, 6, 7, 8, 9, 10, 11, 12, 13, 14, 15, 16, 17, 18, 19, 20, 21, 22, 23, 24, 25, 26, 27, 28, 29, 30, 31, 32, 33, 34, 35, 36, 37, 38, 39], [0, 1, 2, 3, 4, 5, 6, 7, 8, 9, 10, 11, 12, 13, 14, 15, 16, 17, 18, 19, 20, 21, 22, 23, 24, 25, 26, 27, 28, 29, 30, 31, 32, 33, 34], [0, 1, 2, 3, 4, 5, 6, 7, 8, 9, 10, 11, 12, 13, 14, 15, 16, 17, 18, 19, 20, 21, 22, 23, 24, 25, 26, 27, 28, 29, 30, 31, 32, 33, 34], [0, 1, 2, 3, 4, 5, 6, 7, 8, 9, 10, 11, 12, 13, 14, 15, 16, 17, 18, 19, 20, 21, 22, 23, 24, 25, 26, 27, 28, 29, 30, 31, 32, 33, 34, 41, 42], [0, 1, 2, 3, 4, 5, 6, 7, 8, 9, 10, 11, 12, 13, 14, 15, 16, 17, 18, 19, 20, 21, 22, 23, 24, 25, 26, 27, 28, 29, 30, 31, 32, 33, 34, 41, 42, 43], [0, 1, 2, 3, 4, 5, 6, 7, 8, 9, 10, 11, 12, 13, 14, 15, 16, 17, 18, 19, 20, 21, 22, 23, 24, 25, 26, 27, 28, 29, 30, 31, 32, 33, 34, 41, 42, 43, 44], [0, 1, 2, 3, 4, 5, 6, 7, 8, 9, 10, 11, 12, 13, 14, 15, 16, 17, 18, 19, 20, 21, 22, 23, 24, 25, 26, 27, 28, 29, 30, 31, 32, 33, 34, 35, 36, 37, 38, 39, 40, 41, 42, 43, 44, 45], [0, 1, 2, 3, 4, 5, 6, 7, 8, 9, 10, 11, 12, 13, 14, 15, 16, 17, 18, 19, 20, 21, 22, 23, 24, 25, 26, 27, 28, 29, 30, 31, 32, 33, 34, 35, 36, 37, 38, 39, 40, 41, 42, 43, 44, 45, 46], [0, 1, 2, 3, 4, 5, 6, 7, 8, 9, 10, 11, 12, 13, 14, 15, 16, 17, 18, 19, 20, 21, 22, 23, 24, 25, 26, 27, 28, 29, 30, 31, 32, 33, 34, 35, 36, 37, 38, 39, 40, 41, 42, 43, 44, 45, 46, 47], [0, 1, 2, 3, 4, 5, 6, 7, 8, 9, 10, 11, 12, 13, 14, 15, 16, 17, 18, 19, 20, 21, 22, 23, 24, 25, 26, 27, 28, 29, 30, 31, 32, 33, 34, 35, 36, 37, 38, 39, 40, 41, 42, 43, 44, 45, 46, 47, 48]] (by kernel_rfl) [10, 11, 12, 13, 14, 15, 16, 17, 18, 19, 20, 21, 22, 23, 24, 25, 26, 27, 28, 29, 30, 31, 32, 33, 34, 35, 36, 37, 38, 39, 40, 41, 42, 43, 44, 45, 46, 47, 48, 49, 50, 51, 52, 53, 54, 55, 56, 57, 58, 59] [[], [], [0, 1], [2], [3], [4], [5], [6], [7], [7], [7, 8, 9], [7, 10], [7, 11], [7, 12], [7, 13], [14], [15], [15], [15, 16, 17], [15, 18], [15, 19], [15, 20], [15, 21], [22], [23], [23], [23], [23], [23], [23], [23], [30], [31], [31], [31], [34], [34], [34], [34], [34], [34], [34], [34], [34], [34], [34], [34], [34], [31], [31]] [0, 0, 0, 0, 0, 0, 0, 0, 0, 0, 0, 0, 0, 0, 0, 0, 0, 0, 0, 0, 0, 0, 0, 0, 0, 0, 0, 0, 0, 0, 0, 0, 0, 0, 0, 0, 0, 0, 0, 0, 0, 0, 0, 0, 0, 0, 0, 0, 0, 0] [0, 0, 0, 0, 0, 0, 0, 0, 0, 0, 0, 0, 0, 0, 0, 0, 0, 0, 0, 0, 0, 0, 0, 0, 0, 0, 0, 0, 0, 0, 0, 0, 0, 0, 0, 0, 0, 0, 0, 0, 0, 0, 0, 0, 0, 0, 0, 0, 0, 0] [1000, 1000, 1000, 1000, 1000, 1000, 1000, 1000, 1000, 1000, 1000, 1000, 1000, 1000, 1000, 1000, 1000, 1000, 1000, 1000, 1000, 1000, 1000, 1000, 1000, 1000, 1000, 1000, 1000, 1000, 1000, 1000, 1000, 1000, 1000, 1000, 1000, 1000, 1000, 1000, 1000, 1000, 1000, 1000, 1000, 1000, 1000, 1000, 1000, 1000] [.val 10 (.slice (some ⟨bb, off, none⟩) n c), .val 11 (.int .i64 (k : Int)), .val 12 (.pointer (some ⟨bb, off + k * 3, none⟩)), .val 13 (.pointer (some ⟨bb, off + k * 3, none⟩)), .val 14 (.agg #[.string (mkB y1), .string (mkB y2)]), .val 15 (.bool true), .val 16 (.bool false), .val 17 (.bool false), .val 18 (.slice (some ⟨bb, off, none⟩) n c), .val 19 (.int .i64 (k : Int)), .val 20 (.pointer (some ⟨bb, off + k * 3, none⟩)), .val 21 (.pointer (some ⟨bb, off + k * 3 + 2, none⟩)), .val 22 (.int .i64 z), .val 23 (.bool false), .val 24 (.bool false), .val 25 (.bool false), .val 26 (.slice (some ⟨bb, off, none⟩) n c), .val 27 (.int .i64 (k : Int)), .val 28 (.pointer (some ⟨bb, off + k * 3, none⟩)), .val 29 (.pointer (some ⟨bb, off + k * 3 + 2, none⟩)), .val 30 (.int .i64 z), .val 31 (.bool true), .val 32 (.bool true), .val 33 (.bool true), .val 34 undef, .val 35 undef, .val 36 undef, .val 37 undef, .val 38 undef, .val 39 undef, .val 40 (.bool true), .val 41 (.bool true), .val 42 undef, .val 43 undef, .val 44 undef, .val 45 undef, .val 46 undef, .val 47 undef, .val 48 undef, .val 49 undef, .val 50 undef, .val 51 undef, .val 52 undef, .val 53 undef, .val 54 undef, .val 55 undef, .val 56 undef, .val 57 undef, .val 58 undef, .val 59 (.bool true)] (by kernel_rfl) ?_ (wr.heap.size) (wr.heap.size) rfl (Below.refl _ _) rfl (fun _ => 0) ?_ ?_ ?_
            · intro j hj
              have hj3 : j < 50 := hj
              have hj2 : j = 0 ∨ j = 1 ∨ j = 2 ∨ j = 3 ∨ j = 4 ∨ j = 5 ∨ j = 6 ∨ j = 7 ∨ j = 8 ∨ j = 9 ∨ j = 10 ∨ j = 11 ∨ j = 12 ∨ j = 13 ∨ j = 14 ∨ j = 15 ∨ j = 16 ∨ j = 17 ∨ j = 18 ∨ j = 19 ∨ j = 20 ∨ j = 21 ∨ j = 22 ∨ j = 23 ∨ j = 24 ∨ j = 25 ∨ j = 26 ∨ j = 27 ∨ j = 28 ∨ j = 29 ∨ j = 30 ∨ j = 31 ∨ j = 32 ∨ j = 33 ∨ j = 34 ∨ j = 35 ∨ j = 36 ∨ j = 37 ∨ j = 38 ∨ j = 39 ∨ j = 40 ∨ j = 41 ∨ j = 42 ∨ j = 43 ∨ j = 44 ∨ j = 45 ∨ j = 46 ∨ j = 47 ∨ j = 48 ∨ j = 49 := by omega
              clear hj hj3
              rcases hj2 with rfl | rfl | rfl | rfl | rfl | rfl | rfl | rfl | rfl | rfl | rfl | rfl | rfl | rfl | rfl | rfl | rfl | rfl | rfl | rfl | rfl | rfl | rfl | rfl | rfl | rfl | rfl | rfl | rfl | rfl | rfl | rfl | rfl | rfl | rfl | rfl | rfl | rfl | rfl | rfl | rfl | rfl | rfl | rfl | rfl | rfl | rfl | rfl | rfl | rfl
              · exact trivial
              · exact trivial
              · exact trivial
              · exact trivial
              · exact trivial
              · exact trivial
              · exact trivial
              · exact trivial
              · exact trivial
              · exact trivial
              · exact trivial
              · exact trivial
              · exact trivial
              · exact trivial
              · exact trivial
              · exact trivial
              · exact trivial
              · exact trivial
              · exact trivial
              · exact trivial
              · exact trivial
              · exact trivial
              · exact trivial
              · exact trivial
              · exact trivial
              · exact trivial
              · exact trivial
              · exact trivial
              · exact trivial
              · exact trivial
              · exact trivial
              · exact trivial
              · exact trivial
              · exact trivial
              · exact trivial
              · exact trivial
              · exact trivial
              · exact trivial
              · exact trivial
              · exact trivial
              · exact trivial
              · exact trivial
              · exact trivial
              · exact trivial
              · exact trivial
              · exact trivial
              · exact trivial
              · exact trivial
              · exact trivial
              · exact trivial
            · intro j hj0 hj
              exact absurd hj (Nat.not_lt.2 hj0)
            · intro i hi a wx who hG hF
              have hz : a.tmps.size = 60 := hG.size
              have hi3 : i < 50 := hi
              have hi2 : i = 0 ∨ i = 1 ∨ i = 2 ∨ i = 3 ∨ i = 4 ∨ i = 5 ∨ i = 6 ∨ i = 7 ∨ i = 8 ∨ i = 9 ∨ i = 10 ∨ i = 11 ∨ i = 12 ∨ i = 13 ∨ i = 14 ∨ i = 15 ∨ i = 16 ∨ i = 17 ∨ i = 18 ∨ i = 19 ∨ i = 20 ∨ i = 21 ∨ i = 22 ∨ i = 23 ∨ i = 24 ∨ i = 25 ∨ i = 26 ∨ i = 27 ∨ i = 28 ∨ i = 29 ∨ i = 30 ∨ i = 31 ∨ i = 32 ∨ i = 33 ∨ i = 34 ∨ i = 35 ∨ i = 36 ∨ i = 37 ∨ i = 38 ∨ i = 39 ∨ i = 40 ∨ i = 41 ∨ i = 42 ∨ i = 43 ∨ i = 44 ∨ i = 45 ∨ i = 46 ∨ i = 47 ∨ i = 48 ∨ i = 49 := by omega
              clear hi hi3
              rcases hi2 with rfl | rfl | rfl | rfl | rfl | rfl | rfl | rfl | rfl | rfl | rfl | rfl | rfl | rfl | rfl | rfl | rfl | rfl | rfl | rfl | rfl | rfl | rfl | rfl | rfl | rfl | rfl | rfl | rfl | rfl | rfl | rfl | rfl | rfl | rfl | rfl | rfl | rfl | rfl | rfl | rfl | rfl | rfl | rfl | rfl | rfl | rfl | rfl | rfl | rfl
              · exact rol_val rfl rfl rfl (by rw [hz]; decide) (ex_move (Or.inl rfl) (eval_slot ((hG.slots 0 (by decide)).trans rfl))) hG.below
              · exact rol_val rfl rfl rfl (by rw [hz]; decide) (ex_move (Or.inl rfl) (eval_slot ((hG.slots 3 (by decide)).trans rfl))) hG.below
              · exact rol_val rfl rfl rfl (by rw [hz]; decide) (ex_index rfl (eval_slot (hF 0 (by decide))) (eval_slot (hF 1 (by decide))) (idx_df HLT.out)) hG.below
              · exact rol_val rfl rfl rfl (by rw [hz]; decide) (ex_field rfl (eval_slot (hF 2 (by decide))) fld_df) hG.below
              · exact rol_val rfl rfl rfl (by rw [hz]; decide) (ex_load rfl (eval_slot (hF 3 (by decide))) (ld_node (cell_keep cw0 hG.below) (cell_keep cw1 hG.below))) hG.below
              · refine rol_call rfl rfl rfl (by rw [hz]; decide) (ex_call rfl (by simp [eval_slot (hF 4 (by decide))]) e1) (KO.out wx) ?_ hG.below hG.new
                rintro e w1 ⟨rfl, hb1⟩
                exact ⟨_, rfl, hb1, .inl rfl⟩
              · exact rol_val rfl rfl rfl (by rw [hz]; decide) (ex_un rfl (eval_slot (hF 5 (by decide))) rfl) hG.below
              · exact rol_val rfl rfl rfl (by rw [hz]; decide) (ex_move (Or.inl rfl) (eval_slot (hF 6 (by decide)))) hG.below
              · exact rol_val rfl (want_yes rfl rfl (hF 7 (by decide))) rfl (by rw [hz]; decide) (ex_move (Or.inl rfl) (eval_slot ((hG.slots 0 (by decide)).trans rfl))) hG.below
              · exact rol_val rfl (want_yes rfl rfl (hF 7 (by decide))) rfl (by rw [hz]; decide) (ex_move (Or.inl rfl) (eval_slot ((hG.slots 3 (by decide)).trans rfl))) hG.below
              · exact rol_val rfl (want_yes rfl rfl (hF 7 (by decide))) rfl (by rw [hz]; decide) (ex_index rfl (eval_slot (hF 8 (by decide))) (eval_slot (hF 9 (by decide))) (idx_df HLT.out)) hG.below
              · exact rol_val rfl (want_yes rfl rfl (hF 7 (by decide))) rfl (by rw [hz]; decide) (ex_field rfl (eval_slot (hF 10 (by decide))) fld2_df) hG.below
              · exact rol_val rfl (want_yes rfl rfl (hF 7 (by decide))) rfl (by rw [hz]; decide) (ex_load rfl (eval_slot (hF 11 (by decide))) (ld_num (cell_keep cw2 hG.below))) hG.below
              · exact rol_val rfl (want_yes rfl rfl (hF 7 (by decide))) rfl (by rw [hz]; decide) (ex_bin rfl (eval_slot (hF 12 (by decide))) rfl (by go_simp) (bin_eqz HE.out)) hG.below
              · exact rol_val rfl rfl rfl (by rw [hz]; decide) (ex_pick_no rfl (eval_slot (hF 7 (by decide))) (eval_slot (hF 13 (by decide)))) hG.below
              · exact rol_val rfl rfl rfl (by rw [hz]; decide) (ex_move (Or.inl rfl) (eval_slot (hF 14 (by decide)))) hG.below
              · exact rol_val rfl (want_yes rfl rfl (hF 15 (by decide))) rfl (by rw [hz]; decide) (ex_move (Or.inl rfl) (eval_slot ((hG.slots 0 (by decide)).trans rfl))) hG.below
              · exact rol_val rfl (want_yes rfl rfl (hF 15 (by decide))) rfl (by rw [hz]; decide) (ex_move (Or.inl rfl) (eval_slot ((hG.slots 3 (by decide)).trans rfl))) hG.below
              · exact rol_val rfl (want_yes rfl rfl (hF 15 (by decide))) rfl (by rw [hz]; decide) (ex_index rfl (eval_slot (hF 16 (by decide))) (eval_slot (hF 17 (by decide))) (idx_df HLT.out)) hG.below
              · exact rol_val rfl (want_yes rfl rfl (hF 15 (by decide))) rfl (by rw [hz]; decide) (ex_field rfl (eval_slot (hF 18 (by decide))) fld2_df) hG.below
              · exact rol_val rfl (want_yes rfl rfl (hF 15 (by decide))) rfl (by rw [hz]; decide) (ex_load rfl (eval_slot (hF 19 (by decide))) (ld_num (cell_keep cw2 hG.below))) hG.below
              · exact rol_val rfl (want_yes rfl rfl (hF 15 (by decide))) rfl (by rw [hz]; decide) (ex_bin rfl (eval_slot (hF 20 (by decide))) rfl (by go_simp) (bin_gtt HGT.out)) hG.below
              · exact rol_val rfl rfl rfl (by rw [hz]; decide) (ex_pick_no rfl (eval_slot (hF 15 (by decide))) (eval_slot (hF 21 (by decide)))) hG.below
              · exact rol_val rfl rfl rfl (by rw [hz]; decide) (ex_move (Or.inl rfl) (eval_slot (hF 22 (by decide)))) hG.below
              · exact rol_val_skip rfl (want_no rfl rfl (hF 23 (by decide)) (by decide)) rfl (by rw [hz]; decide) hG.below
              · exact rol_val_skip rfl (want_no rfl rfl (hF 23 (by decide)) (by decide)) rfl (by rw [hz]; decide) hG.below
              · exact rol_val_skip rfl (want_no rfl rfl (hF 23 (by decide)) (by decide)) rfl (by rw [hz]; decide) hG.below
              · exact rol_val_skip rfl (want_no rfl rfl (hF 23 (by decide)) (by decide)) rfl (by rw [hz]; decide) hG.below
              · exact rol_val_skip rfl (want_no rfl rfl (hF 23 (by decide)) (by decide)) rfl (by rw [hz]; decide) hG.below
              · exact rol_val_skip rfl (want_no rfl rfl (hF 23 (by decide)) (by decide)) rfl (by rw [hz]; decide) hG.below
              · exact rol_val rfl rfl rfl (by rw [hz]; decide) (ex_pick_yes rfl (eval_slot (hF 23 (by decide))) rfl) hG.below
              · exact rol_val rfl rfl rfl (by rw [hz]; decide) (ex_move (Or.inl rfl) (eval_slot (hF 30 (by decide)))) hG.below
              · exact rol_val_skip rfl (want_no rfl rfl (hF 31 (by decide)) (by decide)) rfl (by rw [hz]; decide) hG.below
              · exact rol_val_skip rfl (want_no rfl rfl (hF 31 (by decide)) (by decide)) rfl (by rw [hz]; decide) hG.below
              · exact rol_val_skip rfl (want_no rfl rfl (hF 31 (by decide)) (by decide)) rfl (by rw [hz]; decide) hG.below
              · exact rol_val_skip rfl (want_undef rfl rfl (hF 34 (by decide))) rfl (by rw [hz]; decide) hG.below
              · exact rol_val_skip rfl (want_undef rfl rfl (hF 34 (by decide))) rfl (by rw [hz]; decide) hG.below
              · exact rol_val_skip rfl (want_undef rfl rfl (hF 34 (by decide))) rfl (by rw [hz]; decide) hG.below
              · exact rol_val_skip rfl (want_undef rfl rfl (hF 34 (by decide))) rfl (by rw [hz]; decide) hG.below
              · exact rol_val_skip rfl (want_undef rfl rfl (hF 34 (by decide))) rfl (by rw [hz]; decide) hG.below
              · exact rol_val_skip rfl (want_undef rfl rfl (hF 34 (by decide))) rfl (by rw [hz]; decide) hG.below
              · exact rol_val_skip rfl (want_undef rfl rfl (hF 34 (by decide))) rfl (by rw [hz]; decide) hG.below
              · exact rol_val_skip rfl (want_undef rfl rfl (hF 34 (by decide))) rfl (by rw [hz]; decide) hG.below
              · exact rol_val_skip rfl (want_undef rfl rfl (hF 34 (by decide))) rfl (by rw [hz]; decide) hG.below
              · exact rol_val_skip rfl (want_undef rfl rfl (hF 34 (by decide))) rfl (by rw [hz]; decide) hG.below
              · exact rol_val_skip rfl (want_undef rfl rfl (hF 34 (by decide))) rfl (by rw [hz]; decide) hG.below
              · exact rol_val_skip rfl (want_undef rfl rfl (hF 34 (by decide))) rfl (by rw [hz]; decide) hG.below
              · exact rol_val_skip rfl (want_undef rfl rfl (hF 34 (by decide))) rfl (by rw [hz]; decide) hG.below
              · exact rol_val_skip rfl (want_no rfl rfl (hF 31 (by decide)) (by decide)) rfl (by rw [hz]; decide) hG.below
              · exact rol_val rfl rfl rfl (by rw [hz]; decide) (ex_pick_yes rfl (eval_slot (hF 31 (by decide))) rfl) hG.below
            · intro a wx who hG hF
              have fv59 : a.tmps.getD 59 undef = .bool true := eval_slot (s := 59) (hF 49 (of_decide_eq_true (by kernel_rfl)) (of_decide_eq_true (by kernel_rfl)))
              have hbx := hG.below
              have hnx := hG.new
              rw [hG.frame]
              simp only [List.foldl_cons, List.foldl_nil, List.setIfInBounds_toArray, List.set_cons_zero, List.set_cons_succ]
              generalize a.tmps.getD 10 undef = u10
              generalize a.tmps.getD 11 undef = u11
              generalize a.tmps.getD 12 undef = u12
              generalize a.tmps.getD 13 undef = u13
              generalize a.tmps.getD 14 undef = u14
              generalize a.tmps.getD 15 undef = u15
              generalize a.tmps.getD 16 undef = u16
              generalize a.tmps.getD 17 undef = u17
              generalize a.tmps.getD 18 undef = u18
              generalize a.tmps.getD 19 undef = u19
              generalize a.tmps.getD 20 undef = u20
              generalize a.tmps.getD 21 undef = u21
              generalize a.tmps.getD 22 undef = u22
              generalize a.tmps.getD 23 undef = u23
              generalize a.tmps.getD 24 undef = u24
              generalize a.tmps.getD 25 undef = u25
              generalize a.tmps.getD 26 undef = u26
              generalize a.tmps.getD 27 undef = u27
              generalize a.tmps.getD 28 undef = u28
              generalize a.tmps.getD 29 undef = u29
              generalize a.tmps.getD 30 undef = u30
              generalize a.tmps.getD 31 undef = u31
              generalize a.tmps.getD 32 undef = u32
              generalize a.tmps.getD 33 undef = u33
              generalize a.tmps.getD 34 undef = u34
              generalize a.tmps.getD 35 undef = u35
              generalize a.tmps.getD 36 undef = u36
              generalize a.tmps.getD 37 undef = u37
              generalize a.tmps.getD 38 undef = u38
              generalize a.tmps.getD 39 undef = u39
              generalize a.tmps.getD 40 undef = u40
              generalize a.tmps.getD 41 undef = u41
              generalize a.tmps.getD 42 undef = u42
              generalize a.tmps.getD 43 undef = u43
              generalize a.tmps.getD 44 undef = u44
              generalize a.tmps.getD 45 undef = u45
              generalize a.tmps.getD 46 undef = u46
              generalize a.tmps.getD 47 undef = u47
              generalize a.tmps.getD 48 undef = u48
              generalize a.tmps.getD 49 undef = u49
              generalize a.tmps.getD 50 undef = u50
              generalize a.tmps.getD 51 undef = u51
              generalize a.tmps.getD 52 undef = u52
              generalize a.tmps.getD 53 undef = u53
              generalize a.tmps.getD 54 undef = u54
              generalize a.tmps.getD 55 undef = u55
              generalize a.tmps.getD 56 undef = u56
              generalize a.tmps.getD 57 undef = u57
              generalize a.tmps.getD 58 undef = u58
              rw [fv59]
              clear hF hG fv59
              go_wp2
              go_ret
              exact ⟨by rw [HNO.out HQ.out]; rfl, below_step HB.out hbx⟩
          · have HGT : Hid (decide (1099511627776 < z) = false) := Lib.hid (decide_eq_false t1)
            by_cases t2 : z < -1099511627776
            · have HLS : Hid (decide (z < -1099511627776) = true) := Lib.hid (decide_eq_true t2)
              have HQ : Hid (stepD l k = false) := Lib.hid (by rw [HST.out, show inD z = false by unfold inD; rw [decide_eq_false (show ¬ -1099511627776 ≤ z by omega)]; rfl, Bool.and_false]; rfl)
              clear t1 t2
              go_upto_region 4 with fail
              refine rol_run (by kernel_rfl) [[], [], [0, 1], [0, 1, 2], [0, 1, 2, 3], [0, 1, 2, 3, 4], [0, 1, 2, 3, 4, 5], [0, 1, 2, 3, 4, 5, 6], [0, 1, 2, 3, 4, 5, 6, 7], [0, 1, 2, 3, 4, 5, 6, 7], [0, 1, 2, 3, 4, 5, 6, 7, 8, 9], [0, 1, 2, 3, 4, 5, 6, 7, 8, 9, 10], [0, 1, 2, 3, 4, 5, 6, 7, 8, 9, 10, 11], [0, 1, 2, 3, 4, 5, 6, 7, 8, 9, 10, 11, 12], [0, 1, 2, 3, 4, 5, 6, 7, 8, 9, 10, 11, 12, 13], [0, 1, 2, 3, 4, 5, 6, 7, 8, 9, 10, 11, 12, 13, 14], [0, 1, 2, 3, 4, 5, 6, 7, 8, 9, 10, 11, 12, 13, 14, 15], [0, 1, 2, 3, 4, 5, 6, 7, 8, 9, 10, 11, 12, 13, 14, 15], [0, 1, 2, 3, 4, 5, 6, 7, 8, 9, 10, 11, 12, 13, 14, 15, 16, 17], [0, 1, 2, 3, 4, 5, 6, 7, 8, 9, 10, 11, 12, 13, 14, 15, 16, 17, 18], [0, 1, 2, 3, 4, 5, 6, 7, 8, 9, 10, 11, 12, 13, 14, 15, 16, 17, 18, 19], [0, 1, 2, 3, 4, 5, 6, 7, 8, 9, 10, 11, 12, 13, 14, 15, 16, 17, 18, 19, 20], [0, 1, 2, 3, 4, 5, 6, 7, 8, 9, 10, 11, 12, 13, 14, 15, 16, 17, 18, 19, 20, 21], [0, 1, 2, 3, 4, 5, 6, 7, 8, 9, 10, 11, 12, 13, 14, 15, 16, 17, 18, 19, 20, 21, 22], [0, 1, 2, 3, 4, 5, 6, 7, 8, 9, 10, 11, 12, 13, 14, 15, 16, 17, 18, 19, 20, 21, 22, 23], [0, 1, 2, 3, 4, 5, 6, 7, 8, 9, 10, 11, 12, 13, 14, 15, 16, 17, 18, 19, 20, 21, 22, 23], [0, 1, 2, 3, 4, 5, 6, 7, 8, 9, 10, 11, 12, 13, 14, 15, 16, 17, 18, 19, 20, 21, 22, 23, 24, 25], [0, 1, 2, 3, 4, 5, 6, 7, 8, 9, 10, 11, 12, 13, 14, 15, 16, 17, 18, 19, 20, 21, 22, 23, 24, 25, 26], [0, 1, 2, 3, 4, 5, 6, 7, 8, 9, 10, 11, 12, 13, 14, 15, 16, 17, 18, 19, 20, 21, 22, 23, 24, 25, 26, 27], [0, 1, 2, 3, 4, 5, 6, 7, 8, 9, 10, 11, 12, 13, 14, 15, 16, 17, 18, 19, 20, 21, 22, 23, 24, 25, 26, 27, 28], [0, 1, 2, 3, 4, 5, 6, 7, 8, 9, 10, 11, 12, 13, 14, 15, 16, 17, 18, 19, 20, 21, 22, 23, 24, 25, 26, 27, 28, 29], [0, 1, 2, 3, 4, 5, 6, 7, 8, 9, 10, 11, 12, 13, 14, 15, 16, 17, 18, 19, 20, 21, 22, 23, 24, 25, 26, 27, 28, 29, 30], [0, 1, 2, 3, 4, 5, 6, 7, 8, 9, 10, 11, 12, 13, 14, 15, 16, 17, 18, 19, 20, 21, 22, 23, 24, 25, 26, 27, 28, 29, 30, 31], [0, 1, 2, 3, 4, 5, 6, 7, 8, 9, 10, 11, 12, 13, 14, 15, 16, 17, 18, 19, 20, 21, 22, 23, 24, 25, 26, 27, 28, 29, 30, 31, 32], [0, 1, 2, 3, 4, 5, 6, 7, 8, 9, 10, 11, 12, 13, 14, 15, 16, 17, 18, 19, 20, 21, 22, 23, 24, 25, 26, 27, 28, 29, 30, 31, 32, 33], [0, 1, 2, 3, 4, 5, 6, 7, 8, 9, 10, 11, 12, 13, 14, 15, 16, 17, 18, 19, 20, 21, 22, 23, 24, 25, 26, 27, 28, 29, 30, 31, 32, 33, 34], [0, 1, 2, 3, 4, 5, 6, 7, 8, 9, 10, 11, 12, 13, 14, 15, 16, 17, 18, 19, 20, 21, 22, 23, 24, 25, 26, 27, 28, 29, 30, 31, 32, 33, 34], [0, 1, 2, 3, 4, 5, 6, 7, 8, 9, 10, 11, 12, 13, 14, 15, 16, 17, 18, 19, 20, 21, 22, 23, 24, 25, 26, 27, 28, 29, 30, 31, 32, 33, 34, 36], [0, 1, 2, 3, 4, 5, 6, 7, 8, 9, 10, 11, 12, 13, 14, 15, 16, 17, 18, 19, 20, 21, 22, 23, 24, 25, 26, 27, 28, 29, 30, 31, 32, 33, 34, 35, 36, 37], [0, 1, 2, 3, 4, 5, 6, 7, 8, 9, 10, 11, 12, 13, 14, 15, 16, 17, 18, 19, 20, 21, 22, 23, 24, 25, 26, 27, 28, 29, 30, 31, 32, 33, 34, 35, 36, 37, 38], [0, 1, 2, 3, 4, 5, 6, 7, 8, 9, 10, 11, 12, 13, 14, 15, 16, 17, 18, 19, 20, 21, 22, 23, 24, 25, 26, 27, 28, 29, 30, 31, 32, 33, 34, 35, 36, 37, 38, 39], [0, 1, 2, 3, 4, 5, 6, 7, 8, 9, 10, 11, 12, 13, 14, 15, 16, 17, 18, 19, 20, 21, 22, 23, 24, 25, 26, 27, 28, 29, 30, 31, 32, 33, 34], [0, 1, 2, 3, 4, 5, 6, 7, 8, 9, 10, 11, 12, 13, 14, 15, 16, 17, 18, 19, 20, 21, 22, 23, 24, 25, 26, 27, 28, 29, 30, 31, 32, 33, 34], [0, 1, 2, 3, 4, 5, 6, 7, 8, 9, 10, 11, 12, 13, 14, 15, 16, 17, 18, 19, 20, 21, 22, 23, 24, 25, 26, 27, 28, 29, 30, 31, 32, 33, 34, 41, 42], [0, 1, 2, 3, 4, 5, 6, 7, 8, 9, 10, 11, 12, 13, 14, 15, 16, 17, 18, 19, 20, 21, 22, 23, 24, 25, 26, 27, 28, 29, 30, 31, 32, 33, 34, 41, 42, 43], [0, 1, 2, 3, 4, 5, 6, 7, 8, 9, 10, 11, 12, 13, 14, 15, 16, 17, 18, 19, 20, 21, 22, 23, 24, 25, 26, 27, 28, 29, 30, 31, 32, 33, 34, 41, 42, 43, 44], [0, 1, 2, 3, 4, 5, 6, 7, 8, 9, 10, 11, 12, 13, 14, 15, 16, 17, 18, 19, 20, 21, 22, 23, 24, 25, 26, 27, 28, 29, 30, 31, 32, 33, 34, 35, 36, 37, 38, 39, 40, 41, 42, 43, 44, 45], [0, 1, 2, 3, 4, 5, 6, 7, 8, 9, 10, 11, 12, 13, 14, 15, 16, 17, 18, 19, 20, 21, 22, 23, 24, 25, 26, 27, 28, 29, 30, 31, 32, 33, 34, 35, 36, 37, 38, 39, 40, 41, 42, 43, 44, 45, 46], [0, 1, 2, 3, 4, 5, 6, 7, 8, 9, 10, 11, 12, 13, 14, 15, 16, 17, 18, 19, 20, 21, 22, 23, 24, 25, 26, 27, 28, 29, 30, 31, 32, 33, 34, 35, 36, 37, 38, 39, 40, 41, 42, 43, 44, 45, 46, 47], [0, 1, 2, 3, 4, 5, 6, 7, 8, 9, 10, 11, 12, 13, 14, 15, 16, 17, 18, 19, 20, 21, 22, 23, 24, 25, 26, 27, 28, 29, 30, 31, 32, 33, 34, 35, 36, 37, 38, 39, 40, 41, 42, 43, 44, 45, 46, 47, 48]] (by kernel_rfl) [10, 11, 12, 13, 14, 15, 16, 17, 18, 19, 20, 21, 22, 23, 24, 25, 26, 27, 28, 29, 30, 31, 32, 33, 34, 35, 36, 37, 38, 39, 40, 41, 42, 43, 44, 45, 46, 47, 48, 49, 50, 51, 52, 53, 54, 55, 56, 57, 58, 59] [[], [], [0, 1], [2], [3], [4], [5], [6], [7], [7], [7, 8, 9], [7, 10], [7, 11], [7, 12], [7, 13], [14], [15], [15], [15, 16, 17], [15, 18], [15, 19], [15, 20], [15, 21], [22], [23], [23], [23, 24, 25], [23, 26], [23, 27], [23, 28], [23, 29], [30], [31], [31], [31], [34], [34], [34], [34], [34], [34], [34], [34], [34], [34], [34], [34], [34], [31], [31]] [0, 0, 0, 0, 0, 0, 0, 0, 0, 0, 0, 0, 0, 0, 0, 0, 0, 0, 0, 0, 0, 0, 0, 0, 0, 0, 0, 0, 0, 0, 0, 0, 0, 0, 0, 0, 0, 0, 0, 0, 0, 0, 0, 0, 0, 0, 0, 0, 0, 0] [0, 0, 0, 0, 0, 0, 0, 0, 0, 0, 0, 0, 0, 0, 0, 0, 0, 0, 0, 0, 0, 0, 0, 0, 0, 0, 0, 0, 0, 0, 0, 0, 0, 0, 0, 0, 0, 0, 0, 0, 0, 0, 0, 0, 0, 0, 0, 0, 0, 0] [1000, 1000, 1000, 1000, 1000, 1000, 1000, 1000, 1000, 1000, 1000, 1000, 1000, 1000, 1000, 1000, 1000, 1000, 1000, 1000, 1000, 1000, 1000, 1000, 1000, 1000, 1000, 1000, 1000, 1000, 1000, 1000, 1000, 1000, 1000, 1000, 1000, 1000, 1000, 1000, 1000, 1000, 1000, 1000, 1000, 1000, 1000, 1000, 1000, 1000] [.val 10 (.slice (some ⟨bb, off, none⟩) n c), .val 11 (.int .i64 (k : Int)), .val 12 (.pointer (some ⟨bb, off + k * 3, none⟩)), .val 13 (.pointer (some ⟨bb, off + k * 3, none⟩)), .val 14 (.agg #[.string (mkB y1), .string (mkB y2)]), .val 15 (.bool true), .val 16 (.bool false), .val 17 (.bool false), .val 18 (.slice (some ⟨bb, off, none⟩) n c), .val 19 (.int .i64 (k : Int)), .val 20 (.pointer (some ⟨bb, off + k * 3, none⟩)), .val 21 (.pointer (some ⟨bb, off + k * 3 + 2, none⟩)), .val 22 (.int .i64 z), .val 23 (.bool false), .val 24 (.bool false), .val 25 (.bool false), .val 26 (.slice (some ⟨bb, off, none⟩) n c), .val 27 (.int .i64 (k : Int)), .val 28 (.pointer (some ⟨bb, off + k * 3, none⟩)), .val 29 (.pointer (some ⟨bb, off + k * 3 + 2, none⟩)), .val 30 (.int .i64 z), .val 31 (.bool false), .val 32 (.bool false), .val 33 (.bool false), .val 34 (.slice (some ⟨bb, off, none⟩) n c), .val 35 (.int .i64 (k : Int)), .val 36 (.pointer (some ⟨bb, off + k * 3, none⟩)), .val 37 (.pointer (some ⟨bb, off + k * 3 + 2, none⟩)), .val 38 (.int .i64 z), .val 39 (.bool true), .val 40 (.bool true), .val 41 (.bool true), .val 42 undef, .val 43 undef, .val 44 undef, .val 45 undef, .val 46 undef, .val 47 undef, .val 48 undef, .val 49 undef, .val 50 undef, .val 51 undef, .val 52 undef, .val 53 undef, .val 54 undef, .val 55 undef, .val 56 undef, .val 57 undef, .val 58 undef, .val 59 (.bool true)] (by kernel_rfl) ?_ (wr.heap.size) (wr.heap.size) rfl (Below.refl _ _) rfl (fun _ => 0) ?_ ?_ ?_
              · intro j hj
                have hj3 : j < 50 := hj
                have hj2 : j = 0 ∨ j = 1 ∨ j = 2 ∨ j = 3 ∨ j = 4 ∨ j = 5 ∨ j = 6 ∨ j = 7 ∨ j = 8 ∨ j = 9 ∨ j = 10 ∨ j = 11 ∨ j = 12 ∨ j = 13 ∨ j = 14 ∨ j = 15 ∨ j = 16 ∨ j = 17 ∨ j = 18 ∨ j = 19 ∨ j = 20 ∨ j = 21 ∨ j = 22 ∨ j = 23 ∨ j = 24 ∨ j = 25 ∨ j = 26 ∨ j = 27 ∨ j = 28 ∨ j = 29 ∨ j = 30 ∨ j = 31 ∨ j = 32 ∨ j = 33 ∨ j = 34 ∨ j = 35 ∨ j = 36 ∨ j = 37 ∨ j = 38 ∨ j = 39 ∨ j = 40 ∨ j = 41 ∨ j = 42 ∨ j = 43 ∨ j = 44 ∨ j = 45 ∨ j = 46 ∨ j = 47 ∨ j = 48 ∨ j = 49 := by omega
                clear hj hj3
                rcases hj2 with rfl | rfl | rfl | rfl | rfl | rfl | rfl | rfl | rfl | rfl | rfl | rfl | rfl | rfl | rfl | rfl | rfl | rfl | rfl | rfl | rfl | rfl | rfl | rfl | rfl | rfl | rfl | rfl | rfl | rfl | rfl | rfl | rfl | rfl | rfl | rfl | rfl | rfl | rfl | rfl | rfl | rfl | rfl | rfl | rfl | rfl | rfl | rfl | rfl | rfl
                · exact trivial
                · exact trivial
                · exact trivial
                · exact trivial
                · exact trivial
                · exact trivial
                · exact trivial
                · exact trivial
                · exact trivial
                · exact trivial
                · exact trivial
                · exact trivial
                · exact trivial
                · exact trivial
                · exact trivial
                · exact trivial
                · exact trivial
                · exact trivial
                · exact trivial
                · exact trivial
                · exact trivial
                · exact trivial
                · exact trivial
                · exact trivial
                · exact trivial
                · exact trivial
                · exact trivial
                · exact trivial
                · exact trivial
                · exact trivial
                · exact trivial
                · exact trivial
                · exact trivial
                · exact trivial
                · exact trivial
                · exact trivial
                · exact trivial
                · exact trivial
                · exact trivial
                · exact trivial
                · exact trivial
                · exact trivial
                · exact trivial
                · exact trivial
                · exact trivial
                · exact trivial
                · exact trivial
                · exact trivial
                · exact trivial
                · exact trivial
              · intro j hj0 hj
                exact absurd hj (Nat.not_lt.2 hj0)
              · intro i hi a wx who hG hF
                have hz : a.tmps.size = 60 := hG.size
                have hi3 : i < 50 := hi
                have hi2 : i = 0 ∨ i = 1 ∨ i = 2 ∨ i = 3 ∨ i = 4 ∨ i = 5 ∨ i = 6 ∨ i = 7 ∨ i = 8 ∨ i = 9 ∨ i = 10 ∨ i = 11 ∨ i = 12 ∨ i = 13 ∨ i = 14 ∨ i = 15 ∨ i = 16 ∨ i = 17 ∨ i = 18 ∨ i = 19 ∨ i = 20 ∨ i = 21 ∨ i = 22 ∨ i = 23 ∨ i = 24 ∨ i = 25 ∨ i = 26 ∨ i = 27 ∨ i = 28 ∨ i = 29 ∨ i = 30 ∨ i = 31 ∨ i = 32 ∨ i = 33 ∨ i = 34 ∨ i = 35 ∨ i = 36 ∨ i = 37 ∨ i = 38 ∨ i = 39 ∨ i = 40 ∨ i = 41 ∨ i = 42 ∨ i = 43 ∨ i = 44 ∨ i = 45 ∨ i = 46 ∨ i = 47 ∨ i = 48 ∨ i = 49 := by omega
                clear hi hi3
                rcases hi2 with rfl | rfl | rfl | rfl | rfl | rfl | rfl | rfl | rfl | rfl | rfl | rfl | rfl | rfl | rfl | rfl | rfl | rfl | rfl | rfl | rfl | rfl | rfl | rfl | rfl | rfl | rfl | rfl | rfl | rfl | rfl | rfl | rfl | rfl | rfl | rfl | rfl | rfl | rfl | rfl | rfl | rfl | rfl | rfl | rfl | rfl | rfl | rfl | rfl | rfl
                · exact rol_val rfl rfl rfl (by rw [hz]; decide) (ex_move (Or.inl rfl) (eval_slot ((hG.slots 0 (by decide)).trans rfl))) hG.below
                · exact rol_val rfl rfl rfl (by rw [hz]; decide) (ex_move (Or.inl rfl) (eval_slot ((hG.slots 3 (by decide)).trans rfl))) hG.below
                · exact rol_val rfl rfl rfl (by rw [hz]; decide) (ex_index rfl (eval_slot (hF 0 (by decide))) (eval_slot (hF 1 (by decide))) (idx_df HLT.out)) hG.below
                · exact rol_val rfl rfl rfl (by rw [hz]; decide) (ex_field rfl (eval_slot (hF 2 (by decide))) fld_df) hG.below
                · exact rol_val rfl rfl rfl (by rw [hz]; decide) (ex_load rfl (eval_slot (hF 3 (by decide))) (ld_node (cell_keep cw0 hG.below) (cell_keep cw1 hG.below))) hG.below
                · refine rol_call rfl rfl rfl (by rw [hz]; decide) (ex_call rfl (by simp [eval_slot (hF 4 (by decide))]) e1) (KO.out wx) ?_ hG.below hG.new
                  rintro e w1 ⟨rfl, hb1⟩
                  exact ⟨_, rfl, hb1, .inl rfl⟩
                · exact rol_val rfl rfl rfl (by rw [hz]; decide) (ex_un rfl (eval_slot (hF 5 (by decide))) rfl) hG.below
                · exact rol_val rfl rfl rfl (by rw [hz]; decide) (ex_move (Or.inl rfl) (eval_slot (hF 6 (by decide)))) hG.below
                · exact rol_val rfl (want_yes rfl rfl (hF 7 (by decide))) rfl (by rw [hz]; decide) (ex_move (Or.inl rfl) (eval_slot ((hG.slots 0 (by decide)).trans rfl))) hG.below
                · exact rol_val rfl (want_yes rfl rfl (hF 7 (by decide))) rfl (by rw [hz]; decide) (ex_move (Or.inl rfl) (eval_slot ((hG.slots 3 (by decide)).trans rfl))) hG.below
                · exact rol_val rfl (want_yes rfl rfl (hF 7 (by decide))) rfl (by rw [hz]; decide) (ex_index rfl (eval_slot (hF 8 (by decide))) (eval_slot (hF 9 (by decide))) (idx_df HLT.out)) hG.below
                · exact rol_val rfl (want_yes rfl rfl (hF 7 (by decide))) rfl (by rw [hz]; decide) (ex_field rfl (eval_slot (hF 10 (by decide))) fld2_df) hG.below
                · exact rol_val rfl (want_yes rfl rfl (hF 7 (by decide))) rfl (by rw [hz]; decide) (ex_load rfl (eval_slot (hF 11 (by decide))) (ld_num (cell_keep cw2 hG.below))) hG.below
                · exact rol_val rfl (want_yes rfl rfl (hF 7 (by decide))) rfl (by rw [hz]; decide) (ex_bin rfl (eval_slot (hF 12 (by decide))) rfl (by go_simp) (bin_eqz HE.out)) hG.below
                · exact rol_val rfl rfl rfl (by rw [hz]; decide) (ex_pick_no rfl (eval_slot (hF 7 (by decide))) (eval_slot (hF 13 (by decide)))) hG.below
                · exact rol_val rfl rfl rfl (by rw [hz]; decide) (ex_move (Or.inl rfl) (eval_slot (hF 14 (by decide)))) hG.below
                · exact rol_val rfl (want_yes rfl rfl (hF 15 (by decide))) rfl (by rw [hz]; decide) (ex_move (Or.inl rfl) (eval_slot ((hG.slots 0 (by decide)).trans rfl))) hG.below
                · exact rol_val rfl (want_yes rfl rfl (hF 15 (by decide))) rfl (by rw [hz]; decide) (ex_move (Or.inl rfl) (eval_slot ((hG.slots 3 (by decide)).trans rfl))) hG.below
                · exact rol_val rfl (want_yes rfl rfl (hF 15 (by decide))) rfl (by rw [hz]; decide) (ex_index rfl (eval_slot (hF 16 (by decide))) (eval_slot (hF 17 (by decide))) (idx_df HLT.out)) hG.below
                · exact rol_val rfl (want_yes rfl rfl (hF 15 (by decide))) rfl (by rw [hz]; decide) (ex_field rfl (eval_slot (hF 18 (by decide))) fld2_df) hG.below
                · exact rol_val rfl (want_yes rfl rfl (hF 15 (by decide))) rfl (by rw [hz]; decide) (ex_load rfl (eval_slot (hF 19 (by decide))) (ld_num (cell_keep cw2 hG.below))) hG.below
                · exact rol_val rfl (want_yes rfl rfl (hF 15 (by decide))) rfl (by rw [hz]; decide) (ex_bin rfl (eval_slot (hF 20 (by decide))) rfl (by go_simp) (bin_gtt HGT.out)) hG.below
                · exact rol_val rfl rfl rfl (by rw [hz]; decide) (ex_pick_no rfl (eval_slot (hF 15 (by decide))) (eval_slot (hF 21 (by decide)))) hG.below
                · exact rol_val rfl rfl rfl (by rw [hz]; decide) (ex_move (Or.inl rfl) (eval_slot (hF 22 (by decide)))) hG.below
                · exact rol_val rfl (want_yes rfl rfl (hF 23 (by decide))) rfl (by rw [hz]; decide) (ex_move (Or.inl rfl) (eval_slot ((hG.slots 0 (by decide)).trans rfl))) hG.below
                · exact rol_val rfl (want_yes rfl rfl (hF 23 (by decide))) rfl (by rw [hz]; decide) (ex_move (Or.inl rfl) (eval_slot ((hG.slots 3 (by decide)).trans rfl))) hG.below
                · exact rol_val rfl (want_yes rfl rfl (hF 23 (by decide))) rfl (by rw [hz]; decide) (ex_index rfl (eval_slot (hF 24 (by decide))) (eval_slot (hF 25 (by decide))) (idx_df HLT.out)) hG.below
                · exact rol_val rfl (want_yes rfl rfl (hF 23 (by decide))) rfl (by rw [hz]; decide) (ex_field rfl (eval_slot (hF 26 (by decide))) fld2_df) hG.below
                · exact rol_val rfl (want_yes rfl rfl (hF 23 (by decide))) rfl (by rw [hz]; decide) (ex_load rfl (eval_slot (hF 27 (by decide))) (ld_num (cell_keep cw2 hG.below))) hG.below
                · exact rol_val rfl (want_yes rfl rfl (hF 23 (by decide))) rfl (by rw [hz]; decide) (ex_bin rfl (eval_slot (hF 28 (by decide))) rfl (by go_simp) (bin_lsb HLS.out)) hG.below
                · exact rol_val rfl rfl rfl (by rw [hz]; decide) (ex_pick_no rfl (eval_slot (hF 23 (by decide))) (eval_slot (hF 29 (by decide)))) hG.below
                · exact rol_val rfl rfl rfl (by rw [hz]; decide) (ex_move (Or.inl rfl) (eval_slot (hF 30 (by decide)))) hG.below
                · exact rol_val_skip rfl (want_no rfl rfl (hF 31 (by decide)) (by decide)) rfl (by rw [hz]; decide) hG.below
                · exact rol_val_skip rfl (want_no rfl rfl (hF 31 (by decide)) (by decide)) rfl (by rw [hz]; decide) hG.below
                · exact rol_val_skip rfl (want_no rfl rfl (hF 31 (by decide)) (by decide)) rfl (by rw [hz]; decide) hG.below
                · exact rol_val_skip rfl (want_undef rfl rfl (hF 34 (by decide))) rfl (by rw [hz]; decide) hG.below
                · exact rol_val_skip rfl (want_undef rfl rfl (hF 34 (by decide))) rfl (by rw [hz]; decide) hG.below
                · exact rol_val_skip rfl (want_undef rfl rfl (hF 34 (by decide))) rfl (by rw [hz]; decide) hG.below
                · exact rol_val_skip rfl (want_undef rfl rfl (hF 34 (by decide))) rfl (by rw [hz]; decide) hG.below
                · exact rol_val_skip rfl (want_undef rfl rfl (hF 34 (by decide))) rfl (by rw [hz]; decide) hG.below
                · exact rol_val_skip rfl (want_undef rfl rfl (hF 34 (by decide))) rfl (by rw [hz]; decide) hG.below
                · exact rol_val_skip rfl (want_undef rfl rfl (hF 34 (by decide))) rfl (by rw [hz]; decide) hG.below
                · exact rol_val_skip rfl (want_undef rfl rfl (hF 34 (by decide))) rfl (by rw [hz]; decide) hG.below
                · exact rol_val_skip rfl (want_undef rfl rfl (hF 34 (by decide))) rfl (by rw [hz]; decide) hG.below
                · exact rol_val_skip rfl (want_undef rfl rfl (hF 34 (by decide))) rfl (by rw [hz]; decide) hG.below
                · exact rol_val_skip rfl (want_undef rfl rfl (hF 34 (by decide))) rfl (by rw [hz]; decide) hG.below
                · exact rol_val_skip rfl (want_undef rfl rfl (hF 34 (by decide))) rfl (by rw [hz]; decide) hG.below
                · exact rol_val_skip rfl (want_undef rfl rfl (hF 34 (by decide))) rfl (by rw [hz]; decide) hG.below
                · exact rol_val_skip rfl (want_no rfl rfl (hF 31 (by decide)) (by decide)) rfl (by rw [hz]; decide) hG.below
                · exact rol_val rfl rfl rfl (by rw [hz]; decide) (ex_pick_yes rfl (eval_slot (hF 31 (by decide))) rfl) hG.below
              · intro a wx who hG hF
                have fv59 : a.tmps.getD 59 undef = .bool true := eval_slot (s := 59) (hF 49 (of_decide_eq_true (by kernel_rfl)) (of_decide_eq_true (by kernel_rfl)))
                have hbx := hG.below
                have hnx := hG.new
                rw [hG.frame]
                simp only [List.foldl_cons, List.foldl_nil, List.setIfInBounds_toArray, List.set_cons_zero, List.set_cons_succ]
                generalize a.tmps.getD 10 undef = u10
                generalize a.tmps.getD 11 undef = u11
                generalize a.tmps.getD 12 undef = u12
                generalize a.tmps.getD 13 undef = u13
                generalize a.tmps.getD 14 undef = u14
                generalize a.tmps.getD 15 undef = u15
                generalize a.tmps.getD 16 undef = u16
                generalize a.tmps.getD 17 undef = u17
                generalize a.tmps.getD 18 undef = u18
                generalize a.tmps.getD 19 undef = u19
                generalize a.tmps.getD 20 undef = u20
                generalize a.tmps.getD 21 undef = u21
                generalize a.tmps.getD 22 undef = u22
                generalize a.tmps.getD 23 undef = u23
                generalize a.tmps.getD 24 undef = u24
                generalize a.tmps.getD 25 undef = u25
                generalize a.tmps.getD 26 undef = u26
                generalize a.tmps.getD 27 undef = u27
                generalize a.tmps.getD 28 undef = u28
                generalize a.tmps.getD 29 undef = u29
                generalize a.tmps.getD 30 undef = u30
                generalize a.tmps.getD 31 undef = u31
                generalize a.tmps.getD 32 undef = u32
                generalize a.tmps.getD 33 undef = u33
                generalize a.tmps.getD 34 undef = u34
                generalize a.tmps.getD 35 undef = u35
                generalize a.tmps.getD 36 undef = u36
                generalize a.tmps.getD 37 undef = u37
                generalize a.tmps.getD 38 undef = u38
                generalize a.tmps.getD 39 undef = u39
                generalize a.tmps.getD 40 undef = u40
                generalize a.tmps.getD 41 undef = u41
                generalize a.tmps.getD 42 undef = u42
                generalize a.tmps.getD 43 undef = u43
                generalize a.tmps.getD 44 undef = u44
                generalize a.tmps.getD 45 undef = u45
                generalize a.tmps.getD 46 undef = u46
                generalize a.tmps.getD 47 undef = u47
                generalize a.tmps.getD 48 undef = u48
                generalize a.tmps.getD 49 undef = u49
                generalize a.tmps.getD 50 undef = u50
                generalize a.tmps.getD 51 undef = u51
                generalize a.tmps.getD 52 undef = u52
                generalize a.tmps.getD 53 undef = u53
                generalize a.tmps.getD 54 undef = u54
                generalize a.tmps.getD 55 undef = u55
                generalize a.tmps.getD 56 undef = u56
                generalize a.tmps.getD 57 undef = u57
                generalize a.tmps.getD 58 undef = u58
                rw [fv59]
                clear hF hG fv59
                go_wp2
                go_ret
                exact ⟨by rw [HNO.out HQ.out]; rfl, below_step HB.out hbx⟩
            · have HLS : Hid (decide (z < -1099511627776) = false) := Lib.hid (decide_eq_false t2)
              have HIN : Hid (inD z = true) := Lib.hid (by rw [inD_iff]; omega)
              clear t1 t2
              by_cases hk0 : k = 0
              · have HP : Hid (decide (0 < k) = false) := Lib.hid (decide_eq_false (by omega))
                have H5 : Hid (∀ j, j < k + 1 → stepD l j = true) := Lib.hid fun j hj => by
                  have e : j = k := by omega
                  subst e
                  rw [HST.out, HZ.out, HIN.out, decide_eq_true hk0]; rfl
                clear hk0
                go_upto_region 4 with fail
                refine rol_run (by kernel_rfl) [[], [], [0, 1], [0, 1, 2], [0, 1, 2, 3], [0, 1, 2, 3, 4], [0, 1, 2, 3, 4, 5], [0, 1, 2, 3, 4, 5, 6], [0, 1, 2, 3, 4, 5, 6, 7], [0, 1, 2, 3, 4, 5, 6, 7], [0, 1, 2, 3, 4, 5, 6, 7, 8, 9], [0, 1, 2, 3, 4, 5, 6, 7, 8, 9, 10], [0, 1, 2, 3, 4, 5, 6, 7, 8, 9, 10, 11], [0, 1, 2, 3, 4, 5, 6, 7, 8, 9, 10, 11, 12], [0, 1, 2, 3, 4, 5, 6, 7, 8, 9, 10, 11, 12, 13], [0, 1, 2, 3, 4, 5, 6, 7, 8, 9, 10, 11, 12, 13, 14], [0, 1, 2, 3, 4, 5, 6, 7, 8, 9, 10, 11, 12, 13, 14, 15], [0, 1, 2, 3, 4, 5, 6, 7, 8, 9, 10, 11, 12, 13, 14, 15], [0, 1, 2, 3, 4, 5, 6, 7, 8, 9, 10, 11, 12, 13, 14, 15, 16, 17], [0, 1, 2, 3, 4, 5, 6, 7, 8, 9, 10, 11, 12, 13, 14, 15, 16, 17, 18], [0, 1, 2, 3, 4, 5, 6, 7, 8, 9, 10, 11, 12, 13, 14, 15, 16, 17, 18, 19], [0, 1, 2, 3, 4, 5, 6, 7, 8, 9, 10, 11, 12, 13, 14, 15, 16, 17, 18, 19, 20], [0, 1, 2, 3, 4, 5, 6, 7, 8, 9, 10, 11, 12, 13, 14, 15, 16, 17, 18, 19, 20, 21], [0, 1, 2, 3, 4, 5, 6, 7, 8, 9, 10, 11, 12, 13, 14, 15, 16, 17, 18, 19, 20, 21, 22], [0, 1, 2, 3, 4, 5, 6, 7, 8, 9, 10, 11, 12, 13, 14, 15, 16, 17, 18, 19, 20, 21, 22, 23], [0, 1, 2, 3, 4, 5, 6, 7, 8, 9, 10, 11, 12, 13, 14, 15, 16, 17, 18, 19, 20, 21, 22, 23], [0, 1, 2, 3, 4, 5, 6, 7, 8, 9, 10, 11, 12, 13, 14, 15, 16, 17, 18, 19, 20, 21, 22, 23, 24, 25], [0, 1, 2, 3, 4, 5, 6, 7, 8, 9, 10, 11, 12, 13, 14, 15, 16, 17, 18, 19, 20, 21, 22, 23, 24, 25, 26], [0, 1, 2, 3, 4, 5, 6, 7, 8, 9, 10, 11, 12, 13, 14, 15, 16, 17, 18, 19, 20, 21, 22, 23, 24, 25, 26, 27], [0, 1, 2, 3, 4, 5, 6, 7, 8, 9, 10, 11, 12, 13, 14, 15, 16, 17, 18, 19, 20, 21, 22, 23, 24, 25, 26, 27, 28], [0, 1, 2, 3, 4, 5, 6, 7, 8, 9, 10, 11, 12, 13, 14, 15, 16, 17, 18, 19, 20, 21, 22, 23, 24, 25, 26, 27, 28, 29], [0, 1, 2, 3, 4, 5, 6, 7, 8, 9, 10, 11, 12, 13, 14, 15, 16, 17, 18, 19, 20, 21, 22, 23, 24, 25, 26, 27, 28, 29, 30], [0, 1, 2, 3, 4, 5, 6, 7, 8, 9, 10, 11, 12, 13, 14, 15, 16, 17, 18, 19, 20, 21, 22, 23, 24, 25, 26, 27, 28, 29, 30, 31], [0, 1, 2, 3, 4, 5, 6, 7, 8, 9, 10, 11, 12, 13, 14, 15, 16, 17, 18, 19, 20, 21, 22, 23, 24, 25, 26, 27, 28, 29, 30, 31, 32], [0, 1, 2, 3, 4, 5, 6, 7, 8, 9, 10, 11, 12, 13, 14, 15, 16, 17, 18, 19, 20, 21, 22, 23, 24, 25, 26, 27, 28, 29, 30, 31, 32, 33], [0, 1, 2, 3, 4, 5, 6, 7, 8, 9, 10, 11, 12, 13, 14, 15, 16, 17, 18, 19, 20, 21, 22, 23, 24, 25, 26, 27, 28, 29, 30, 31, 32, 33, 34], [0, 1, 2, 3, 4, 5, 6, 7, 8, 9, 10, 11, 12, 13, 14, 15, 16, 17, 18, 19, 20, 21, 22, 23, 24, 25, 26, 27, 28, 29, 30, 31, 32, 33, 34], [0, 1, 2, 3, 4, 5, 6, 7, 8, 9, 10, 11, 12, 13, 14, 15, 16, 17, 18, 19, 20, 21, 22, 23, 24, 25, 26, 27, 28, 29, 30, 31, 32, 33, 34, 36], [0, 1, 2, 3, 4, 5, 6, 7, 8, 9, 10, 11, 12, 13, 14, 15, 16, 17, 18, 19, 20, 21, 22, 23, 24, 25, 26, 27, 28, 29, 30, 31, 32, 33, 34, 35, 36, 37], [0, 1, 2, 3, 4, 5, 6, 7, 8, 9, 10, 11, 12, 13, 14, 15, 16, 17, 18, 19, 20, 21, 22, 23, 24, 25, 26, 27, 28, 29, 30, 31, 32, 33, 34, 35, 36, 37, 38], [0, 1, 2, 3, 4, 5, 6, 7, 8, 9, 10, 11, 12, 13, 14, 15, 16, 17, 18, 19, 20, 21, 22, 23, 24, 25, 26, 27, 28, 29, 30, 31, 32, 33, 34, 35, 36, 37, 38, 39], [0, 1, 2, 3, 4, 5, 6, 7, 8, 9, 10, 11, 12, 13, 14, 15, 16, 17, 18, 19, 20, 21, 22, 23, 24, 25, 26, 27, 28, 29, 30, 31, 32, 33, 34], [0, 1, 2, 3, 4, 5, 6, 7, 8, 9, 10, 11, 12, 13, 14, 15, 16, 17, 18, 19, 20, 21, 22, 23, 24, 25, 26, 27, 28, 29, 30, 31, 32, 33, 34], [0, 1, 2, 3, 4, 5, 6, 7, 8, 9, 10, 11, 12, 13, 14, 15, 16, 17, 18, 19, 20, 21, 22, 23, 24, 25, 26, 27, 28, 29, 30, 31, 32, 33, 34, 41, 42], [0, 1, 2, 3, 4, 5, 6, 7, 8, 9, 10, 11, 12, 13, 14, 15, 16, 17, 18, 19, 20, 21, 22, 23, 24, 25, 26, 27, 28, 29, 30, 31, 32, 33, 34, 41, 42, 43], [0, 1, 2, 3, 4, 5, 6, 7, 8, 9, 10, 11, 12, 13, 14, 15, 16, 17, 18, 19, 20, 21, 22, 23, 24, 25, 26, 27, 28, 29, 30, 31, 32, 33, 34, 41, 42, 43, 44], [0, 1, 2, 3, 4, 5, 6, 7, 8, 9, 10, 11, 12, 13, 14, 15, 16, 17, 18, 19, 20, 21, 22, 23, 24, 25, 26, 27, 28, 29, 30, 31, 32, 33, 34, 35, 36, 37, 38, 39, 40, 41, 42, 43, 44, 45], [0, 1, 2, 3, 4, 5, 6, 7, 8, 9, 10, 11, 12, 13, 14, 15, 16, 17, 18, 19, 20, 21, 22, 23, 24, 25, 26, 27, 28, 29, 30, 31, 32, 33, 34, 35, 36, 37, 38, 39, 40, 41, 42, 43, 44, 45, 46], [0, 1, 2, 3, 4, 5, 6, 7, 8, 9, 10, 11, 12, 13, 14, 15, 16, 17, 18, 19, 20, 21, 22, 23, 24, 25, 26, 27, 28, 29, 30, 31, 32, 33, 34, 35, 36, 37, 38, 39, 40, 41, 42, 43, 44, 45, 46, 47], [0, 1, 2, 3, 4, 5, 6, 7, 8, 9, 10, 11, 12, 13, 14, 15, 16, 17, 18, 19, 20, 21, 22, 23, 24, 25, 26, 27, 28, 29, 30, 31, 32, 33, 34, 35, 36, 37, 38, 39, 40, 41, 42, 43, 44, 45, 46, 47, 48]] (by kernel_rfl) [10, 11, 12, 13, 14, 15, 16, 17, 18, 19, 20, 21, 22, 23, 24, 25, 26, 27, 28, 29, 30, 31, 32, 33, 34, 35, 36, 37, 38, 39, 40, 41, 42, 43, 44, 45, 46, 47, 48, 49, 50, 51, 52, 53, 54, 55, 56, 57, 58, 59] [[], [], [0, 1], [2], [3], [4], [5], [6], [7], [7], [7, 8, 9], [7, 10], [7, 11], [7, 12], [7, 13], [14], [15], [15], [15, 16, 17], [15, 18], [15, 19], [15, 20], [15, 21], [22], [23], [23], [23, 24, 25], [23, 26], [23, 27], [23, 28], [23, 29], [30], [31], [31, 32], [31, 33], [34], [34], [34], [34], [34], [34], [34], [34], [34], [34], [34], [34], [34], [31, 34], [31, 48]] [0, 0, 0, 0, 0, 0, 0, 0, 0, 0, 0, 0, 0, 0, 0, 0, 0, 0, 0, 0, 0, 0, 0, 0, 0, 0, 0, 0, 0, 0, 0, 0, 0, 0, 0, 0, 0, 0, 0, 0, 0, 0, 0, 0, 0, 0, 0, 0, 0, 0] [0, 0, 0, 0, 0, 0, 0, 0, 0, 0, 0, 0, 0, 0, 0, 0, 0, 0, 0, 0, 0, 0, 0, 0, 0, 0, 0, 0, 0, 0, 0, 0, 0, 0, 0, 0, 0, 0, 0, 0, 0, 0, 0, 0, 0, 0, 0, 0, 0, 0] [1000, 1000, 1000, 1000, 1000, 1000, 1000, 1000, 1000, 1000, 1000, 1000, 1000, 1000, 1000, 1000, 1000, 1000, 1000, 1000, 1000, 1000, 1000, 1000, 1000, 1000, 1000, 1000, 1000, 1000, 1000, 1000, 1000, 1000, 1000, 1000, 1000, 1000, 1000, 1000, 1000, 1000, 1000, 1000, 1000, 1000, 1000, 1000, 1000, 1000] [.val 10 (.slice (some ⟨bb, off, none⟩) n c), .val 11 (.int .i64 (k : Int)), .val 12 (.pointer (some ⟨bb, off + k * 3, none⟩)), .val 13 (.pointer (some ⟨bb, off + k * 3, none⟩)), .val 14 (.agg #[.string (mkB y1), .string (mkB y2)]), .val 15 (.bool true), .val 16 (.bool false), .val 17 (.bool false), .val 18 (.slice (some ⟨bb, off, none⟩) n c), .val 19 (.int .i64 (k : Int)), .val 20 (.pointer (some ⟨bb, off + k * 3, none⟩)), .val 21 (.pointer (some ⟨bb, off + k * 3 + 2, none⟩)), .val 22 (.int .i64 z), .val 23 (.bool false), .val 24 (.bool false), .val 25 (.bool false), .val 26 (.slice (some ⟨bb, off, none⟩) n c), .val 27 (.int .i64 (k : Int)), .val 28 (.pointer (some ⟨bb, off + k * 3, none⟩)), .val 29 (.pointer (some ⟨bb, off + k * 3 + 2, none⟩)), .val 30 (.int .i64 z), .val 31 (.bool false), .val 32 (.bool false), .val 33 (.bool false), .val 34 (.slice (some ⟨bb, off, none⟩) n c), .val 35 (.int .i64 (k : Int)), .val 36 (.pointer (some ⟨bb, off + k * 3, none⟩)), .val 37 (.pointer (some ⟨bb, off + k * 3 + 2, none⟩)), .val 38 (.int .i64 z), .val 39 (.bool false), .val 40 (.bool false), .val 41 (.bool false), .val 42 (.int .i64 (k : Int)), .val 43 (.bool false), .val 44 (.bool false), .val 45 undef, .val 46 undef, .val 47 undef, .val 48 undef, .val 49 undef, .val 50 undef, .val 51 undef, .val 52 undef, .val 53 undef, .val 54 undef, .val 55 undef, .val 56 undef, .val 57 undef, .val 58 (.bool false), .val 59 (.bool false)] (by kernel_rfl) ?_ (wr.heap.size) (wr.heap.size) rfl (Below.refl _ _) rfl (fun _ => 0) ?_ ?_ ?_
                · intro j hj
                  have hj3 : j < 50 := hj
                  have hj2 : j = 0 ∨ j = 1 ∨ j = 2 ∨ j = 3 ∨ j = 4 ∨ j = 5 ∨ j = 6 ∨ j = 7 ∨ j = 8 ∨ j = 9 ∨ j = 10 ∨ j = 11 ∨ j = 12 ∨ j = 13 ∨ j = 14 ∨ j = 15 ∨ j = 16 ∨ j = 17 ∨ j = 18 ∨ j = 19 ∨ j = 20 ∨ j = 21 ∨ j = 22 ∨ j = 23 ∨ j = 24 ∨ j = 25 ∨ j = 26 ∨ j = 27 ∨ j = 28 ∨ j = 29 ∨ j = 30 ∨ j = 31 ∨ j = 32 ∨ j = 33 ∨ j = 34 ∨ j = 35 ∨ j = 36 ∨ j = 37 ∨ j = 38 ∨ j = 39 ∨ j = 40 ∨ j = 41 ∨ j = 42 ∨ j = 43 ∨ j = 44 ∨ j = 45 ∨ j = 46 ∨ j = 47 ∨ j = 48 ∨ j = 49 := by omega
                  clear hj hj3
                  rcases hj2 with rfl | rfl | rfl | rfl | rfl | rfl | rfl | rfl | rfl | rfl | rfl | rfl | rfl | rfl | rfl | rfl | rfl | rfl | rfl | rfl | rfl | rfl | rfl | rfl | rfl | rfl | rfl | rfl | rfl | rfl | rfl | rfl | rfl | rfl | rfl | rfl | rfl | rfl | rfl | rfl | rfl | rfl | rfl | rfl | rfl | rfl | rfl | rfl | rfl | rfl
                  · exact trivial
                  · exact trivial
                  · exact trivial
                  · exact trivial
                  · exact trivial
                  · exact trivial
                  · exact trivial
                  · exact trivial
                  · exact trivial
                  · exact trivial
                  · exact trivial
                  · exact trivial
                  · exact trivial
                  · exact trivial
                  · exact trivial
                  · exact trivial
                  · exact trivial
                  · exact trivial
                  · exact trivial
                  · exact trivial
                  · exact trivial
                  · exact trivial
                  · exact trivial
                  · exact trivial
                  · exact trivial
                  · exact trivial
                  · exact trivial
                  · exact trivial
                  · exact trivial
                  · exact trivial
                  · exact trivial
                  · exact trivial
                  · exact trivial
                  · exact trivial
                  · exact trivial
                  · exact trivial
                  · exact trivial
                  · exact trivial
                  · exact trivial
                  · exact trivial
                  · exact trivial
                  · exact trivial
                  · exact trivial
                  · exact trivial
                  · exact trivial
                  · exact trivial
                  · exact trivial
                  · exact trivial
                  · exact trivial
                  · exact trivial
                · intro j hj0 hj
                  exact absurd hj (Nat.not_lt.2 hj0)
                · intro i hi a wx who hG hF
                  have hz : a.tmps.size = 60 := hG.size
                  have hi3 : i < 50 := hi
                  have hi2 : i = 0 ∨ i = 1 ∨ i = 2 ∨ i = 3 ∨ i = 4 ∨ i = 5 ∨ i = 6 ∨ i = 7 ∨ i = 8 ∨ i = 9 ∨ i = 10 ∨ i = 11 ∨ i = 12 ∨ i = 13 ∨ i = 14 ∨ i = 15 ∨ i = 16 ∨ i = 17 ∨ i = 18 ∨ i = 19 ∨ i = 20 ∨ i = 21 ∨ i = 22 ∨ i = 23 ∨ i = 24 ∨ i = 25 ∨ i = 26 ∨ i = 27 ∨ i = 28 ∨ i = 29 ∨ i = 30 ∨ i = 31 ∨ i = 32 ∨ i = 33 ∨ i = 34 ∨ i = 35 ∨ i = 36 ∨ i = 37 ∨ i = 38 ∨ i = 39 ∨ i = 40 ∨ i = 41 ∨ i = 42 ∨ i = 43 ∨ i = 44 ∨ i = 45 ∨ i = 46 ∨ i = 47 ∨ i = 48 ∨ i = 49 := by omega
                  clear hi hi3
                  rcases hi2 with rfl | rfl | rfl | rfl | rfl | rfl | rfl | rfl | rfl | rfl | rfl | rfl | rfl | rfl | rfl | rfl | rfl | rfl | rfl | rfl | rfl | rfl | rfl | rfl | rfl | rfl | rfl | rfl | rfl | rfl | rfl | rfl | rfl | rfl | rfl | rfl | rfl | rfl | rfl | rfl | rfl | rfl | rfl | rfl | rfl | rfl | rfl | rfl | rfl | rfl
                  · exact rol_val rfl rfl rfl (by rw [hz]; decide) (ex_move (Or.inl rfl) (eval_slot ((hG.slots 0 (by decide)).trans rfl))) hG.below
                  · exact rol_val rfl rfl rfl (by rw [hz]; decide) (ex_move (Or.inl rfl) (eval_slot ((hG.slots 3 (by decide)).trans rfl))) hG.below
                  · exact rol_val rfl rfl rfl (by rw [hz]; decide) (ex_index rfl (eval_slot (hF 0 (by decide))) (eval_slot (hF 1 (by decide))) (idx_df HLT.out)) hG.below
                  · exact rol_val rfl rfl rfl (by rw [hz]; decide) (ex_field rfl (eval_slot (hF 2 (by decide))) fld_df) hG.below
                  · exact rol_val rfl rfl rfl (by rw [hz]; decide) (ex_load rfl (eval_slot (hF 3 (by decide))) (ld_node (cell_keep cw0 hG.below) (cell_keep cw1 hG.below))) hG.below
                  · refine rol_call rfl rfl rfl (by rw [hz]; decide) (ex_call rfl (by simp [eval_slot (hF 4 (by decide))]) e1) (KO.out wx) ?_ hG.below hG.new
                    rintro e w1 ⟨rfl, hb1⟩
                    exact ⟨_, rfl, hb1, .inl rfl⟩
                  · exact rol_val rfl rfl rfl (by rw [hz]; decide) (ex_un rfl (eval_slot (hF 5 (by decide))) rfl) hG.below
                  · exact rol_val rfl rfl rfl (by rw [hz]; decide) (ex_move (Or.inl rfl) (eval_slot (hF 6 (by decide)))) hG.below
                  · exact rol_val rfl (want_yes rfl rfl (hF 7 (by decide))) rfl (by rw [hz]; decide) (ex_move (Or.inl rfl) (eval_slot ((hG.slots 0 (by decide)).trans rfl))) hG.below
                  · exact rol_val rfl (want_yes rfl rfl (hF 7 (by decide))) rfl (by rw [hz]; decide) (ex_move (Or.inl rfl) (eval_slot ((hG.slots 3 (by decide)).trans rfl))) hG.below
                  · exact rol_val rfl (want_yes rfl rfl (hF 7 (by decide))) rfl (by rw [hz]; decide) (ex_index rfl (eval_slot (hF 8 (by decide))) (eval_slot (hF 9 (by decide))) (idx_df HLT.out)) hG.below
                  · exact rol_val rfl (want_yes rfl rfl (hF 7 (by decide))) rfl (by rw [hz]; decide) (ex_field rfl (eval_slot (hF 10 (by decide))) fld2_df) hG.below
                  · exact rol_val rfl (want_yes rfl rfl (hF 7 (by decide))) rfl (by rw [hz]; decide) (ex_load rfl (eval_slot (hF 11 (by decide))) (ld_num (cell_keep cw2 hG.below))) hG.below
                  · exact rol_val rfl (want_yes rfl rfl (hF 7 (by decide))) rfl (by rw [hz]; decide) (ex_bin rfl (eval_slot (hF 12 (by decide))) rfl (by go_simp) (bin_eqz HE.out)) hG.below
                  · exact rol_val rfl rfl rfl (by rw [hz]; decide) (ex_pick_no rfl (eval_slot (hF 7 (by decide))) (eval_slot (hF 13 (by decide)))) hG.below
                  · exact rol_val rfl rfl rfl (by rw [hz]; decide) (ex_move (Or.inl rfl) (eval_slot (hF 14 (by decide)))) hG.below
                  · exact rol_val rfl (want_yes rfl rfl (hF 15 (by decide))) rfl (by rw [hz]; decide) (ex_move (Or.inl rfl) (eval_slot ((hG.slots 0 (by decide)).trans rfl))) hG.below
                  · exact rol_val rfl (want_yes rfl rfl (hF 15 (by decide))) rfl (by rw [hz]; decide) (ex_move (Or.inl rfl) (eval_slot ((hG.slots 3 (by decide)).trans rfl))) hG.below
                  · exact rol_val rfl (want_yes rfl rfl (hF 15 (by decide))) rfl (by rw [hz]; decide) (ex_index rfl (eval_slot (hF 16 (by decide))) (eval_slot (hF 17 (by decide))) (idx_df HLT.out)) hG.below
                  · exact rol_val rfl (want_yes rfl rfl (hF 15 (by decide))) rfl (by rw [hz]; decide) (ex_field rfl (eval_slot (hF 18 (by decide))) fld2_df) hG.below
                  · exact rol_val rfl (want_yes rfl rfl (hF 15 (by decide))) rfl (by rw [hz]; decide) (ex_load rfl (eval_slot (hF 19 (by decide))) (ld_num (cell_keep cw2 hG.below))) hG.below
                  · exact rol_val rfl (want_yes rfl rfl (hF 15 (by decide))) rfl (by rw [hz]; decide) (ex_bin rfl (eval_slot (hF 20 (by decide))) rfl (by go_simp) (bin_gtt HGT.out)) hG.below
                  · exact rol_val rfl rfl rfl (by rw [hz]; decide) (ex_pick_no rfl (eval_slot (hF 15 (by decide))) (eval_slot (hF 21 (by decide)))) hG.below
                  · exact rol_val rfl rfl rfl (by rw [hz]; decide) (ex_move (Or.inl rfl) (eval_slot (hF 22 (by decide)))) hG.below
                  · exact rol_val rfl (want_yes rfl rfl (hF 23 (by decide))) rfl (by rw [hz]; decide) (ex_move (Or.inl rfl) (eval_slot ((hG.slots 0 (by decide)).trans rfl))) hG.below
                  · exact rol_val rfl (want_yes rfl rfl (hF 23 (by decide))) rfl (by rw [hz]; decide) (ex_move (Or.inl rfl) (eval_slot ((hG.slots 3 (by decide)).trans rfl))) hG.below
                  · exact rol_val rfl (want_yes rfl rfl (hF 23 (by decide))) rfl (by rw [hz]; decide) (ex_index rfl (eval_slot (hF 24 (by decide))) (eval_slot (hF 25 (by decide))) (idx_df HLT.out)) hG.below
                  · exact rol_val rfl (want_yes rfl rfl (hF 23 (by decide))) rfl (by rw [hz]; decide) (ex_field rfl (eval_slot (hF 26 (by decide))) fld2_df) hG.below
                  · exact rol_val rfl (want_yes rfl rfl (hF 23 (by decide))) rfl (by rw [hz]; decide) (ex_load rfl (eval_slot (hF 27 (by decide))) (ld_num (cell_keep cw2 hG.below))) hG.below
                  · exact rol_val rfl (want_yes rfl rfl (hF 23 (by decide))) rfl (by rw [hz]; decide) (ex_bin rfl (eval_slot (hF 28 (by decide))) rfl (by go_simp) (bin_lsb HLS.out)) hG.below
                  · exact rol_val rfl rfl rfl (by rw [hz]; decide) (ex_pick_no rfl (eval_slot (hF 23 (by decide))) (eval_slot (hF 29 (by decide)))) hG.below
                  · exact rol_val rfl rfl rfl (by rw [hz]; decide) (ex_move (Or.inl rfl) (eval_slot (hF 30 (by decide)))) hG.below
                  · exact rol_val rfl (want_yes rfl rfl (hF 31 (by decide))) rfl (by rw [hz]; decide) (ex_move (Or.inl rfl) (eval_slot ((hG.slots 3 (by decide)).trans rfl))) hG.below
                  · exact rol_val rfl (want_yes rfl rfl (hF 31 (by decide))) rfl (by rw [hz]; decide) (ex_bin rfl (eval_slot (hF 32 (by decide))) rfl (by go_simp) (bin_gtz HP.out)) hG.below
                  · exact rol_val rfl (want_yes rfl rfl (hF 31 (by decide))) rfl (by rw [hz]; decide) (ex_move (Or.inl rfl) (eval_slot (hF 33 (by decide)))) hG.below
                  · exact rol_val_skip rfl (want_no rfl rfl (hF 34 (by decide)) (by decide)) rfl (by rw [hz]; decide) hG.below
                  · exact rol_val_skip rfl (want_no rfl rfl (hF 34 (by decide)) (by decide)) rfl (by rw [hz]; decide) hG.below
                  · exact rol_val_skip rfl (want_no rfl rfl (hF 34 (by decide)) (by decide)) rfl (by rw [hz]; decide) hG.below
                  · exact rol_val_skip rfl (want_no rfl rfl (hF 34 (by decide)) (by decide)) rfl (by rw [hz]; decide) hG.below
                  · exact rol_val_skip rfl (want_no rfl rfl (hF 34 (by decide)) (by decide)) rfl (by rw [hz]; decide) hG.below
                  · exact rol_val_skip rfl (want_no rfl rfl (hF 34 (by decide)) (by decide)) rfl (by rw [hz]; decide) hG.below
                  · exact rol_val_skip rfl (want_no rfl rfl (hF 34 (by decide)) (by decide)) rfl (by rw [hz]; decide) hG.below
                  · exact rol_val_skip rfl (want_no rfl rfl (hF 34 (by decide)) (by decide)) rfl (by rw [hz]; decide) hG.below
                  · exact rol_val_skip rfl (want_no rfl rfl (hF 34 (by decide)) (by decide)) rfl (by rw [hz]; decide) hG.below
                  · exact rol_val_skip rfl (want_no rfl rfl (hF 34 (by decide)) (by decide)) rfl (by rw [hz]; decide) hG.below
                  · exact rol_val_skip rfl (want_no rfl rfl (hF 34 (by decide)) (by decide)) rfl (by rw [hz]; decide) hG.below
                  · exact rol_val_skip rfl (want_no rfl rfl (hF 34 (by decide)) (by decide)) rfl (by rw [hz]; decide) hG.below
                  · exact rol_val_skip rfl (want_no rfl rfl (hF 34 (by decide)) (by decide)) rfl (by rw [hz]; decide) hG.below
                  · exact rol_val rfl (want_yes rfl rfl (hF 31 (by decide))) rfl (by rw [hz]; decide) (ex_pick_no rfl (eval_slot (hF 34 (by decide))) rfl) hG.below
                  · exact rol_val rfl rfl rfl (by rw [hz]; decide) (ex_pick_no rfl (eval_slot (hF 31 (by decide))) (eval_slot (hF 48 (by decide)))) hG.below
                · intro a wx who hG hF
                  have fv59 : a.tmps.getD 59 undef = .bool false := eval_slot (s := 59) (hF 49 (of_decide_eq_true (by kernel_rfl)) (of_decide_eq_true (by kernel_rfl)))
                  have hbx := hG.below
                  have hnx := hG.new
                  rw [hG.frame]
                  simp only [List.foldl_cons, List.foldl_nil, List.setIfInBounds_toArray, List.set_cons_zero, List.set_cons_succ]
                  generalize a.tmps.getD 10 undef = u10
                  generalize a.tmps.getD 11 undef = u11
                  generalize a.tmps.getD 12 undef = u12
                  generalize a.tmps.getD 13 undef = u13
                  generalize a.tmps.getD 14 undef = u14
                  generalize a.tmps.getD 15 undef = u15
                  generalize a.tmps.getD 16 undef = u16
                  generalize a.tmps.getD 17 undef = u17
                  generalize a.tmps.getD 18 undef = u18
                  generalize a.tmps.getD 19 undef = u19
                  generalize a.tmps.getD 20 undef = u20
                  generalize a.tmps.getD 21 undef = u21
                  generalize a.tmps.getD 22 undef = u22
                  generalize a.tmps.getD 23 undef = u23
                  generalize a.tmps.getD 24 undef = u24
                  generalize a.tmps.getD 25 undef = u25
                  generalize a.tmps.getD 26 undef = u26
                  generalize a.tmps.getD 27 undef = u27
                  generalize a.tmps.getD 28 undef = u28
                  generalize a.tmps.getD 29 undef = u29
                  generalize a.tmps.getD 30 undef = u30
                  generalize a.tmps.getD 31 undef = u31
                  generalize a.tmps.getD 32 undef = u32
                  generalize a.tmps.getD 33 undef = u33
                  generalize a.tmps.getD 34 undef = u34
                  generalize a.tmps.getD 35 undef = u35
                  generalize a.tmps.getD 36 undef = u36
                  generalize a.tmps.getD 37 undef = u37
                  generalize a.tmps.getD 38 undef = u38
                  generalize a.tmps.getD 39 undef = u39
                  generalize a.tmps.getD 40 undef = u40
                  generalize a.tmps.getD 41 undef = u41
                  generalize a.tmps.getD 42 undef = u42
                  generalize a.tmps.getD 43 undef = u43
                  generalize a.tmps.getD 44 undef = u44
                  generalize a.tmps.getD 45 undef = u45
                  generalize a.tmps.getD 46 undef = u46
                  generalize a.tmps.getD 47 undef = u47
                  generalize a.tmps.getD 48 undef = u48
                  generalize a.tmps.getD 49 undef = u49
                  generalize a.tmps.getD 50 undef = u50
                  generalize a.tmps.getD 51 undef = u51
                  generalize a.tmps.getD 52 undef = u52
                  generalize a.tmps.getD 53 undef = u53
                  generalize a.tmps.getD 54 undef = u54
                  generalize a.tmps.getD 55 undef = u55
                  generalize a.tmps.getD 56 undef = u56
                  generalize a.tmps.getD 57 undef = u57
                  generalize a.tmps.getD 58 undef = u58
                  rw [fv59]
                  clear hF hG fv59
                  go_wp2
                  go_roundw
                  case rel => exact ⟨k + 1, by omega, by go_num, H5, Lib.hid (below_step HB.out hbx)⟩
                  case measure => simp [intOf]; omega
              · have HP : Hid (decide (0 < k) = true) := Lib.hid (decide_eq_true (by omega))
                obtain ⟨m, hm⟩ : ∃ m, k - 1 = m := ⟨_, rfl⟩
                have hst2 := HST.out
                rw [hm, decide_eq_false hk0, HZ.out, HIN.out] at hst2
                have hwr : IntKind.i64.wrap ((k : Int) - 1) = (m : Int) := by rw [IntKind.wrap_i64]; omega
                have hml : m < l.length := by omega
                have hmn : m < n := by omega
                obtain ⟨b', off', hab, -, dw0, dw1, -⟩ := (ST.out.below HB.out).at m hml
                injection hab with hab
                injection hab with q1 q2
                subst q1 q2
                have hom := stepD_ok (H.out m (by omega))
                have hsx := (HS.out _ (df_mem hml)).1
                obtain ⟨x, hx⟩ : ∃ x, x = l.getD m zD := ⟨_, rfl⟩
                rw [← hx] at dw0 dw1 hst2 hom hsx
                obtain ⟨⟨x1, x2⟩, zx⟩ := x
                simp only at dw0 dw1 hst2 hom hsx
                have kl := fun wx => refless_any x1 x2 y1 y2 wx hsx.1 hsx.2 HSM.out.1 HSM.out.2 hom HO.out
                obtain ⟨T, hT⟩ : ∃ T, ltN (x1, x2) (y1, y2) = T := ⟨_, rfl⟩
                rw [hT] at kl hst2
                have HM1 := Lib.hid hwr; have HMT := Lib.hid hmn; have KL := Lib.hid kl; have HS2 := Lib.hid hst2
                clear hm hwr hmn hml hom hsx hx kl hT hst2 hk0
                cases T
                · have HQ : Hid (stepD l k = false) := Lib.hid (by rw [HS2.out]; rfl)
                  go_upto_region 4 with fail
                  refine rol_run (by kernel_rfl) [[], [], [0, 1], [0, 1, 2], [0, 1, 2, 3], [0, 1, 2, 3, 4], [0, 1, 2, 3, 4, 5], [0, 1, 2, 3, 4, 5, 6], [0, 1, 2, 3, 4, 5, 6, 7], [0, 1, 2, 3, 4, 5, 6, 7], [0, 1, 2, 3, 4, 5, 6, 7, 8, 9], [0, 1, 2, 3, 4, 5, 6, 7, 8, 9, 10], [0, 1, 2, 3, 4, 5, 6, 7, 8, 9, 10, 11], [0, 1, 2, 3, 4, 5, 6, 7, 8, 9, 10, 11, 12], [0, 1, 2, 3, 4, 5, 6, 7, 8, 9, 10, 11, 12, 13], [0, 1, 2, 3, 4, 5, 6, 7, 8, 9, 10, 11, 12, 13, 14], [0, 1, 2, 3, 4, 5, 6, 7, 8, 9, 10, 11, 12, 13, 14, 15], [0, 1, 2, 3, 4, 5, 6, 7, 8, 9, 10, 11, 12, 13, 14, 15], [0, 1, 2, 3, 4, 5, 6, 7, 8, 9, 10, 11, 12, 13, 14, 15, 16, 17], [0, 1, 2, 3, 4, 5, 6, 7, 8, 9, 10, 11, 12, 13, 14, 15, 16, 17, 18], [0, 1, 2, 3, 4, 5, 6, 7, 8, 9, 10, 11, 12, 13, 14, 15, 16, 17, 18, 19], [0, 1, 2, 3, 4, 5, 6, 7, 8, 9, 10, 11, 12, 13, 14, 15, 16, 17, 18, 19, 20], [0, 1, 2, 3, 4, 5, 6, 7, 8, 9, 10, 11, 12, 13, 14, 15, 16, 17, 18, 19, 20, 21], [0, 1, 2, 3, 4, 5, 6, 7, 8, 9, 10, 11, 12, 13, 14, 15, 16, 17, 18, 19, 20, 21, 22], [0, 1, 2, 3, 4, 5, 6, 7, 8, 9, 10, 11, 12, 13, 14, 15, 16, 17, 18, 19, 20, 21, 22, 23], [0, 1, 2, 3, 4, 5, 6, 7, 8, 9, 10, 11, 12, 13, 14, 15, 16, 17, 18, 19, 20, 21, 22, 23], [0, 1, 2, 3, 4, 5, 6, 7, 8, 9, 10, 11, 12, 13, 14, 15, 16, 17, 18, 19, 20, 21, 22, 23, 24, 25], [0, 1, 2, 3, 4, 5, 6, 7, 8, 9, 10, 11, 12, 13, 14, 15, 16, 17, 18, 19, 20, 21, 22, 23, 24, 25, 26], [0, 1, 2, 3, 4, 5, 6, 7, 8, 9, 10, 11, 12, 13, 14, 15, 16, 17, 18, 19, 20, 21, 22, 23, 24, 25, 26, 27], [0, 1, 2, 3, 4, 5, 6, 7, 8, 9, 10, 11, 12, 13, 14, 15, 16, 17, 18, 19, 20, 21, 22, 23, 24, 25, 26, 27, 28], [0, 1, 2, 3, 4, 5, 6, 7, 8, 9, 10, 11, 12, 13, 14, 15, 16, 17, 18, 19, 20, 21, 22, 23, 24, 25, 26, 27, 28, 29], [0, 1, 2, 3, 4, 5, 6, 7, 8, 9, 10, 11, 12, 13, 14, 15, 16, 17, 18, 19, 20, 21, 22, 23, 24, 25, 26, 27, 28, 29, 30], [0, 1, 2, 3, 4, 5, 6, 7, 8, 9, 10, 11, 12, 13, 14, 15, 16, 17, 18, 19, 20, 21, 22, 23, 24, 25, 26, 27, 28, 29, 30, 31], [0, 1, 2, 3, 4, 5, 6, 7, 8, 9, 10, 11, 12, 13, 14, 15, 16, 17, 18, 19, 20, 21, 22, 23, 24, 25, 26, 27, 28, 29, 30, 31, 32], [0, 1, 2, 3, 4, 5, 6, 7, 8, 9, 10, 11, 12, 13, 14, 15, 16, 17, 18, 19, 20, 21, 22, 23, 24, 25, 26, 27, 28, 29, 30, 31, 32, 33], [0, 1, 2, 3, 4, 5, 6, 7, 8, 9, 10, 11, 12, 13, 14, 15, 16, 17, 18, 19, 20, 21, 22, 23, 24, 25, 26, 27, 28, 29, 30, 31, 32, 33, 34], [0, 1, 2, 3, 4, 5, 6, 7, 8, 9, 10, 11, 12, 13, 14, 15, 16, 17, 18, 19, 20, 21, 22, 23, 24, 25, 26, 27, 28, 29, 30, 31, 32, 33, 34], [0, 1, 2, 3, 4, 5, 6, 7, 8, 9, 10, 11, 12, 13, 14, 15, 16, 17, 18, 19, 20, 21, 22, 23, 24, 25, 26, 27, 28, 29, 30, 31, 32, 33, 34, 36], [0, 1, 2, 3, 4, 5, 6, 7, 8, 9, 10, 11, 12, 13, 14, 15, 16, 17, 18, 19, 20, 21, 22, 23, 24, 25, 26, 27, 28, 29, 30, 31, 32, 33, 34, 35, 36, 37], [0, 1, 2, 3, 4, 5, 6, 7, 8, 9, 10, 11, 12, 13, 14, 15, 16, 17, 18, 19, 20, 21, 22, 23, 24, 25, 26, 27, 28, 29, 30, 31, 32, 33, 34, 35, 36, 37, 38], [0, 1, 2, 3, 4, 5, 6, 7, 8, 9, 10, 11, 12, 13, 14, 15, 16, 17, 18, 19, 20, 21, 22, 23, 24, 25, 26, 27, 28, 29, 30, 31, 32, 33, 34, 35, 36, 37, 38, 39], [0, 1, 2, 3, 4, 5, 6, 7, 8, 9, 10, 11, 12, 13, 14, 15, 16, 17, 18, 19, 20, 21, 22, 23, 24, 25, 26, 27, 28, 29, 30, 31, 32, 33, 34], [0, 1, 2, 3, 4, 5, 6, 7, 8, 9, 10, 11, 12, 13, 14, 15, 16, 17, 18, 19, 20, 21, 22, 23, 24, 25, 26, 27, 28, 29, 30, 31, 32, 33, 34], [0, 1, 2, 3, 4, 5, 6, 7, 8, 9, 10, 11, 12, 13, 14, 15, 16, 17, 18, 19, 20, 21, 22, 23, 24, 25, 26, 27, 28, 29, 30, 31, 32, 33, 34, 41, 42], [0, 1, 2, 3, 4, 5, 6, 7, 8, 9, 10, 11, 12, 13, 14, 15, 16, 17, 18, 19, 20, 21, 22, 23, 24, 25, 26, 27, 28, 29, 30, 31, 32, 33, 34, 41, 42, 43], [0, 1, 2, 3, 4, 5, 6, 7, 8, 9, 10, 11, 12, 13, 14, 15, 16, 17, 18, 19, 20, 21, 22, 23, 24, 25, 26, 27, 28, 29, 30, 31, 32, 33, 34, 41, 42, 43, 44], [0, 1, 2, 3, 4, 5, 6, 7, 8, 9, 10, 11, 12, 13, 14, 15, 16, 17, 18, 19, 20, 21, 22, 23, 24, 25, 26, 27, 28, 29, 30, 31, 32, 33, 34, 35, 36, 37, 38, 39, 40, 41, 42, 43, 44, 45], [0, 1, 2, 3, 4, 5, 6, 7, 8, 9, 10, 11, 12, 13, 14, 15, 16, 17, 18, 19, 20, 21, 22, 23, 24, 25, 26, 27, 28, 29, 30, 31, 32, 33, 34, 35, 36, 37, 38, 39, 40, 41, 42, 43, 44, 45, 46], [0, 1, 2, 3, 4, 5, 6, 7, 8, 9, 10, 11, 12, 13, 14, 15, 16, 17, 18, 19, 20, 21, 22, 23, 24, 25, 26, 27, 28, 29, 30, 31, 32, 33, 34, 35, 36, 37, 38, 39, 40, 41, 42, 43, 44, 45, 46, 47], [0, 1, 2, 3, 4, 5, 6, 7, 8, 9, 10, 11, 12, 13, 14, 15, 16, 17, 18, 19, 20, 21, 22, 23, 24, 25, 26, 27, 28, 29, 30, 31, 32, 33, 34, 35, 36, 37, 38, 39, 40, 41, 42, 43, 44, 45, 46, 47, 48]] (by kernel_rfl) [10, 11, 12, 13, 14, 15, 16, 17, 18, 19, 20, 21, 22, 23, 24, 25, 26, 27, 28, 29, 30, 31, 32, 33, 34, 35, 36, 37, 38, 39, 40, 41, 42, 43, 44, 45, 46, 47, 48, 49, 50, 51, 52, 53, 54, 55, 56, 57, 58, 59] [[], [], [0, 1], [2], [3], [4], [5], [6], [7], [7], [7, 8, 9], [7, 10], [7, 11], [7, 12], [7, 13], [14], [15], [15], [15, 16, 17], [15, 18], [15, 19], [15, 20], [15, 21], [22], [23], [23], [23, 24, 25], [23, 26], [23, 27], [23, 28], [23, 29], [30], [31], [31, 32], [31, 33], [34], [34], [34, 36], [34, 35, 37], [34, 38], [34, 39], [34], [34], [34, 41, 42], [34, 43], [34, 44], [34, 40, 45], [34, 46], [31, 34, 47], [31, 48]] [0, 0, 0, 0, 0, 0, 0, 0, 0, 0, 0, 0, 0, 0, 0, 0, 0, 0, 0, 0, 0, 0, 0, 0, 0, 0, 0, 0, 0, 0, 0, 0, 0, 0, 0, 0, 0, 0, 0, 0, 0, 0, 0, 0, 0, 0, 0, 0, 0, 0] [0, 0, 0, 0, 0, 0, 0, 0, 0, 0, 0, 0, 0, 0, 0, 0, 0, 0, 0, 0, 0, 0, 0, 0, 0, 0, 0, 0, 0, 0, 0, 0, 0, 0, 0, 0, 0, 0, 0, 0, 0, 0, 0, 0, 0, 0, 0, 0, 0, 0] [1000, 1000, 1000, 1000, 1000, 1000, 1000, 1000, 1000, 1000, 1000, 1000, 1000, 1000, 1000, 1000, 1000, 1000, 1000, 1000, 1000, 1000, 1000, 1000, 1000, 1000, 1000, 1000, 1000, 1000, 1000, 1000, 1000, 1000, 1000, 1000, 1000, 1000, 1000, 1000, 1000, 1000, 1000, 1000, 1000, 1000, 1000, 1000, 1000, 1000] [.val 10 (.slice (some ⟨bb, off, none⟩) n c), .val 11 (.int .i64 (k : Int)), .val 12 (.pointer (some ⟨bb, off + k * 3, none⟩)), .val 13 (.pointer (some ⟨bb, off + k * 3, none⟩)), .val 14 (.agg #[.string (mkB y1), .string (mkB y2)]), .val 15 (.bool true), .val 16 (.bool false), .val 17 (.bool false), .val 18 (.slice (some ⟨bb, off, none⟩) n c), .val 19 (.int .i64 (k : Int)), .val 20 (.pointer (some ⟨bb, off + k * 3, none⟩)), .val 21 (.pointer (some ⟨bb, off + k * 3 + 2, none⟩)), .val 22 (.int .i64 z), .val 23 (.bool false), .val 24 (.bool false), .val 25 (.bool false), .val 26 (.slice (some ⟨bb, off, none⟩) n c), .val 27 (.int .i64 (k : Int)), .val 28 (.pointer (some ⟨bb, off + k * 3, none⟩)), .val 29 (.pointer (some ⟨bb, off + k * 3 + 2, none⟩)), .val 30 (.int .i64 z), .val 31 (.bool false), .val 32 (.bool false), .val 33 (.bool false), .val 34 (.slice (some ⟨bb, off, none⟩) n c), .val 35 (.int .i64 (k : Int)), .val 36 (.pointer (some ⟨bb, off + k * 3, none⟩)), .val 37 (.pointer (some ⟨bb, off + k * 3 + 2, none⟩)), .val 38 (.int .i64 z), .val 39 (.bool false), .val 40 (.bool false), .val 41 (.bool false), .val 42 (.int .i64 (k : Int)), .val 43 (.bool true), .val 44 (.bool true), .val 45 (.slice (some ⟨bb, off, none⟩) n c), .val 46 (.int .i64 (k : Int)), .val 47 (.int .i64 (m : Int)), .val 48 (.pointer (some ⟨bb, off + m * 3, none⟩)), .val 49 (.pointer (some ⟨bb, off + m * 3, none⟩)), .val 50 (.agg #[.string (mkB x1), .string (mkB x2)]), .val 51 (.slice (some ⟨bb, off, none⟩) n c), .val 52 (.int .i64 (k : Int)), .val 53 (.pointer (some ⟨bb, off + k * 3, none⟩)), .val 54 (.pointer (some ⟨bb, off + k * 3, none⟩)), .val 55 (.agg #[.string (mkB y1), .string (mkB y2)]), .val 56 (.bool false), .val 57 (.bool true), .val 58 (.bool true), .val 59 (.bool true)] (by kernel_rfl) ?_ (wr.heap.size) (wr.heap.size) rfl (Below.refl _ _) rfl (fun _ => 0) ?_ ?_ ?_
                  · intro j hj
                    have hj3 : j < 50 := hj
                    have hj2 : j = 0 ∨ j = 1 ∨ j = 2 ∨ j = 3 ∨ j = 4 ∨ j = 5 ∨ j = 6 ∨ j = 7 ∨ j = 8 ∨ j = 9 ∨ j = 10 ∨ j = 11 ∨ j = 12 ∨ j = 13 ∨ j = 14 ∨ j = 15 ∨ j = 16 ∨ j = 17 ∨ j = 18 ∨ j = 19 ∨ j = 20 ∨ j = 21 ∨ j = 22 ∨ j = 23 ∨ j = 24 ∨ j = 25 ∨ j = 26 ∨ j = 27 ∨ j = 28 ∨ j = 29 ∨ j = 30 ∨ j = 31 ∨ j = 32 ∨ j = 33 ∨ j = 34 ∨ j = 35 ∨ j = 36 ∨ j = 37 ∨ j = 38 ∨ j = 39 ∨ j = 40 ∨ j = 41 ∨ j = 42 ∨ j = 43 ∨ j = 44 ∨ j = 45 ∨ j = 46 ∨ j = 47 ∨ j = 48 ∨ j = 49 := by omega
                    clear hj hj3
                    rcases hj2 with rfl | rfl | rfl | rfl | rfl | rfl | rfl | rfl | rfl | rfl | rfl | rfl | rfl | rfl | rfl | rfl | rfl | rfl | rfl | rfl | rfl | rfl | rfl | rfl | rfl | rfl | rfl | rfl | rfl | rfl | rfl | rfl | rfl | rfl | rfl | rfl | rfl | rfl | rfl | rfl | rfl | rfl | rfl | rfl | rfl | rfl | rfl | rfl | rfl | rfl
                    · exact trivial
                    · exact trivial
                    · exact trivial
                    · exact trivial
                    · exact trivial
                    · exact trivial
                    · exact trivial
                    · exact trivial
                    · exact trivial
                    · exact trivial
                    · exact trivial
                    · exact trivial
                    · exact trivial
                    · exact trivial
                    · exact trivial
                    · exact trivial
                    · exact trivial
                    · exact trivial
                    · exact trivial
                    · exact trivial
                    · exact trivial
                    · exact trivial
                    · exact trivial
                    · exact trivial
                    · exact trivial
                    · exact trivial
                    · exact trivial
                    · exact trivial
                    · exact trivial
                    · exact trivial
                    · exact trivial
                    · exact trivial
                    · exact trivial
                    · exact trivial
                    · exact trivial
                    · exact trivial
                    · exact trivial
                    · exact trivial
                    · exact trivial
                    · exact trivial
                    · exact trivial
                    · exact trivial
                    · exact trivial
                    · exact trivial
                    · exact trivial
                    · exact trivial
                    · exact trivial
                    · exact trivial
                    · exact trivial
                    · exact trivial
                  · intro j hj0 hj
                    exact absurd hj (Nat.not_lt.2 hj0)
                  · intro i hi a wx who hG hF
                    have hz : a.tmps.size = 60 := hG.size
                    have hi3 : i < 50 := hi
                    have hi2 : i = 0 ∨ i = 1 ∨ i = 2 ∨ i = 3 ∨ i = 4 ∨ i = 5 ∨ i = 6 ∨ i = 7 ∨ i = 8 ∨ i = 9 ∨ i = 10 ∨ i = 11 ∨ i = 12 ∨ i = 13 ∨ i = 14 ∨ i = 15 ∨ i = 16 ∨ i = 17 ∨ i = 18 ∨ i = 19 ∨ i = 20 ∨ i = 21 ∨ i = 22 ∨ i = 23 ∨ i = 24 ∨ i = 25 ∨ i = 26 ∨ i = 27 ∨ i = 28 ∨ i = 29 ∨ i = 30 ∨ i = 31 ∨ i = 32 ∨ i = 33 ∨ i = 34 ∨ i = 35 ∨ i = 36 ∨ i = 37 ∨ i = 38 ∨ i = 39 ∨ i = 40 ∨ i = 41 ∨ i = 42 ∨ i = 43 ∨ i = 44 ∨ i = 45 ∨ i = 46 ∨ i = 47 ∨ i = 48 ∨ i = 49 := by omega
                    clear hi hi3
                    rcases hi2 with rfl | rfl | rfl | rfl | rfl | rfl | rfl | rfl | rfl | rfl | rfl | rfl | rfl | rfl | rfl | rfl | rfl | rfl | rfl | rfl | rfl | rfl | rfl | rfl | rfl | rfl | rfl | rfl | rfl | rfl | rfl | rfl | rfl | rfl | rfl | rfl | rfl | rfl | rfl | rfl | rfl | rfl | rfl | rfl | rfl | rfl | rfl | rfl | rfl | rfl
                    · exact rol_val rfl rfl rfl (by rw [hz]; decide) (ex_move (Or.inl rfl) (eval_slot ((hG.slots 0 (by decide)).trans rfl))) hG.below
                    · exact rol_val rfl rfl rfl (by rw [hz]; decide) (ex_move (Or.inl rfl) (eval_slot ((hG.slots 3 (by decide)).trans rfl))) hG.below
                    · exact rol_val rfl rfl rfl (by rw [hz]; decide) (ex_index rfl (eval_slot (hF 0 (by decide))) (eval_slot (hF 1 (by decide))) (idx_df HLT.out)) hG.below
                    · exact rol_val rfl rfl rfl (by rw [hz]; decide) (ex_field rfl (eval_slot (hF 2 (by decide))) fld_df) hG.below
                    · exact rol_val rfl rfl rfl (by rw [hz]; decide) (ex_load rfl (eval_slot (hF 3 (by decide))) (ld_node (cell_keep cw0 hG.below) (cell_keep cw1 hG.below))) hG.below
                    · refine rol_call rfl rfl rfl (by rw [hz]; decide) (ex_call rfl (by simp [eval_slot (hF 4 (by decide))]) e1) (KO.out wx) ?_ hG.below hG.new
                      rintro e w1 ⟨rfl, hb1⟩
                      exact ⟨_, rfl, hb1, .inl rfl⟩
                    · exact rol_val rfl rfl rfl (by rw [hz]; decide) (ex_un rfl (eval_slot (hF 5 (by decide))) rfl) hG.below
                    · exact rol_val rfl rfl rfl (by rw [hz]; decide) (ex_move (Or.inl rfl) (eval_slot (hF 6 (by decide)))) hG.below
                    · exact rol_val rfl (want_yes rfl rfl (hF 7 (by decide))) rfl (by rw [hz]; decide) (ex_move (Or.inl rfl) (eval_slot ((hG.slots 0 (by decide)).trans rfl))) hG.below
                    · exact rol_val rfl (want_yes rfl rfl (hF 7 (by decide))) rfl (by rw [hz]; decide) (ex_move (Or.inl rfl) (eval_slot ((hG.slots 3 (by decide)).trans rfl))) hG.below
                    · exact rol_val rfl (want_yes rfl rfl (hF 7 (by decide))) rfl (by rw [hz]; decide) (ex_index rfl (eval_slot (hF 8 (by decide))) (eval_slot (hF 9 (by decide))) (idx_df HLT.out)) hG.below
                    · exact rol_val rfl (want_yes rfl rfl (hF 7 (by decide))) rfl (by rw [hz]; decide) (ex_field rfl (eval_slot (hF 10 (by decide))) fld2_df) hG.below
                    · exact rol_val rfl (want_yes rfl rfl (hF 7 (by decide))) rfl (by rw [hz]; decide) (ex_load rfl (eval_slot (hF 11 (by decide))) (ld_num (cell_keep cw2 hG.below))) hG.below
                    · exact rol_val rfl (want_yes rfl rfl (hF 7 (by decide))) rfl (by rw [hz]; decide) (ex_bin rfl (eval_slot (hF 12 (by decide))) rfl (by go_simp) (bin_eqz HE.out)) hG.below
                    · exact rol_val rfl rfl rfl (by rw [hz]; decide) (ex_pick_no rfl (eval_slot (hF 7 (by decide))) (eval_slot (hF 13 (by decide)))) hG.below
                    · exact rol_val rfl rfl rfl (by rw [hz]; decide) (ex_move (Or.inl rfl) (eval_slot (hF 14 (by decide)))) hG.below
                    · exact rol_val rfl (want_yes rfl rfl (hF 15 (by decide))) rfl (by rw [hz]; decide) (ex_move (Or.inl rfl) (eval_slot ((hG.slots 0 (by decide)).trans rfl))) hG.below
                    · exact rol_val rfl (want_yes rfl rfl (hF 15 (by decide))) rfl (by rw [hz]; decide) (ex_move (Or.inl rfl) (eval_slot ((hG.slots 3 (by decide)).trans rfl))) hG.below
                    · exact rol_val rfl (want_yes rfl rfl (hF 15 (by decide))) rfl (by rw [hz]; decide) (ex_index rfl (eval_slot (hF 16 (by decide))) (eval_slot (hF 17 (by decide))) (idx_df HLT.out)) hG.below
                    · exact rol_val rfl (want_yes rfl rfl (hF 15 (by decide))) rfl (by rw [hz]; decide) (ex_field rfl (eval_slot (hF 18 (by decide))) fld2_df) hG.below
                    · exact rol_val rfl (want_yes rfl rfl (hF 15 (by decide))) rfl (by rw [hz]; decide) (ex_load rfl (eval_slot (hF 19 (by decide))) (ld_num (cell_keep cw2 hG.below))) hG.below
                    · exact rol_val rfl (want_yes rfl rfl (hF 15 (by decide))) rfl (by rw [hz]; decide) (ex_bin rfl (eval_slot (hF 20 (by decide))) rfl (by go_simp) (bin_gtt HGT.out)) hG.below
                    · exact rol_val rfl rfl rfl (by rw [hz]; decide) (ex_pick_no rfl (eval_slot (hF 15 (by decide))) (eval_slot (hF 21 (by decide)))) hG.below
                    · exact rol_val rfl rfl rfl (by rw [hz]; decide) (ex_move (Or.inl rfl) (eval_slot (hF 22 (by decide)))) hG.below
                    · exact rol_val rfl (want_yes rfl rfl (hF 23 (by decide))) rfl (by rw [hz]; decide) (ex_move (Or.inl rfl) (eval_slot ((hG.slots 0 (by decide)).trans rfl))) hG.below
                    · exact rol_val rfl (want_yes rfl rfl (hF 23 (by decide))) rfl (by rw [hz]; decide) (ex_move (Or.inl rfl) (eval_slot ((hG.slots 3 (by decide)).trans rfl))) hG.below
                    · exact rol_val rfl (want_yes rfl rfl (hF 23 (by decide))) rfl (by rw [hz]; decide) (ex_index rfl (eval_slot (hF 24 (by decide))) (eval_slot (hF 25 (by decide))) (idx_df HLT.out)) hG.below
                    · exact rol_val rfl (want_yes rfl rfl (hF 23 (by decide))) rfl (by rw [hz]; decide) (ex_field rfl (eval_slot (hF 26 (by decide))) fld2_df) hG.below
                    · exact rol_val rfl (want_yes rfl rfl (hF 23 (by decide))) rfl (by rw [hz]; decide) (ex_load rfl (eval_slot (hF 27 (by decide))) (ld_num (cell_keep cw2 hG.below))) hG.below
                    · exact rol_val rfl (want_yes rfl rfl (hF 23 (by decide))) rfl (by rw [hz]; decide) (ex_bin rfl (eval_slot (hF 28 (by decide))) rfl (by go_simp) (bin_lsb HLS.out)) hG.below
                    · exact rol_val rfl rfl rfl (by rw [hz]; decide) (ex_pick_no rfl (eval_slot (hF 23 (by decide))) (eval_slot (hF 29 (by decide)))) hG.below
                    · exact rol_val rfl rfl rfl (by rw [hz]; decide) (ex_move (Or.inl rfl) (eval_slot (hF 30 (by decide)))) hG.below
                    · exact rol_val rfl (want_yes rfl rfl (hF 31 (by decide))) rfl (by rw [hz]; decide) (ex_move (Or.inl rfl) (eval_slot ((hG.slots 3 (by decide)).trans rfl))) hG.below
                    · exact rol_val rfl (want_yes rfl rfl (hF 31 (by decide))) rfl (by rw [hz]; decide) (ex_bin rfl (eval_slot (hF 32 (by decide))) rfl (by go_simp) (bin_gtz HP.out)) hG.below
                    · exact rol_val rfl (want_yes rfl rfl (hF 31 (by decide))) rfl (by rw [hz]; decide) (ex_move (Or.inl rfl) (eval_slot (hF 33 (by decide)))) hG.below
                    · exact rol_val rfl (want_yes rfl rfl (hF 34 (by decide))) rfl (by rw [hz]; decide) (ex_move (Or.inl rfl) (eval_slot ((hG.slots 0 (by decide)).trans rfl))) hG.below
                    · exact rol_val rfl (want_yes rfl rfl (hF 34 (by decide))) rfl (by rw [hz]; decide) (ex_move (Or.inl rfl) (eval_slot ((hG.slots 3 (by decide)).trans rfl))) hG.below
                    · exact rol_val rfl (want_yes rfl rfl (hF 34 (by decide))) rfl (by rw [hz]; decide) (ex_bin rfl (eval_slot (hF 36 (by decide))) rfl (by go_simp) (bin_pred HM1.out)) hG.below
                    · exact rol_val rfl (want_yes rfl rfl (hF 34 (by decide))) rfl (by rw [hz]; decide) (ex_index rfl (eval_slot (hF 35 (by decide))) (eval_slot (hF 37 (by decide))) (idx_df HMT.out)) hG.below
                    · exact rol_val rfl (want_yes rfl rfl (hF 34 (by decide))) rfl (by rw [hz]; decide) (ex_field rfl (eval_slot (hF 38 (by decide))) fld_df) hG.below
                    · exact rol_val rfl (want_yes rfl rfl (hF 34 (by decide))) rfl (by rw [hz]; decide) (ex_load rfl (eval_slot (hF 39 (by decide))) (ld_node (cell_keep dw0 hG.below) (cell_keep dw1 hG.below))) hG.below
                    · exact rol_val rfl (want_yes rfl rfl (hF 34 (by decide))) rfl (by rw [hz]; decide) (ex_move (Or.inl rfl) (eval_slot ((hG.slots 0 (by decide)).trans rfl))) hG.below
                    · exact rol_val rfl (want_yes rfl rfl (hF 34 (by decide))) rfl (by rw [hz]; decide) (ex_move (Or.inl rfl) (eval_slot ((hG.slots 3 (by decide)).trans rfl))) hG.below
                    · exact rol_val rfl (want_yes rfl rfl (hF 34 (by decide))) rfl (by rw [hz]; decide) (ex_index rfl (eval_slot (hF 41 (by decide))) (eval_slot (hF 42 (by decide))) (idx_df HLT.out)) hG.below
                    · exact rol_val rfl (want_yes rfl rfl (hF 34 (by decide))) rfl (by rw [hz]; decide) (ex_field rfl (eval_slot (hF 43 (by decide))) fld_df) hG.below
                    · exact rol_val rfl (want_yes rfl rfl (hF 34 (by decide))) rfl (by rw [hz]; decide) (ex_load rfl (eval_slot (hF 44 (by decide))) (ld_node (cell_keep cw0 hG.below) (cell_keep cw1 hG.below))) hG.below
                    · refine rol_call rfl (want_yes rfl rfl (hF 34 (by decide))) rfl (by rw [hz]; decide) (ex_call rfl (by simp [eval_slot (hF 40 (by decide)), eval_slot (hF 45 (by decide))]) e2) (KL.out wx) ?_ hG.below hG.new
                      rintro e w1 ⟨rfl, hb1⟩
                      exact ⟨_, rfl, hb1, .inl rfl⟩
                    · exact rol_val rfl (want_yes rfl rfl (hF 34 (by decide))) rfl (by rw [hz]; decide) (ex_un rfl (eval_slot (hF 46 (by decide))) rfl) hG.below
                    · exact rol_val rfl (want_yes rfl rfl (hF 31 (by decide))) rfl (by rw [hz]; decide) (ex_pick_yes rfl (eval_slot (hF 34 (by decide))) (eval_slot (hF 47 (by decide)))) hG.below
                    · exact rol_val rfl rfl rfl (by rw [hz]; decide) (ex_pick_no rfl (eval_slot (hF 31 (by decide))) (eval_slot (hF 48 (by decide)))) hG.below
                  · intro a wx who hG hF
                    have fv59 : a.tmps.getD 59 undef = .bool true := eval_slot (s := 59) (hF 49 (of_decide_eq_true (by kernel_rfl)) (of_decide_eq_true (by kernel_rfl)))
                    have hbx := hG.below
                    have hnx := hG.new
                    rw [hG.frame]
                    simp only [List.foldl_cons, List.foldl_nil, List.setIfInBounds_toArray, List.set_cons_zero, List.set_cons_succ]
                    generalize a.tmps.getD 10 undef = u10
                    generalize a.tmps.getD 11 undef = u11
                    generalize a.tmps.getD 12 undef = u12
                    generalize a.tmps.getD 13 undef = u13
                    generalize a.tmps.getD 14 undef = u14
                    generalize a.tmps.getD 15 undef = u15
                    generalize a.tmps.getD 16 undef = u16
                    generalize a.tmps.getD 17 undef = u17
                    generalize a.tmps.getD 18 undef = u18
                    generalize a.tmps.getD 19 undef = u19
                    generalize a.tmps.getD 20 undef = u20
                    generalize a.tmps.getD 21 undef = u21
                    generalize a.tmps.getD 22 undef = u22
                    generalize a.tmps.getD 23 undef = u23
                    generalize a.tmps.getD 24 undef = u24
                    generalize a.tmps.getD 25 undef = u25
                    generalize a.tmps.getD 26 undef = u26
                    generalize a.tmps.getD 27 undef = u27
                    generalize a.tmps.getD 28 undef = u28
                    generalize a.tmps.getD 29 undef = u29
                    generalize a.tmps.getD 30 undef = u30
                    generalize a.tmps.getD 31 undef = u31
                    generalize a.tmps.getD 32 undef = u32
                    generalize a.tmps.getD 33 undef = u33
                    generalize a.tmps.getD 34 undef = u34
                    generalize a.tmps.getD 35 undef = u35
                    generalize a.tmps.getD 36 undef = u36
                    generalize a.tmps.getD 37 undef = u37
                    generalize a.tmps.getD 38 undef = u38
                    generalize a.tmps.getD 39 undef = u39
                    generalize a.tmps.getD 40 undef = u40
                    generalize a.tmps.getD 41 undef = u41
                    generalize a.tmps.getD 42 undef = u42
                    generalize a.tmps.getD 43 undef = u43
                    generalize a.tmps.getD 44 undef = u44
                    generalize a.tmps.getD 45 undef = u45
                    generalize a.tmps.getD 46 undef = u46
                    generalize a.tmps.getD 47 undef = u47
                    generalize a.tmps.getD 48 undef = u48
                    generalize a.tmps.getD 49 undef = u49
                    generalize a.tmps.getD 50 undef = u50
                    generalize a.tmps.getD 51 undef = u51
                    generalize a.tmps.getD 52 undef = u52
                    generalize a.tmps.getD 53 undef = u53
                    generalize a.tmps.getD 54 undef = u54
                    generalize a.tmps.getD 55 undef = u55
                    generalize a.tmps.getD 56 undef = u56
                    generalize a.tmps.getD 57 undef = u57
                    generalize a.tmps.getD 58 undef = u58
                    rw [fv59]
                    clear hF hG fv59
                    go_wp2
                    go_ret
                    exact ⟨by rw [HNO.out HQ.out]; rfl, below_step HB.out hbx⟩
                · have H6 : Hid (∀ j, j < k + 1 → stepD l j = true) := Lib.hid fun j hj => by
                    by_cases e : j = k
                    · subst e; rw [HS2.out]; rfl
                    · exact H.out j (by omega)
                  go_upto_region 4 with fail
                  refine rol_run (by kernel_rfl) [[], [], [0, 1], [0, 1, 2], [0, 1, 2, 3], [0, 1, 2, 3, 4], [0, 1, 2, 3, 4, 5], [0, 1, 2, 3, 4, 5, 6], [0, 1, 2, 3, 4, 5, 6, 7], [0, 1, 2, 3, 4, 5, 6, 7], [0, 1, 2, 3, 4, 5, 6, 7, 8, 9], [0, 1, 2, 3, 4, 5, 6, 7, 8, 9, 10], [0, 1, 2, 3, 4, 5, 6, 7, 8, 9, 10, 11], [0, 1, 2, 3, 4, 5, 6, 7, 8, 9, 10, 11, 12], [0, 1, 2, 3, 4, 5, 6, 7, 8, 9, 10, 11, 12, 13], [0, 1, 2, 3, 4, 5, 6, 7, 8, 9, 10, 11, 12, 13, 14], [0, 1, 2, 3, 4, 5, 6, 7, 8, 9, 10, 11, 12, 13, 14, 15], [0, 1, 2, 3, 4, 5, 6, 7, 8, 9, 10, 11, 12, 13, 14, 15], [0, 1, 2, 3, 4, 5, 6, 7, 8, 9, 10, 11, 12, 13, 14, 15, 16, 17], [0, 1, 2, 3, 4, 5, 6, 7, 8, 9, 10, 11, 12, 13, 14, 15, 16, 17, 18], [0, 1, 2, 3, 4, 5, 6, 7, 8, 9, 10, 11, 12, 13, 14, 15, 16, 17, 18, 19], [0, 1, 2, 3, 4, 5, 6, 7, 8, 9, 10, 11, 12, 13, 14, 15, 16, 17, 18, 19, 20], [0, 1, 2, 3, 4, 5, 6, 7, 8, 9, 10, 11, 12, 13, 14, 15, 16, 17, 18, 19, 20, 21], [0, 1, 2, 3, 4, 5, 6, 7, 8, 9, 10, 11, 12, 13, 14, 15, 16, 17, 18, 19, 20, 21, 22], [0, 1, 2, 3, 4, 5, 6, 7, 8, 9, 10, 11, 12, 13, 14, 15, 16, 17, 18, 19, 20, 21, 22, 23], [0, 1, 2, 3, 4, 5, 6, 7, 8, 9, 10, 11, 12, 13, 14, 15, 16, 17, 18, 19, 20, 21, 22, 23], [0, 1, 2, 3, 4, 5, 6, 7, 8, 9, 10, 11, 12, 13, 14, 15, 16, 17, 18, 19, 20, 21, 22, 23, 24, 25], [0, 1, 2, 3, 4, 5, 6, 7, 8, 9, 10, 11, 12, 13, 14, 15, 16, 17, 18, 19, 20, 21, 22, 23, 24, 25, 26], [0, 1, 2, 3, 4, 5, 6, 7, 8, 9, 10, 11, 12, 13, 14, 15, 16, 17, 18, 19, 20, 21, 22, 23, 24, 25, 26, 27], [0, 1, 2, 3, 4, 5, 6, 7, 8, 9, 10, 11, 12, 13, 14, 15, 16, 17, 18, 19, 20, 21, 22, 23, 24, 25, 26, 27, 28], [0, 1, 2, 3, 4, 5, 6, 7, 8, 9, 10, 11, 12, 13, 14, 15, 16, 17, 18, 19, 20, 21, 22, 23, 24, 25, 26, 27, 28, 29], [0, 1, 2, 3, 4, 5, 6, 7, 8, 9, 10, 11, 12, 13, 14, 15, 16, 17, 18, 19, 20, 21, 22, 23, 24, 25, 26, 27, 28, 29, 30], [0, 1, 2, 3, 4, 5, 6, 7, 8, 9, 10, 11, 12, 13, 14, 15, 16, 17, 18, 19, 20, 21, 22, 23, 24, 25, 26, 27, 28, 29, 30, 31], [0, 1, 2, 3, 4, 5, 6, 7, 8, 9, 10, 11, 12, 13, 14, 15, 16, 17, 18, 19, 20, 21, 22, 23, 24, 25, 26, 27, 28, 29, 30, 31, 32], [0, 1, 2, 3, 4, 5, 6, 7, 8, 9, 10, 11, 12, 13, 14, 15, 16, 17, 18, 19, 20, 21, 22, 23, 24, 25, 26, 27, 28, 29, 30, 31, 32, 33], [0, 1, 2, 3, 4, 5, 6, 7, 8, 9, 10, 11, 12, 13, 14, 15, 16, 17, 18, 19, 20, 21, 22, 23, 24, 25, 26, 27, 28, 29, 30, 31, 32, 33, 34], [0, 1, 2, 3, 4, 5, 6, 7, 8, 9, 10, 11, 12, 13, 14, 15, 16, 17, 18, 19, 20, 21, 22, 23, 24, 25, 26, 27, 28, 29, 30, 31, 32, 33, 34], [0, 1, 2, 3, 4, 5, 6, 7, 8, 9, 10, 11, 12, 13, 14, 15, 16, 17, 18, 19, 20, 21, 22, 23, 24, 25, 26, 27, 28, 29, 30, 31, 32, 33, 34, 36], [0, 1, 2, 3, 4, 5, 6, 7, 8, 9, 10, 11, 12, 13, 14, 15, 16, 17, 18, 19, 20, 21, 22, 23, 24, 25, 26, 27, 28, 29, 30, 31, 32, 33, 34, 35, 36, 37], [0, 1, 2, 3, 4, 5, 6, 7, 8, 9, 10, 11, 12, 13, 14, 15, 16, 17, 18, 19, 20, 21, 22, 23, 24, 25, 26, 27, 28, 29, 30, 31, 32, 33, 34, 35, 36, 37, 38], [0, 1, 2, 3, 4, 5, 6, 7, 8, 9, 10, 11, 12, 13, 14, 15, 16, 17, 18, 19, 20, 21, 22, 23, 24, 25, 26, 27, 28, 29, 30, 31, 32, 33, 34, 35, 36, 37, 38, 39], [0, 1, 2, 3, 4, 5, 6, 7, 8, 9, 10, 11, 12, 13, 14, 15, 16, 17, 18, 19, 20, 21, 22, 23, 24, 25, 26, 27, 28, 29, 30, 31, 32, 33, 34], [0, 1, 2, 3, 4, 5, 6, 7, 8, 9, 10, 11, 12, 13, 14, 15, 16, 17, 18, 19, 20, 21, 22, 23, 24, 25, 26, 27, 28, 29, 30, 31, 32, 33, 34], [0, 1, 2, 3, 4, 5, 6, 7, 8, 9, 10, 11, 12, 13, 14, 15, 16, 17, 18, 19, 20, 21, 22, 23, 24, 25, 26, 27, 28, 29, 30, 31, 32, 33, 34, 41, 42], [0, 1, 2, 3, 4, 5, 6, 7, 8, 9, 10, 11, 12, 13, 14, 15, 16, 17, 18, 19, 20, 21, 22, 23, 24, 25, 26, 27, 28, 29, 30, 31, 32, 33, 34, 41, 42, 43], [0, 1, 2, 3, 4, 5, 6, 7, 8, 9, 10, 11, 12, 13, 14, 15, 16, 17, 18, 19, 20, 21, 22, 23, 24, 25, 26, 27, 28, 29, 30, 31, 32, 33, 34, 41, 42, 43, 44], [0, 1, 2, 3, 4, 5, 6, 7, 8, 9, 10, 11, 12, 13, 14, 15, 16, 17, 18, 19, 20, 21, 22, 23, 24, 25, 26, 27, 28, 29, 30, 31, 32, 33, 34, 35, 36, 37, 38, 39, 40, 41, 42, 43, 44, 45], [0, 1, 2, 3, 4, 5, 6, 7, 8, 9, 10, 11, 12, 13, 14, 15, 16, 17, 18, 19, 20, 21, 22, 23, 24, 25, 26, 27, 28, 29, 30, 31, 32, 33, 34, 35, 36, 37, 38, 39, 40, 41, 42, 43, 44, 45, 46], [0, 1, 2, 3, 4, 5, 6, 7, 8, 9, 10, 11, 12, 13, 14, 15, 16, 17, 18, 19, 20, 21, 22, 23, 24, 25, 26, 27, 28, 29, 30, 31, 32, 33, 34, 35, 36, 37, 38, 39, 40, 41, 42, 43, 44, 45, 46, 47], [0, 1, 2, 3, 4, 5, 6, 7, 8, 9, 10, 11, 12, 13, 14, 15, 16, 17, 18, 19, 20, 21, 22, 23, 24, 25, 26, 27, 28, 29, 30, 31, 32, 33, 34, 35, 36, 37, 38, 39, 40, 41, 42, 43, 44, 45, 46, 47, 48]] (by kernel_rfl) [10, 11, 12, 13, 14, 15, 16, 17, 18, 19, 20, 21, 22, 23, 24, 25, 26, 27, 28, 29, 30, 31, 32, 33, 34, 35, 36, 37, 38, 39, 40, 41, 42, 43, 44, 45, 46, 47, 48, 49, 50, 51, 52, 53, 54, 55, 56, 57, 58, 59] [[], [], [0, 1], [2], [3], [4], [5], [6], [7], [7], [7, 8, 9], [7, 10], [7, 11], [7, 12], [7, 13], [14], [15], [15], [15, 16, 17], [15, 18], [15, 19], [15, 20], [15, 21], [22], [23], [23], [23, 24, 25], [23, 26], [23, 27], [23, 28], [23, 29], [30], [31], [31, 32], [31, 33], [34], [34], [34, 36], [34, 35, 37], [34, 38], [34, 39], [34], [34], [34, 41, 42], [34, 43], [34, 44], [34, 40, 45], [34, 46], [31, 34, 47], [31, 48]] [0, 0, 0, 0, 0, 0, 0, 0, 0, 0, 0, 0, 0, 0, 0, 0, 0, 0, 0, 0, 0, 0, 0, 0, 0, 0, 0, 0, 0, 0, 0, 0, 0, 0, 0, 0, 0, 0, 0, 0, 0, 0, 0, 0, 0, 0, 0, 0, 0, 0] [0, 0, 0, 0, 0, 0, 0, 0, 0, 0, 0, 0, 0, 0, 0, 0, 0, 0, 0, 0, 0, 0, 0, 0, 0, 0, 0, 0, 0, 0, 0, 0, 0, 0, 0, 0, 0, 0, 0, 0, 0, 0, 0, 0, 0, 0, 0, 0, 0, 0] [1000, 1000, 1000, 1000, 1000, 1000, 1000, 1000, 1000, 1000, 1000, 1000, 1000, 1000, 1000, 1000, 1000, 1000, 1000, 1000, 1000, 1000, 1000, 1000, 1000, 1000, 1000, 1000, 1000, 1000, 1000, 1000, 1000, 1000, 1000, 1000, 1000, 1000, 1000, 1000, 1000, 1000, 1000, 1000, 1000, 1000, 1000, 1000, 1000, 1000] [.val 10 (.slice (some ⟨bb, off, none⟩) n c), .val 11 (.int .i64 (k : Int)), .val 12 (.pointer (some ⟨bb, off + k * 3, none⟩)), .val 13 (.pointer (some ⟨bb, off + k * 3, none⟩)), .val 14 (.agg #[.string (mkB y1), .string (mkB y2)]), .val 15 (.bool true), .val 16 (.bool false), .val 17 (.bool false), .val 18 (.slice (some ⟨bb, off, none⟩) n c), .val 19 (.int .i64 (k : Int)), .val 20 (.pointer (some ⟨bb, off + k * 3, none⟩)), .val 21 (.pointer (some ⟨bb, off + k * 3 + 2, none⟩)), .val 22 (.int .i64 z), .val 23 (.bool false), .val 24 (.bool false), .val 25 (.bool false), .val 26 (.slice (some ⟨bb, off, none⟩) n c), .val 27 (.int .i64 (k : Int)), .val 28 (.pointer (some ⟨bb, off + k * 3, none⟩)), .val 29 (.pointer (some ⟨bb, off + k * 3 + 2, none⟩)), .val 30 (.int .i64 z), .val 31 (.bool false), .val 32 (.bool false), .val 33 (.bool false), .val 34 (.slice (some ⟨bb, off, none⟩) n c), .val 35 (.int .i64 (k : Int)), .val 36 (.pointer (some ⟨bb, off + k * 3, none⟩)), .val 37 (.pointer (some ⟨bb, off + k * 3 + 2, none⟩)), .val 38 (.int .i64 z), .val 39 (.bool false), .val 40 (.bool false), .val 41 (.bool false), .val 42 (.int .i64 (k : Int)), .val 43 (.bool true), .val 44 (.bool true), .val 45 (.slice (some ⟨bb, off, none⟩) n c), .val 46 (.int .i64 (k : Int)), .val 47 (.int .i64 (m : Int)), .val 48 (.pointer (some ⟨bb, off + m * 3, none⟩)), .val 49 (.pointer (some ⟨bb, off + m * 3, none⟩)), .val 50 (.agg #[.string (mkB x1), .string (mkB x2)]), .val 51 (.slice (some ⟨bb, off, none⟩) n c), .val 52 (.int .i64 (k : Int)), .val 53 (.pointer (some ⟨bb, off + k * 3, none⟩)), .val 54 (.pointer (some ⟨bb, off + k * 3, none⟩)), .val 55 (.agg #[.string (mkB y1), .string (mkB y2)]), .val 56 (.bool true), .val 57 (.bool false), .val 58 (.bool false), .val 59 (.bool false)] (by kernel_rfl) ?_ (wr.heap.size) (wr.heap.size) rfl (Below.refl _ _) rfl (fun _ => 0) ?_ ?_ ?_
                  · intro j hj
                    have hj3 : j < 50 := hj
                    have hj2 : j = 0 ∨ j = 1 ∨ j = 2 ∨ j = 3 ∨ j = 4 ∨ j = 5 ∨ j = 6 ∨ j = 7 ∨ j = 8 ∨ j = 9 ∨ j = 10 ∨ j = 11 ∨ j = 12 ∨ j = 13 ∨ j = 14 ∨ j = 15 ∨ j = 16 ∨ j = 17 ∨ j = 18 ∨ j = 19 ∨ j = 20 ∨ j = 21 ∨ j = 22 ∨ j = 23 ∨ j = 24 ∨ j = 25 ∨ j = 26 ∨ j = 27 ∨ j = 28 ∨ j = 29 ∨ j = 30 ∨ j = 31 ∨ j = 32 ∨ j = 33 ∨ j = 34 ∨ j = 35 ∨ j = 36 ∨ j = 37 ∨ j = 38 ∨ j = 39 ∨ j = 40 ∨ j = 41 ∨ j = 42 ∨ j = 43 ∨ j = 44 ∨ j = 45 ∨ j = 46 ∨ j = 47 ∨ j = 48 ∨ j = 49 := by omega
                    clear hj hj3
                    rcases hj2 with rfl | rfl | rfl | rfl | rfl | rfl | rfl | rfl | rfl | rfl | rfl | rfl | rfl | rfl | rfl | rfl | rfl | rfl | rfl | rfl | rfl | rfl | rfl | rfl | rfl | rfl | rfl | rfl | rfl | rfl | rfl | rfl | rfl | rfl | rfl | rfl | rfl | rfl | rfl | rfl | rfl | rfl | rfl | rfl | rfl | rfl | rfl | rfl | rfl | rfl
                    · exact trivial
                    · exact trivial
                    · exact trivial
                    · exact trivial
                    · exact trivial
                    · exact trivial
                    · exact trivial
                    · exact trivial
                    · exact trivial
                    · exact trivial
                    · exact trivial
                    · exact trivial
                    · exact trivial
                    · exact trivial
                    · exact trivial
                    · exact trivial
                    · exact trivial
                    · exact trivial
                    · exact trivial
                    · exact trivial
                    · exact trivial
                    · exact trivial
                    · exact trivial
                    · exact trivial
                    · exact trivial
                    · exact trivial
                    · exact trivial
                    · exact trivial
                    · exact trivial
                    · exact trivial
                    · exact trivial
                    · exact trivial
                    · exact trivial
                    · exact trivial
                    · exact trivial
                    · exact trivial
                    · exact trivial
                    · exact trivial
                    · exact trivial
                    · exact trivial
                    · exact trivial
                    · exact trivial
                    · exact trivial
                    · exact trivial
                    · exact trivial
                    · exact trivial
                    · exact trivial
                    · exact trivial
                    · exact trivial
                    · exact trivial
                  · intro j hj0 hj
                    exact absurd hj (Nat.not_lt.2 hj0)
                  · intro i hi a wx who hG hF
                    have hz : a.tmps.size = 60 := hG.size
                    have hi3 : i < 50 := hi
                    have hi2 : i = 0 ∨ i = 1 ∨ i = 2 ∨ i = 3 ∨ i = 4 ∨ i = 5 ∨ i = 6 ∨ i = 7 ∨ i = 8 ∨ i = 9 ∨ i = 10 ∨ i = 11 ∨ i = 12 ∨ i = 13 ∨ i = 14 ∨ i = 15 ∨ i = 16 ∨ i = 17 ∨ i = 18 ∨ i = 19 ∨ i = 20 ∨ i = 21 ∨ i = 22 ∨ i = 23 ∨ i = 24 ∨ i = 25 ∨ i = 26 ∨ i = 27 ∨ i = 28 ∨ i = 29 ∨ i = 30 ∨ i = 31 ∨ i = 32 ∨ i = 33 ∨ i = 34 ∨ i = 35 ∨ i = 36 ∨ i = 37 ∨ i = 38 ∨ i = 39 ∨ i = 40 ∨ i = 41 ∨ i = 42 ∨ i = 43 ∨ i = 44 ∨ i = 45 ∨ i = 46 ∨ i = 47 ∨ i = 48 ∨ i = 49 := by omega
                    clear hi hi3
                    rcases hi2 with rfl | rfl | rfl | rfl | rfl | rfl | rfl | rfl | rfl | rfl | rfl | rfl | rfl | rfl | rfl | rfl | rfl | rfl | rfl | rfl | rfl | rfl | rfl | rfl | rfl | rfl | rfl | rfl | rfl | rfl | rfl | rfl | rfl | rfl | rfl | rfl | rfl | rfl | rfl | rfl | rfl | rfl | rfl | rfl | rfl | rfl | rfl | rfl | rfl | rfl
                    · exact rol_val rfl rfl rfl (by rw [hz]; decide) (ex_move (Or.inl rfl) (eval_slot ((hG.slots 0 (by decide)).trans rfl))) hG.below
                    · exact rol_val rfl rfl rfl (by rw [hz]; decide) (ex_move (Or.inl rfl) (eval_slot ((hG.slots 3 (by decide)).trans rfl))) hG.below
                    · exact rol_val rfl rfl rfl (by rw [hz]; decide) (ex_index rfl (eval_slot (hF 0 (by decide))) (eval_slot (hF 1 (by decide))) (idx_df HLT.out)) hG.below
                    · exact rol_val rfl rfl rfl (by rw [hz]; decide) (ex_field rfl (eval_slot (hF 2 (by decide))) fld_df) hG.below
                    · exact rol_val rfl rfl rfl (by rw [hz]; decide) (ex_load rfl (eval_slot (hF 3 (by decide))) (ld_node (cell_keep cw0 hG.below) (cell_keep cw1 hG.below))) hG.below
                    · refine rol_call rfl rfl rfl (by rw [hz]; decide) (ex_call rfl (by simp [eval_slot (hF 4 (by decide))]) e1) (KO.out wx) ?_ hG.below hG.new
                      rintro e w1 ⟨rfl, hb1⟩
                      exact ⟨_, rfl, hb1, .inl rfl⟩
                    · exact rol_val rfl rfl rfl (by rw [hz]; decide) (ex_un rfl (eval_slot (hF 5 (by decide))) rfl) hG.below
                    · exact rol_val rfl rfl rfl (by rw [hz]; decide) (ex_move (Or.inl rfl) (eval_slot (hF 6 (by decide)))) hG.below
                    · exact rol_val rfl (want_yes rfl rfl (hF 7 (by decide))) rfl (by rw [hz]; decide) (ex_move (Or.inl rfl) (eval_slot ((hG.slots 0 (by decide)).trans rfl))) hG.below
                    · exact rol_val rfl (want_yes rfl rfl (hF 7 (by decide))) rfl (by rw [hz]; decide) (ex_move (Or.inl rfl) (eval_slot ((hG.slots 3 (by decide)).trans rfl))) hG.below
                    · exact rol_val rfl (want_yes rfl rfl (hF 7 (by decide))) rfl (by rw [hz]; decide) (ex_index rfl (eval_slot (hF 8 (by decide))) (eval_slot (hF 9 (by decide))) (idx_df HLT.out)) hG.below
                    · exact rol_val rfl (want_yes rfl rfl (hF 7 (by decide))) rfl (by rw [hz]; decide) (ex_field rfl (eval_slot (hF 10 (by decide))) fld2_df) hG.below
                    · exact rol_val rfl (want_yes rfl rfl (hF 7 (by decide))) rfl (by rw [hz]; decide) (ex_load rfl (eval_slot (hF 11 (by decide))) (ld_num (cell_keep cw2 hG.below))) hG.below
                    · exact rol_val rfl (want_yes rfl rfl (hF 7 (by decide))) rfl (by rw [hz]; decide) (ex_bin rfl (eval_slot (hF 12 (by decide))) rfl (by go_simp) (bin_eqz HE.out)) hG.below
                    · exact rol_val rfl rfl rfl (by rw [hz]; decide) (ex_pick_no rfl (eval_slot (hF 7 (by decide))) (eval_slot (hF 13 (by decide)))) hG.below
                    · exact rol_val rfl rfl rfl (by rw [hz]; decide) (ex_move (Or.inl rfl) (eval_slot (hF 14 (by decide)))) hG.below
                    · exact rol_val rfl (want_yes rfl rfl (hF 15 (by decide))) rfl (by rw [hz]; decide) (ex_move (Or.inl rfl) (eval_slot ((hG.slots 0 (by decide)).trans rfl))) hG.below
                    · exact rol_val rfl (want_yes rfl rfl (hF 15 (by decide))) rfl (by rw [hz]; decide) (ex_move (Or.inl rfl) (eval_slot ((hG.slots 3 (by decide)).trans rfl))) hG.below
                    · exact rol_val rfl (want_yes rfl rfl (hF 15 (by decide))) rfl (by rw [hz]; decide) (ex_index rfl (eval_slot (hF 16 (by decide))) (eval_slot (hF 17 (by decide))) (idx_df HLT.out)) hG.below
                    · exact rol_val rfl (want_yes rfl rfl (hF 15 (by decide))) rfl (by rw [hz]; decide) (ex_field rfl (eval_slot (hF 18 (by decide))) fld2_df) hG.below
                    · exact rol_val rfl (want_yes rfl rfl (hF 15 (by decide))) rfl (by rw [hz]; decide) (ex_load rfl (eval_slot (hF 19 (by decide))) (ld_num (cell_keep cw2 hG.below))) hG.below
                    · exact rol_val rfl (want_yes rfl rfl (hF 15 (by decide))) rfl (by rw [hz]; decide) (ex_bin rfl (eval_slot (hF 20 (by decide))) rfl (by go_simp) (bin_gtt HGT.out)) hG.below
                    · exact rol_val rfl rfl rfl (by rw [hz]; decide) (ex_pick_no rfl (eval_slot (hF 15 (by decide))) (eval_slot (hF 21 (by decide)))) hG.below
                    · exact rol_val rfl rfl rfl (by rw [hz]; decide) (ex_move (Or.inl rfl) (eval_slot (hF 22 (by decide)))) hG.below
                    · exact rol_val rfl (want_yes rfl rfl (hF 23 (by decide))) rfl (by rw [hz]; decide) (ex_move (Or.inl rfl) (eval_slot ((hG.slots 0 (by decide)).trans rfl))) hG.below
                    · exact rol_val rfl (want_yes rfl rfl (hF 23 (by decide))) rfl (by rw [hz]; decide) (ex_move (Or.inl rfl) (eval_slot ((hG.slots 3 (by decide)).trans rfl))) hG.below
                    · exact rol_val rfl (want_yes rfl rfl (hF 23 (by decide))) rfl (by rw [hz]; decide) (ex_index rfl (eval_slot (hF 24 (by decide))) (eval_slot (hF 25 (by decide))) (idx_df HLT.out)) hG.below
                    · exact rol_val rfl (want_yes rfl rfl (hF 23 (by decide))) rfl (by rw [hz]; decide) (ex_field rfl (eval_slot (hF 26 (by decide))) fld2_df) hG.below
                    · exact rol_val rfl (want_yes rfl rfl (hF 23 (by decide))) rfl (by rw [hz]; decide) (ex_load rfl (eval_slot (hF 27 (by decide))) (ld_num (cell_keep cw2 hG.below))) hG.below
                    · exact rol_val rfl (want_yes rfl rfl (hF 23 (by decide))) rfl (by rw [hz]; decide) (ex_bin rfl (eval_slot (hF 28 (by decide))) rfl (by go_simp) (bin_lsb HLS.out)) hG.below
                    · exact rol_val rfl rfl rfl (by rw [hz]; decide) (ex_pick_no rfl (eval_slot (hF 23 (by decide))) (eval_slot (hF 29 (by decide)))) hG.below
                    · exact rol_val rfl rfl rfl (by rw [hz]; decide) (ex_move (Or.inl rfl) (eval_slot (hF 30 (by decide)))) hG.below
                    · exact rol_val rfl (want_yes rfl rfl (hF 31 (by decide))) rfl (by rw [hz]; decide) (ex_move (Or.inl rfl) (eval_slot ((hG.slots 3 (by decide)).trans rfl))) hG.below
                    · exact rol_val rfl (want_yes rfl rfl (hF 31 (by decide))) rfl (by rw [hz]; decide) (ex_bin rfl (eval_slot (hF 32 (by decide))) rfl (by go_simp) (bin_gtz HP.out)) hG.below
                    · exact rol_val rfl (want_yes rfl rfl (hF 31 (by decide))) rfl (by rw [hz]; decide) (ex_move (Or.inl rfl) (eval_slot (hF 33 (by decide)))) hG.below
                    · exact rol_val rfl (want_yes rfl rfl (hF 34 (by decide))) rfl (by rw [hz]; decide) (ex_move (Or.inl rfl) (eval_slot ((hG.slots 0 (by decide)).trans rfl))) hG.below
                    · exact rol_val rfl (want_yes rfl rfl (hF 34 (by decide))) rfl (by rw [hz]; decide) (ex_move (Or.inl rfl) (eval_slot ((hG.slots 3 (by decide)).trans rfl))) hG.below
                    · exact rol_val rfl (want_yes rfl rfl (hF 34 (by decide))) rfl (by rw [hz]; decide) (ex_bin rfl (eval_slot (hF 36 (by decide))) rfl (by go_simp) (bin_pred HM1.out)) hG.below
                    · exact rol_val rfl (want_yes rfl rfl (hF 34 (by decide))) rfl (by rw [hz]; decide) (ex_index rfl (eval_slot (hF 35 (by decide))) (eval_slot (hF 37 (by decide))) (idx_df HMT.out)) hG.below
                    · exact rol_val rfl (want_yes rfl rfl (hF 34 (by decide))) rfl (by rw [hz]; decide) (ex_field rfl (eval_slot (hF 38 (by decide))) fld_df) hG.below
                    · exact rol_val rfl (want_yes rfl rfl (hF 34 (by decide))) rfl (by rw [hz]; decide) (ex_load rfl (eval_slot (hF 39 (by decide))) (ld_node (cell_keep dw0 hG.below) (cell_keep dw1 hG.below))) hG.below
                    · exact rol_val rfl (want_yes rfl rfl (hF 34 (by decide))) rfl (by rw [hz]; decide) (ex_move (Or.inl rfl) (eval_slot ((hG.slots 0 (by decide)).trans rfl))) hG.below
                    · exact rol_val rfl (want_yes rfl rfl (hF 34 (by decide))) rfl (by rw [hz]; decide) (ex_move (Or.inl rfl) (eval_slot ((hG.slots 3 (by decide)).trans rfl))) hG.below
                    · exact rol_val rfl (want_yes rfl rfl (hF 34 (by decide))) rfl (by rw [hz]; decide) (ex_index rfl (eval_slot (hF 41 (by decide))) (eval_slot (hF 42 (by decide))) (idx_df HLT.out)) hG.below
                    · exact rol_val rfl (want_yes rfl rfl (hF 34 (by decide))) rfl (by rw [hz]; decide) (ex_field rfl (eval_slot (hF 43 (by decide))) fld_df) hG.below
                    · exact rol_val rfl (want_yes rfl rfl (hF 34 (by decide))) rfl (by rw [hz]; decide) (ex_load rfl (eval_slot (hF 44 (by decide))) (ld_node (cell_keep cw0 hG.below) (cell_keep cw1 hG.below))) hG.below
                    · refine rol_call rfl (want_yes rfl rfl (hF 34 (by decide))) rfl (by rw [hz]; decide) (ex_call rfl (by simp [eval_slot (hF 40 (by decide)), eval_slot (hF 45 (by decide))]) e2) (KL.out wx) ?_ hG.below hG.new
                      rintro e w1 ⟨rfl, hb1⟩
                      exact ⟨_, rfl, hb1, .inl rfl⟩
                    · exact rol_val rfl (want_yes rfl rfl (hF 34 (by decide))) rfl (by rw [hz]; decide) (ex_un rfl (eval_slot (hF 46 (by decide))) rfl) hG.below
                    · exact rol_val rfl (want_yes rfl rfl (hF 31 (by decide))) rfl (by rw [hz]; decide) (ex_pick_yes rfl (eval_slot (hF 34 (by decide))) (eval_slot (hF 47 (by decide)))) hG.below
                    · exact rol_val rfl rfl rfl (by rw [hz]; decide) (ex_pick_no rfl (eval_slot (hF 31 (by decide))) (eval_slot (hF 48 (by decide)))) hG.below
                  · intro a wx who hG hF
                    have fv59 : a.tmps.getD 59 undef = .bool false := eval_slot (s := 59) (hF 49 (of_decide_eq_true (by kernel_rfl)) (of_decide_eq_true (by kernel_rfl)))
                    have hbx := hG.below
                    have hnx := hG.new
                    rw [hG.frame]
                    simp only [List.foldl_cons, List.foldl_nil, List.setIfInBounds_toArray, List.set_cons_zero, List.set_cons_succ]
                    generalize a.tmps.getD 10 undef = u10
                    generalize a.tmps.getD 11 undef = u11
                    generalize a.tmps.getD 12 undef = u12
                    generalize a.tmps.getD 13 undef = u13
                    generalize a.tmps.getD 14 undef = u14
                    generalize a.tmps.getD 15 undef = u15
                    generalize a.tmps.getD 16 undef = u16
                    generalize a.tmps.getD 17 undef = u17
                    generalize a.tmps.getD 18 undef = u18
                    generalize a.tmps.getD 19 undef = u19
                    generalize a.tmps.getD 20 undef = u20
                    generalize a.tmps.getD 21 undef = u21
                    generalize a.tmps.getD 22 undef = u22
                    generalize a.tmps.getD 23 undef = u23
                    generalize a.tmps.getD 24 undef = u24
                    generalize a.tmps.getD 25 undef = u25
                    generalize a.tmps.getD 26 undef = u26
                    generalize a.tmps.getD 27 undef = u27
                    generalize a.tmps.getD 28 undef = u28
                    generalize a.tmps.getD 29 undef = u29
                    generalize a.tmps.getD 30 undef = u30
                    generalize a.tmps.getD 31 undef = u31
                    generalize a.tmps.getD 32 undef = u32
                    generalize a.tmps.getD 33 undef = u33
                    generalize a.tmps.getD 34 undef = u34
                    generalize a.tmps.getD 35 undef = u35
                    generalize a.tmps.getD 36 undef = u36
                    generalize a.tmps.getD 37 undef = u37
                    generalize a.tmps.getD 38 undef = u38
                    generalize a.tmps.getD 39 undef = u39
                    generalize a.tmps.getD 40 undef = u40
                    generalize a.tmps.getD 41 undef = u41
                    generalize a.tmps.getD 42 undef = u42
                    generalize a.tmps.getD 43 undef = u43
                    generalize a.tmps.getD 44 undef = u44
                    generalize a.tmps.getD 45 undef = u45
                    generalize a.tmps.getD 46 undef = u46
                    generalize a.tmps.getD 47 undef = u47
                    generalize a.tmps.getD 48 undef = u48
                    generalize a.tmps.getD 49 undef = u49
                    generalize a.tmps.getD 50 undef = u50
                    generalize a.tmps.getD 51 undef = u51
                    generalize a.tmps.getD 52 undef = u52
                    generalize a.tmps.getD 53 undef = u53
                    generalize a.tmps.getD 54 undef = u54
                    generalize a.tmps.getD 55 undef = u55
                    generalize a.tmps.getD 56 undef = u56
                    generalize a.tmps.getD 57 undef = u57
                    generalize a.tmps.getD 58 undef = u58
                    rw [fv59]
                    clear hF hG fv59
                    go_wp2
                    go_roundw
                    case rel => exact ⟨k + 1, by omega, by go_num, H6, Lib.hid (below_step HB.out hbx)⟩
                    case measure => simp [intOf]; omega
    · have e : R = true := by rw [← HR.out]; exact okD_yes fun j hj => H.out j (by rw [HN.out] at hj; omega)
      subst e
      go_wp2
      go_ret
      exact ⟨rfl, HB.out⟩

theorem all2_drop {ns : List Nd} {k : Nat} (h : k < ns.length) : allN2 (ns.drop k) = (okN (ns.getD k ([], [])) && allN2 (ns.drop (k + 1))) := by
  unfold allN2; rw [List.drop_eq_getElem_cons h, List.all_cons, nd_getD h]
end Go.Proofs.YtglhjdbnpdoinaaGreat
