/- THE TEXTS OF OctQ VerA VerB VerC VerD: strings.ContainsAny on ASCII octets: and no draw is taken back. The contracts of the library's cuts at a version, and of version's words. The contract of version's words. The contracts of version's numbers and fit. The contract of version's Split. -/
import Derived.Test.YtdefphacdcbljaaOctO
import Derived.Test.YtdefphacdcbljaaOctS
import Derived.Test.YtdefphacdcbljaaRows
import Derived.WalkKit
import Derived.WalkSpells
import Derived.WalkLawsBesides
import Derived.Test.YtdefphacdcbljaaVerM
import Derived.Test.YtdefphacdcbljaaOctJ
import Derived.Deep.QuietTactic
import Derived.BigQuiet
import Derived.OwnWalk
import Derived.RegionTactic
import Derived.BigRegion
import Derived.Deep.RegionHeld3
namespace Go.Proofs.Ytdefphacdcbljaa
open Go.RowKit
set_option maxRecDepth 100000

theorem idxany_bel (s chars : ByteArray) (w : World) (h2 : 2 ≤ chars.size) (hs : s.size < 4294967281) (hcs : chars.size < 4294967281) (has : ∀ (j : Nat) b, s.data.toList[j]? = some b → b.toNat < 128) (hac : ∀ (j : Nat) b, chars.data.toList[j]? = some b → b.toNat < 128) :
    Calls Try.prog 89 #[.string s, .string chars] w fun e w' => e = .returned (.int .i64 (Lib.indexAny s.data.toList chars.data.toList)) ∧ Bel w.heap.size w w' := by
  have h116 : (Try.prog.info? (Try.lays150_ren.t 116)).map (fun i => (i.zero, i.size)) = some (some (.agg (Array.replicate 256 (.bool false))), 256) := by kernel_rfl
  by_cases h8 : s.size ≤ 8
  · refine (Any.strings_IndexAny_short (ρ := Try.lays150_ren) { Try.lays150 with } s chars w h2 h8 has).mono fun e w' ⟨h1, pos, h3⟩ => ⟨h1, ?_⟩
    rw [h3]
    exact (Bel.refl _ _).alloc (Nat.le_refl _) _
  · refine (Any.strings_IndexAny_long (ρ := Try.lays150_ren) { Try.lays150 with } (zero_of_info h116).1 (zero_of_info h116).2 s chars w h2 (by omega) hs hcs hac).mono fun e w' ⟨h1, h3⟩ => ⟨h1, ?_⟩
    rw [h3]
    exact ((Bel.refl _ _).alloc (Nat.le_refl _) _).alloc (by simp) _
set_option maxHeartbeats 1000000 in
theorem containsany_bel (s chars : ByteArray) (w : World) (h2 : 2 ≤ chars.size) (hs : s.size < 4294967281) (hcs : chars.size < 4294967281) (has : ∀ (j : Nat) b, s.data.toList[j]? = some b → b.toNat < 128) (hac : ∀ (j : Nat) b, chars.data.toList[j]? = some b → b.toNat < 128) :
    Calls Try.prog 76 #[.string s, .string chars] w fun e w' => e = .returned (.bool (Lib.containsAny s.data.toList chars.data.toList)) ∧ Bel w.heap.size w w' := by
  have c := idxany_bel s chars w h2 hs hcs has hac
  clear has hac
  go_enter Try.func76, Try.ntmps76
  go_wp2_with (go_at_call 89; refine c.mono ?_; rintro e w' ⟨rfl, hw⟩)
  go_ret
  exact ⟨rfl, hw⟩
end Go.Proofs.Ytdefphacdcbljaa

namespace Go.Proofs.Ytdefphacdcbljaa
open Go.RowKit
set_option maxRecDepth 100000

theorem beg_yes (r : List UInt8) : Lib.hasPrefix (118 :: r) [118] = true ∧ Lib.trimPrefix (118 :: r) [118] = r := by
  have h : Lib.hasPrefix (118 :: r) [118] = true := by simp [Lib.hasPrefix]
  exact ⟨h, by unfold Lib.trimPrefix; rw [if_pos h]; rfl⟩
theorem beg_no {l : List UInt8} (h : Lib.hasPrefix l [118] = false) : splitV l = none ∧ Lib.trimPrefix l [118] = l := by
  refine ⟨?_, by unfold Lib.trimPrefix; rw [if_neg (by simp [h])]⟩
  cases l with
  | nil => rfl
  | cons x r =>
    rw [splitV, if_neg]
    rintro ⟨hx, _⟩
    have ex : x = 118 := by rw [← UInt8.toNat_inj]; have : (118 : UInt8).toNat = 118 := rfl
                            omega
    rw [ex, (beg_yes r).1] at h
    cases h
theorem beg_form {l : List UInt8} (h : Lib.hasPrefix l [118] = true) : ∃ r, l = 118 :: r := by
  cases l with
  | nil => simp [Lib.hasPrefix] at h
  | cons x r =>
    simp [Lib.hasPrefix] at h
    exact ⟨r, by rw [h]⟩

theorem cutp_any (s : ByteArray) (w : World) :
    Calls Try.prog 57 #[.string s, .string ⟨#[118]⟩] w fun e w' => e = .returned (.tuple #[.string (mkB (Lib.trimPrefix s.data.toList [118])), .bool (Lib.hasPrefix s.data.toList [118])]) ∧ w = w' :=
  (Try.strings_CutPrefix s ⟨#[118]⟩ w).mono fun _ _ ⟨h, hw⟩ => ⟨h, hw.symm⟩

theorem ib_ix (l : List UInt8) : Lib.indexByte l 45 = if ixL l < l.length then ((ixL l : Nat) : Int) else -1 := by
  induction l with
  | nil => rfl
  | cons x l ih =>
    rw [Lib.indexByte, ih, ixL]
    by_cases hx : (x.toNat : Int) = 45
    · have ex : x = 45 := by rw [← UInt8.toNat_inj]; have : (45 : UInt8).toNat = 45 := rfl
                             omega
      simp [ex]
    · have ex : (x == 45) = false := by
        rw [beq_eq_false_iff_ne]; intro e; subst e; exact hx rfl
      rw [ex, if_neg hx]
      simp only [Bool.false_eq_true, if_false, List.length_cons]
      by_cases h : ixL l < l.length
      · have h' : ixL l + 1 < l.length + 1 := by omega
        rw [if_pos h, if_pos h']
        have : (((ixL l : Nat) : Int) == -1) = false := by rw [beq_eq_false_iff_ne]; omega
        rw [this, if_neg (by simp)]
        omega
      · have h' : ¬ ixL l + 1 < l.length + 1 := by omega
        rw [if_neg h, if_neg h']
        rfl

set_option maxHeartbeats 400000 in
theorem lcut_any (s : ByteArray) (w : World) (hs : s.size ≤ 1000000000) :
    Calls Try.prog 66 #[.string s, .string ⟨#[45]⟩] w fun e w' => e = .returned (.tuple #[.string (mkB (s.data.toList.take (ixL s.data.toList))), .string (mkB (s.data.toList.drop (ixL s.data.toList + 1))), .bool (decide (ixL s.data.toList < s.data.toList.length))]) ∧ ∃ n, w' = w.drewN n := by
  obtain ⟨i, hi⟩ : ∃ i, ixL s.data.toList = i := ⟨_, rfl⟩
  have hle := ixL_le s.data.toList
  have hib := ib_ix s.data.toList
  have hl := Lib.size_eq s
  rw [hi] at hle hib ⊢
  rw [← hl] at hle hib ⊢
  by_cases h : i < s.size
  · rw [if_pos h] at hib
    have HIB := Lib.hid hib
    have e1 : s.data.toList.take i = (s.data.toList.drop 0).take (i - 0) := by simp
    have e2 : s.data.toList.drop (i + 1) = (s.data.toList.drop (i + 1)).take (s.size - (i + 1)) := by rw [List.take_of_length_le (by simp)]
    have E1 := Lib.hid e1; have E2 := Lib.hid e2
    clear hib hi hl e1 e2
    have k1 : (0 : Int) ≤ (i : Int) := by omega
    have k2 : (i : Int) ≤ (s.size : Int) := by omega
    have k3 : IntKind.i64.wrap ((i : Int) + 1) = (i : Int) + 1 := IntWalk.i64_in _ (by omega)
    have k4 : (0 : Int) ≤ (i : Int) + 1 := by omega
    have k5 : (i : Int) + 1 ≤ (s.size : Int) := by omega
    have k6 : ((i : Int) + 1).toNat = i + 1 := by omega
    go_enter Try.func66, Try.ntmps66
    go_wp2_with (go_at_call 74; refine (Try.stringslite_Index_one s 45 w).mono ?_; rintro e w' ⟨rfl, rfl⟩; rw [HIB.out])
    go_quiet (fail)
    go_wp2
    ((try simp only [Exit.inBlock, Exit.then]); refine bodyPost_ret (results_tmp3 rfl _ _ _) rfl ?_)
    exact ⟨by rw [decide_eq_true h, strV_mk, strV_mk, ← E1.out, ← E2.out]; rfl, _, rfl⟩
  · rw [if_neg h] at hib
    have HIB := Lib.hid hib
    have e1 : s.data.toList.take i = s.data.toList := List.take_of_length_le (by omega)
    have e2 : s.data.toList.drop (i + 1) = [] := List.drop_eq_nil_of_le (by omega)
    have E1 := Lib.hid e1; have E2 := Lib.hid e2
    clear hib hi hl e1 e2
    go_enter Try.func66, Try.ntmps66
    go_wp2_with (go_at_call 74; refine (Try.stringslite_Index_one s 45 w).mono ?_; rintro e w' ⟨rfl, rfl⟩; rw [HIB.out])
    ((try simp only [Exit.inBlock, Exit.then]); refine bodyPost_ret (results_tmp3 rfl _ _ _) rfl ?_)
    exact ⟨by rw [decide_eq_false h, E1.out, E2.out]; rfl, 0, rfl⟩

set_option maxHeartbeats 400000 in
theorem cut_any (s : ByteArray) (w : World) (hs : s.size ≤ 1000000000) :
    Calls Try.prog 58 #[.string s, .string ⟨#[45]⟩] w fun e w' => e = .returned (.tuple #[.string (mkB (s.data.toList.take (ixL s.data.toList))), .string (mkB (s.data.toList.drop (ixL s.data.toList + 1))), .bool (decide (ixL s.data.toList < s.data.toList.length))]) ∧ ∃ n, w' = w.drewN n := by
  have HS := Lib.hid hs
  go_enter Try.func58, Try.ntmps58
  go_wp2_with (go_at_call 66; refine (lcut_any s w HS.out).mono ?_; rintro e w' ⟨rfl, n, rfl⟩)
  ((try simp only [Exit.inBlock, Exit.then]); refine bodyPost_ret (results_tmp3 rfl _ _ _) rfl ?_)
  exact ⟨rfl, _, rfl⟩

/-! ### Words -/
theorem oct_word (c : UInt8) : (hasB [1, 2, 3] (clsI c.toNat) && !([46, 95, 126].contains c)) = wordOct c := by
  have h : ∀ n : Fin 256, (hasB [1, 2, 3] (clsI (n.1 : Nat)) && !([46, 95, 126].contains n.1)) = (hasB [1, 2] (clsI (n.1 : Nat)) || decide (n.1 = 45)) := by decide +kernel
  have := h ⟨c.toNat, UInt8.toNat_lt c⟩
  unfold wordOct
  rw [← this]
  have e : ([46, 95, 126] : List UInt8).contains c = ([46, 95, 126] : List Nat).contains c.toNat := by
    rw [Bool.eq_iff_iff, List.contains_iff_mem, List.contains_iff_mem]
    simp only [List.mem_cons, List.not_mem_nil, or_false, ← UInt8.toNat_inj]
    rfl
  rw [e]
theorem ia_neg (ch : List UInt8) : ∀ l, Lib.containsAny l ch = l.any ch.contains
  | [] => by simp [Lib.containsAny, Lib.indexAny]
  | b :: l => by
    have ih := ia_neg ch l
    have hg := Lib.indexAny_ge ch l
    unfold Lib.containsAny at ih ⊢
    rw [Lib.indexAny, List.any_cons, ← ih]
    split
    · rename_i h; rw [h]; simp
    · rename_i h
      have : ch.contains b = false := by simpa using h
      rw [this, Bool.false_or]
      split
      · rename_i h1; have : Lib.indexAny l ch = -1 := by simpa using h1
        rw [this]; try rfl
      · rename_i h1; have : ¬ Lib.indexAny l ch = -1 := by simpa using h1
        rw [decide_eq_decide]; omega
theorem word_all (l : List UInt8) : (allB l [1, 2, 3] && !(Lib.containsAny l [46, 95, 126])) = l.all wordOct := by
  rw [ia_neg]
  induction l with
  | nil => rfl
  | cons c l ih =>
    rw [List.all_cons, ← ih, ← oct_word, List.any_cons]
    unfold allB
    rw [List.all_cons]
    cases hasB [1, 2, 3] (clsI c.toNat) <;> cases ([46, 95, 126] : List UInt8).contains c <;> simp
theorem all_ascii {l : List UInt8} (h : allB l [1, 2, 3] = true) : ∀ (j : Nat) b, l[j]? = some b → b.toNat < 128 := by
  intro j b hb
  have hm := List.mem_of_getElem? hb
  have := List.all_eq_true.1 h b hm
  have h2 : ∀ n : Fin 256, hasB [1, 2, 3] (clsI (n.1 : Nat)) = true → n.1 < 128 := by decide +kernel
  exact h2 ⟨b.toNat, UInt8.toNat_lt b⟩ this
theorem ints_lit3 (w : World) (x y z : Int) (t : TypeId) : Ints (w.alloc (.cells #[.int .i64 x, .int .i64 y, .int .i64 z] t)) (.slice (some ⟨w.heap.size, 0, none⟩) 3 3) [x, y, z] :=
  Ints.lit w _ [x, y, z] t rfl (by simp)

end Go.Proofs.Ytdefphacdcbljaa

namespace Go.Proofs.Ytdefphacdcbljaa
open Go.RowKit
set_option maxRecDepth 100000

set_option maxHeartbeats 800000 in
theorem isword_any (s : ByteArray) (w : World) (hs : s.size ≤ 1000000000) :
    Calls Try.prog 69 #[.string s] w fun e w' => e = .returned (.bool (wordL s.data.toList)) ∧ Bel w.heap.size w w' := by
  have HS : Hid (s.size ≤ maxLen) := Lib.hid (by unfold maxLen; omega)
  have HS4 : Hid (s.size < 4294967281) := Lib.hid (by omega)
  have hac : ∀ (j : Nat) b, (⟨#[46, 95, 126]⟩ : ByteArray).data.toList[j]? = some b → b.toNat < 128 := by
    intro j b hb
    have : b ∈ ([46, 95, 126] : List UInt8) := List.mem_of_getElem? hb
    simp only [List.mem_cons, List.not_mem_nil, or_false] at this
    rcases this with rfl | rfl | rfl <;> decide
  have HAC := Lib.hid hac
  clear hac hs
  obtain ⟨d, hd⟩ : ∃ d, s.data.toList.all isD = d := ⟨_, rfl⟩
  have hw : wordL s.data.toList = if d = true then mayL s.data.toList else s.data.toList.all wordOct := by unfold wordL; rw [hd]
  obtain ⟨a, ha⟩ : ∃ a, allB s.data.toList [1, 2, 3] = a := ⟨_, rfl⟩
  have hwa := word_all s.data.toList
  rw [ha] at hwa
  have HD := Lib.hid hd; have HW := Lib.hid hw; have HA := Lib.hid ha; have HWA := Lib.hid hwa; clear hd hw ha hwa
  have B0 := Bel.refl w.heap.size w
  cases d
  · cases a
    all_goals
      go_enter Try.func69, Try.ntmps69
      go_wp2_with (first
        | (go_at_call 75; refine (all_any s HS.out _ _ _ (by first | exact Ints.lit1 _ _ _ | exact ints_lit3 _ _ _ _ _)).mono ?_; rintro e w1 ⟨rfl, hb1⟩; have B1 := bel_step (Bel.alloc (by assumption) (bel_size (by assumption)) _) hb1; clear hb1; first | rw [all_dig, HD.out] | rw [HA.out])
        | (go_at_call 76; refine (containsany_bel s ⟨#[46, 95, 126]⟩ _ (by decide) HS4.out (by decide) (all_ascii HA.out) HAC.out).mono ?_; rintro e w3 ⟨rfl, hb3⟩; have B3 := bel_step (by assumption) hb3; clear hb3))
      go_ret
      exact ⟨ret_bool (by rw [HW.out, ← HWA.out]; simp), by assumption⟩
  · go_enter Try.func69, Try.ntmps69
    go_wp2_with (first
      | (go_at_call 75; refine (all_any s HS.out _ [1] _ (Ints.lit1 _ _ _)).mono ?_; rintro e w1 ⟨rfl, hb1⟩; have B1 := bel_step (Bel.alloc (by assumption) (bel_size (by assumption)) _) hb1; clear hb1; rw [all_dig, HD.out])
      | (go_at_call 68; refine (may_any s _ HS.out).mono ?_; rintro e w2 ⟨rfl, hb2⟩; have B2 := bel_step (by assumption) hb2; clear hb2))
    go_ret
    exact ⟨ret_bool (by rw [HW.out]; simp), by assumption⟩
end Go.Proofs.Ytdefphacdcbljaa

namespace Go.Proofs.Ytdefphacdcbljaa
open Go.RowKit
set_option maxRecDepth 100000

/-- A version's parts, in memory: three texts and a slice. -/
structure VerIn (w : World) (V : Value) (v : Ver) : Prop where
  ex : ∃ a c, V = .agg #[.string (mkB v.1), .string (mkB v.2.1), .string (mkB v.2.2.1), .slice a v.2.2.2.length c] ∧ Strs w (.slice a v.2.2.2.length c) v.2.2.2
/-- No part is longer than any memory. -/
def smallV (n : Nat) (v : Ver) : Prop := v.1.length ≤ n ∧ v.2.1.length ≤ n ∧ v.2.2.1.length ≤ n ∧ v.2.2.2.length ≤ n ∧ ∀ l ∈ v.2.2.2, l.length ≤ n
theorem VerIn.below {w w' : World} {V : Value} {v : Ver} (h : VerIn w V v) (hb : Bel w.heap.size w w') : VerIn w' V v := by
  obtain ⟨a, c, hV, hs⟩ := h.ex
  exact ⟨a, c, hV, hs.below hb⟩
theorem VerIn.drewN {w : World} {V : Value} {v : Ver} (n : Nat) (h : VerIn w V v) : VerIn (w.drewN n) V v := by
  obtain ⟨a, c, hV, hs⟩ := h.ex
  exact ⟨a, c, hV, hs.drewN n⟩

set_option maxHeartbeats 400000 in
theorem numbers_ex (x y z : ByteArray) (a : Option Addr) (n c : Nat) (w : World) :
    Calls Try.prog 67 #[.agg #[.string x, .string y, .string z, .slice a n c]] w fun e w' => e = .returned (.agg #[.string x, .string y, .string z]) ∧ (w.alloc (.cells #[.string x, .string y, .string z, .slice a n c] 73)).alloc (.cells #[.string x, .string y, .string z] 90) = w' := by
  go_enter Try.func67, Try.ntmps67
  go_wp2
  exact bodyPost_ret (v := .agg #[.string x, .string y, .string z]) (by simp [results, Try.results67, go_sem]) rfl ⟨rfl, rfl⟩
theorem numbers_any (x y z : ByteArray) (a : Option Addr) (n c : Nat) (w : World) :
    Calls Try.prog 67 #[.agg #[.string x, .string y, .string z, .slice a n c]] w fun e w' => e = .returned (.agg #[.string x, .string y, .string z]) ∧ Bel w.heap.size w w' := by
  refine (numbers_ex x y z a n c w).mono ?_
  rintro e w' ⟨rfl, rfl⟩
  exact ⟨rfl, ((Bel.refl _ _).alloc (Nat.le_refl _) _).alloc (by simp) _⟩

theorem bel_keep {w w' : World} {p : Addr} {v : Value} (h : w.cell? p = some v) (hb : Bel w.heap.size w w') : w'.cell? p = some v :=
  (hb.cell (World.block_lt_of_cell? w _ h)).trans h

theorem arr_index (x y z : Value) (w : World) :
    Sem.run Try.prog (Instr.index 90 (.agg #[x, y, z]) (.int .i64 0)) w = .ok x w ∧ Sem.run Try.prog (Instr.index 90 (.agg #[x, y, z]) (.int .i64 1)) w = .ok y w ∧ Sem.run Try.prog (Instr.index 90 (.agg #[x, y, z]) (.int .i64 2)) w = .ok z w := by
  have hi : (Try.prog.info? 9).map (·.size) = some 1 := by kernel_rfl
  have ha : ∀ w, Sem.run Try.prog (isAgg 9) w = .ok false w := by intro w; kernel_rfl
  refine ⟨?_, ?_, ?_⟩ <;> simp [Instr.index, run_underlying Try.underlying90, asIntOf, part, ha]

set_option maxHeartbeats 1600000 in
set_option maxRecDepth 100000 in
theorem fit_any (V : Value) (v : Ver) (w : World) (hV : VerIn w V v) (hs : smallV 1000000000 v) :
    Calls Try.prog 59 #[V] w fun e w' => e = .returned (.bool (fitL v)) ∧ Bel w.heap.size w w' := by
  obtain ⟨a, c, rfl, hst⟩ := hV.ex
  obtain ⟨ma, mi, pa, pre⟩ := v
  obtain ⟨s1, s2, s3, s4, s5⟩ := hs
  simp only at s1 s2 s3 s4 s5 hst ⊢
  clear hV
  have M1 : Hid ((mkB ma).size ≤ maxLen) := Lib.hid (by rw [mkB_size]; unfold maxLen; omega)
  have M2 : Hid ((mkB mi).size ≤ maxLen) := Lib.hid (by rw [mkB_size]; unfold maxLen; omega)
  have M3 : Hid ((mkB pa).size ≤ maxLen) := Lib.hid (by rw [mkB_size]; unfold maxLen; omega)
  have HST := Lib.hid hst; have S5 := Lib.hid s5; clear hst s5 s1 s2 s3
  obtain ⟨n, hn⟩ : ∃ n, pre.length = n := ⟨_, rfl⟩
  rw [hn] at s4 ⊢
  have HN := Lib.hid hn; clear hn
  have hx0 : ∀ w, Sem.run Try.prog (Instr.index 90 (.agg #[.string (mkB ma), .string (mkB mi), .string (mkB pa)]) (.int .i64 0)) w = .ok (.string (mkB ma)) w := fun w => (arr_index _ _ _ w).1
  have hx1 : ∀ w, Sem.run Try.prog (Instr.index 90 (.agg #[.string (mkB ma), .string (mkB mi), .string (mkB pa)]) (.int .i64 1)) w = .ok (.string (mkB mi)) w := fun w => (arr_index _ _ _ w).2.1
  have hx2 : ∀ w, Sem.run Try.prog (Instr.index 90 (.agg #[.string (mkB ma), .string (mkB mi), .string (mkB pa)]) (.int .i64 2)) w = .ok (.string (mkB pa)) w := fun w => (arr_index _ _ _ w).2.2
  go_enter Try.func59, Try.ntmps59
  go_wp2_with (go_at_call 67; refine (numbers_any _ _ _ _ _ _ _).mono ?_; rintro e w1 ⟨rfl, hb1⟩)
  have hbox : w1.cell? ⟨w.heap.size, 3, none⟩ = some (.slice a n c) := bel_keep (w := w.alloc _) (by rw [World.cell?_alloc_new]; rfl) hb1
  have HBOX := Lib.hid hbox
  have HB1 := Lib.hid (bel_step ((Bel.refl w.heap.size w).alloc (Nat.le_refl _) _) hb1)
  clear hbox hb1
  go_loopw [9] (fun i wr => ∃ k : Int, (k = 0 ∨ k = 1 ∨ k = 2 ∨ k = 3) ∧ i = .int .i64 k ∧ Hid ((0 < k → mayL ma = true) ∧ (1 < k → mayL mi = true) ∧ (2 < k → mayL pa = true)) ∧ Hid (wr.cell? ⟨w.heap.size, 3, none⟩ = some (.slice a n c)) ∧ Hid (Bel w.heap.size w wr)) (fun i _ => 3 - (intOf i).toNat)
  case atStart => exact ⟨0, by omega, rfl, Lib.hid ⟨fun h => by omega, fun h => by omega, fun h => by omega⟩, HBOX, HB1⟩
  case round =>
    obtain ⟨k, hk, rfl, H, HB, HL⟩ := hrel
    rcases hk with rfl | rfl | rfl | rfl
    · obtain ⟨m, hm⟩ : ∃ m, mayL ma = m := ⟨_, rfl⟩
      have HM := Lib.hid hm; clear hm
      cases m
      all_goals
        go_wp2_with (go_at_call 68; refine (may_any _ _ M1.out).mono ?_; rintro e w2 ⟨rfl, hb2⟩; have HB' := Lib.hid (bel_keep HB.out hb2); have HL' := Lib.hid (bel_step HL.out hb2); clear hb2; rw [mkB_list, HM.out])
      · go_ret
        exact ⟨ret_bool (by unfold fitL; simp [HM.out]), HL'.out⟩
      · go_roundw
        case rel => exact ⟨1, by omega, rfl, Lib.hid ⟨fun _ => HM.out, fun h => by omega, fun h => by omega⟩, HB', HL'⟩
        case measure => simp [intOf]
    · obtain ⟨m, hm⟩ : ∃ m, mayL mi = m := ⟨_, rfl⟩
      have HM := Lib.hid hm; clear hm
      cases m
      all_goals
        go_wp2_with (go_at_call 68; refine (may_any _ _ M2.out).mono ?_; rintro e w2 ⟨rfl, hb2⟩; have HB' := Lib.hid (bel_keep HB.out hb2); have HL' := Lib.hid (bel_step HL.out hb2); clear hb2; rw [mkB_list, HM.out])
      · go_ret
        exact ⟨ret_bool (by unfold fitL; simp [HM.out]), HL'.out⟩
      · go_roundw
        case rel => exact ⟨2, by omega, rfl, Lib.hid ⟨fun _ => H.out.1 (by omega), fun _ => HM.out, fun h => by omega⟩, HB', HL'⟩
        case measure => simp [intOf]
    · obtain ⟨m, hm⟩ : ∃ m, mayL pa = m := ⟨_, rfl⟩
      have HM := Lib.hid hm; clear hm
      cases m
      all_goals
        go_wp2_with (go_at_call 68; refine (may_any _ _ M3.out).mono ?_; rintro e w2 ⟨rfl, hb2⟩; have HB' := Lib.hid (bel_keep HB.out hb2); have HL' := Lib.hid (bel_step HL.out hb2); clear hb2; rw [mkB_list, HM.out])
      · go_ret
        exact ⟨ret_bool (by unfold fitL; simp [HM.out]), HL'.out⟩
      · go_roundw
        case rel => exact ⟨3, by omega, rfl, Lib.hid ⟨fun _ => H.out.1 (by omega), fun _ => H.out.2.1 (by omega), fun _ => HM.out⟩, HB', HL'⟩
        case measure => simp [intOf]
    · have hcell := HB.out
      go_wp2
      clear hcell hx0 hx1 hx2
      go_loopw [19] (fun i w5 => ∃ k : Nat, k ≤ n ∧ i = .int .i64 k ∧ Hid ((pre.take k).all wordL = true) ∧ Hid (Bel w.heap.size w w5)) (fun i _ => n - (intOf i).toNat)
      case atStart => exact ⟨0, by omega, rfl, Lib.hid (by simp), HL⟩
      case round =>
        obtain ⟨k, hk, rfl, HT, HL5⟩ := hrel
        by_cases hlt : k < n
        · have hlt' : k < pre.length := by rw [HN.out]; exact hlt
          obtain ⟨b, off, ha, hbl, hc⟩ := strs_at HST.out k hlt'
          subst ha
          have hcell := (HL5.out.cell hbl).trans hc
          have HSZ : Hid ((mkB (pre.getD k [])).size ≤ 1000000000) := Lib.hid (by rw [mkB_size]; exact S5.out _ (mem_getD hlt'))
          have HLT := Lib.hid hlt'
          clear hc hlt'
          obtain ⟨q, hq⟩ : ∃ q, q = pre.getD k [] := ⟨_, rfl⟩
          rw [← hq] at hcell HSZ
          obtain ⟨m, hm⟩ : ∃ m, wordL q = m := ⟨_, rfl⟩
          have HM := Lib.hid hm; have HQ := Lib.hid hq; clear hm hq
          cases m
          all_goals
            go_wp2_with (go_at_call 69; refine (isword_any _ _ HSZ.out).mono ?_; rintro e w2 ⟨rfl, hb2⟩; have HL' := Lib.hid (bel_step HL5.out hb2); clear hb2; rw [mkB_list, HM.out])
          · go_ret
            refine ⟨ret_bool ?_, HL'.out⟩
            have hno : pre.all wordL = false := by
              rw [List.all_eq_false]
              exact ⟨q, by rw [HQ.out]; exact mem_getD HLT.out, by rw [HM.out]; simp⟩
            unfold fitL; simp [hno]
          · go_roundw
            case rel => exact ⟨k + 1, by omega, by go_num, Lib.hid (all_take_succ HLT.out HT.out (by rw [← HQ.out]; exact HM.out)), HL'⟩
            case measure => simp [intOf]; omega
        · go_wp2
          go_ret
          refine ⟨ret_bool ?_, HL5.out⟩
          have hall : pre.all wordL = true := by have h5 := HT.out; rw [List.take_of_length_le (by rw [HN.out]; omega)] at h5; exact h5
          obtain ⟨h1, h2, h3⟩ := H.out
          unfold fitL; simp [hall, h1, h2, h3]
end Go.Proofs.Ytdefphacdcbljaa

namespace Go.Proofs.Ytdefphacdcbljaa
open Go.RowKit
set_option maxRecDepth 100000

theorem parts_l (l : List UInt8) (w : World) (hs : l.length ≤ 1000000000) :
    Calls Try.prog 55 #[.string (mkB l), .int .u8 46] w fun e w' => ∃ a c, e = .returned (.slice a (splitL 46 l).length c) ∧ Strs w' (.slice a (splitL 46 l).length c) (splitL 46 l) ∧ (∀ ad, a = some ad → w.heap.size ≤ ad.block) ∧ Bel w.heap.size w w' := by
  refine (parts_any (mkB l) 46 w (by rw [mkB_size]; exact hs)).mono ?_
  rintro e w' ⟨v, rfl, hown, hb⟩
  rw [mkB_list] at hown
  have hst := Strs.owned hown
  obtain ⟨a, c, rfl, _⟩ := hst.ex
  refine ⟨a, c, rfl, hst, fun ad ha => ?_, hb⟩
  rcases Joins.ownsRow_forms hown with ⟨he, _⟩ | ⟨g, cap, he⟩
  · injection he with he; rw [ha] at he; cases he
  · have hl := (hown.lt g (by rw [he]; rfl)).1
    injection he with he; rw [ha] at he; injection he with he; rw [he]; exact hl

section
variable {P : Program}
theorem results_cell_tmp {fn : Func} {p q : Tmp} {ty : TypeId} (h : fn.results = #[.cell p ty, .tmp q]) (tmps : Array Value) (w : World) (g : Nat) (t : TypeId) (cs : Array Value) (fr : Nat × Nat) (d : TypeDesc)
    (hp : tmps.getD p undef = .pointer (some ⟨g, 0, none⟩)) (hg : w.heap[g]? = some (.cells cs t fr))
    (hu : P.underlying ty = some d) (hd : (match d with | .struct _ | .array _ _ => true | _ => false) = true) (hi : (P.info? ty).map (·.size) = some cs.size) :
    (results fn tmps).run P w = .ok (.tuple #[.agg cs, tmps.getD q undef]) w := by
  have hp' : tmps[p]?.getD undef = .pointer (some ⟨g, 0, none⟩) := by simpa using hp
  simp [results, h, hp', asAddr, run_loadVar_row w g t ty cs fr d hg hu hd hi]
end
theorem Try.size_ver : (Try.prog.info? 73).map (·.size) = some 4 := by kernel_rfl
theorem row_keep {w w' : World} {g : Nat} {o : Obj} (h : w.heap[g]? = some o) (hb : Bel w.heap.size w w') : w'.heap[g]? = some o :=
  (hb.block g (Array.getElem?_eq_some_iff.1 h).1).trans h
theorem row4 {w : World} {g : Nat} {x0 x1 x2 x3 : Value} {t : TypeId} (h : w.heap[g]? = some (.cells #[x0, x1, x2, x3] t (0, 0))) :
    w.cell? ⟨g, 0, none⟩ = some x0 ∧ w.cell? ⟨g, 1, none⟩ = some x1 ∧ w.cell? ⟨g, 2, none⟩ = some x2 ∧ w.cell? ⟨g, 3, none⟩ = some x3 ∧
    w.frozen? ⟨g, 0, none⟩ = false ∧ w.frozen? ⟨g, 1, none⟩ = false ∧ w.frozen? ⟨g, 2, none⟩ = false ∧ w.frozen? ⟨g, 3, none⟩ = false := by
  simp [World.cell?, World.frozen?, h]
theorem row4_set {w : World} {g : Nat} {x0 x1 x2 x3 : Value} {t : TypeId} (h : w.heap[g]? = some (.cells #[x0, x1, x2, x3] t (0, 0))) (y0 y1 y2 y3 : Value) :
    ((((w.setCell ⟨g, 0, none⟩ y0).setCell ⟨g, 1, none⟩ y1).setCell ⟨g, 2, none⟩ y2).setCell ⟨g, 3, none⟩ y3).heap[g]? = some (.cells #[y0, y1, y2, y3] t (0, 0)) := by
  simp [World.setCell, Array.getElem?_modify, h]
def zeroV4 : Array Value := #[.string ⟨#[]⟩, .string ⟨#[]⟩, .string ⟨#[]⟩, .slice none 0 0]
theorem verin_zero (w : World) : VerIn w (.agg zeroV4) ([], [], [], []) :=
  ⟨⟨none, 0, rfl, ⟨none, 0, rfl, Nat.le_refl _, by unfold maxLen; omega, fun _ => rfl, fun h => absurd h (by simp)⟩⟩⟩

theorem row4_set3 {w : World} {g : Nat} {x0 x1 x2 x3 : Value} {t : TypeId} (h : w.heap[g]? = some (.cells #[x0, x1, x2, x3] t (0, 0))) (y : Value) :
    (w.setCell ⟨g, 3, none⟩ y).heap[g]? = some (.cells #[x0, x1, x2, y] t (0, 0)) := by
  simp [World.setCell, Array.getElem?_modify, h]
theorem row_far {w : World} {g k i : Nat} {o : Obj} (h : w.heap[k]? = some o) (hn : k ≠ g) (y : Value) : (w.setCell ⟨g, i, none⟩ y).heap[k]? = some o := by
  rw [Below.heap_setCell w ⟨g, i, none⟩ y k hn]; exact h
theorem Strs.far {w : World} {a : Option Addr} {n c : Nat} {ls : List (List UInt8)} (h : Strs w (.slice a n c) ls) {g i : Nat} {y : Value} (hn : ∀ ad, a = some ad → ad.block ≠ g) : Strs (w.setCell ⟨g, i, none⟩ y) (.slice a n c) ls := by
  obtain ⟨a', c', hv, h1, h2, hnn, h3⟩ := h.ex
  injection hv with e1 e2 e3
  subst e1 e2 e3
  refine ⟨a, c, rfl, h1, h2, hnn, fun hp => ?_⟩
  obtain ⟨b, off, ha, hlt, hc⟩ := h3 hp
  have hbg : b ≠ g := hn _ ha
  refine ⟨b, off, ha, by simpa using hlt, fun j hj => ?_⟩
  rw [World.cell?_setCell_other _ _ _ _ (by intro e; injection e with e; exact hbg e.symm)]
  exact hc j hj
/-- The words lie in memory that is new. -/
def FreshV (n : Nat) (V : Value) : Prop := ∀ x y z a k c, V = .agg #[x, y, z, .slice (some a) k c] → n ≤ a.block
theorem fresh_none (n : Nat) (x y z : Value) : FreshV n (.agg #[x, y, z, .slice none 0 0]) := by
  intro x' y' z' a k c h
  simp at h
theorem fresh_zero (n : Nat) : FreshV n (.agg zeroV4) := fresh_none n _ _ _
theorem fresh_slice {n k c : Nat} {a : Option Addr} (x y z : Value) (h : ∀ ad, a = some ad → n ≤ ad.block) : FreshV n (.agg #[x, y, z, .slice a k c]) := by
  intro x' y' z' a' k' c' he
  simp only [Value.agg.injEq, Array.mk.injEq, List.cons.injEq, Value.slice.injEq] at he
  exact h _ he.2.2.2.1.1
theorem FreshV.at {n k c : Nat} {a : Option Addr} {x y z : Value} (h : FreshV n (.agg #[x, y, z, .slice a k c])) : ∀ ad, a = some ad → n ≤ ad.block := by
  intro ad ha
  subst ha
  exact h x y z ad k c rfl

/-- What Split leaves: the version's parts, and a second answer. -/
def SplitOut (s : List UInt8) (x : Value) (w : World) (e : Ending) (w' : World) : Prop :=
  ∃ V, e = .returned (.tuple #[V, x]) ∧ VerIn w' V (verOf s) ∧ FreshV w.heap.size V ∧ Bel w.heap.size w w'

set_option maxHeartbeats 1600000 in
set_option maxRecDepth 100000 in
theorem split_any (s : ByteArray) (w : World) (hs : s.size ≤ 1000000000) :
    Calls Try.prog 47 #[.string s] w (SplitOut s.data.toList (.int .i64 (if okV s.data.toList = true then 0 else 1)) w) := by
  obtain ⟨l, hl⟩ : ∃ l, s.data.toList = l := ⟨_, rfl⟩
  have hsz := Lib.size_eq s
  rw [hl] at hsz ⊢
  cases hb : Lib.hasPrefix l [118]
  · obtain ⟨h1, h2⟩ := beg_no hb
    have hok : okV l = false := by unfold okV; rw [h1]; rfl
    have hvo := verOf_no hok
    rw [hok]
    have HP := Lib.hid hb; have HT := Lib.hid h2; have HL := Lib.hid hl; have HVO := Lib.hid hvo; clear hb h2 hl hok hvo h1
    have H1 : Hid (l.length ≤ 1000000000) := Lib.hid (by omega)
    clear hs hsz
    go_enter Try.func47, Try.ntmps47
    go_wp2_with (first
      | (go_at_call 57; refine (cutp_any s _).mono ?_; rintro e w' ⟨rfl, rfl⟩; rw [HL.out, HP.out, HT.out])
      | (go_at_call 58; refine (cut_any (mkB l) _ (by rw [mkB_size]; exact H1.out)).mono ?_; rintro e w0 ⟨rfl, hq⟩; have hb0 := bel_q hq; clear hq; have HROW0 := Lib.hid (row_keep (heap_alloc_new w (.cells zeroV4 73)) hb0); have HB0 := Lib.hid (bel_step ((Bel.refl w.heap.size w).alloc (Nat.le_refl _) (.cells zeroV4 73)) hb0); clear hb0; rw [mkB_list])
      | (go_at_call 55; refine (parts_l _ _ (Nat.le_trans (List.length_take_le' _ _) H1.out)).mono ?_; rintro e w1 ⟨a, c, rfl, hst, _, hb1⟩; have HROW := Lib.hid (row_keep HROW0.out hb1); have HB := Lib.hid (bel_step HB0.out hb1); clear hst hb1; obtain ⟨c0, c1, c2, c3, f0, f1, f2, f3⟩ := row4 HROW.out))
    try simp only [Exit.inBlock, Exit.then]
    exact bodyPost_ret (v := .tuple #[.agg zeroV4, .int .i64 1]) (results_cell_tmp (fn := Try.f47) (p := 2) (q := 3) (ty := 73) rfl _ _ w.heap.size 73 zeroV4 (0, 0) _ rfl (row4_set HROW.out _ _ _ _) Try.underlying73 rfl Try.size_ver) rfl ⟨_, rfl, by rw [HVO.out]; exact verin_zero _, fresh_zero _, (((HB.out.setCell (Nat.le_refl _) _).setCell (Nat.le_refl _) _).setCell (Nat.le_refl _) _).setCell (Nat.le_refl _) _⟩
  · obtain ⟨r, rfl⟩ := beg_form hb
    have h2 := (beg_yes r).2
    have HP := Lib.hid hb; have HT := Lib.hid h2; have HL := Lib.hid hl; clear hb h2 hl
    have H1 : Hid (r.length ≤ 1000000000) := Lib.hid (by rw [List.length_cons] at hsz; omega)
    clear hs hsz
    obtain ⟨ls, hls⟩ : ∃ ls, splitL 46 (r.take (ixL r)) = ls := ⟨_, rfl⟩
    by_cases h3 : ls.length = 3
    · match ls, h3 with
      | [x, y, z], _ =>
      have hcv : cutV r = (x, y, z, if ixL r < r.length then splitL 46 (r.drop (ixL r + 1)) else []) := by unfold cutV; rw [hls]; rfl
      have hsp : splitV (118 :: r) = if fitL (cutV r) = true then some (cutV r) else none := by
        rw [splitV, hls]; simp
      obtain ⟨f, hf⟩ : ∃ f, fitL (cutV r) = f := ⟨_, rfl⟩
      have hok : okV (118 :: r) = f := by unfold okV; rw [hsp, hf]; cases f <;> rfl
      have hvo : verOf (118 :: r) = if f = true then cutV r else ([], [], [], []) := by unfold verOf; rw [hsp, hf]; cases f <;> rfl
      have hpo : (if okV (118 :: r) = true then (0 : Int) else 1) = if f = true then 0 else 1 := by rw [hok]
      rw [hpo]
      have HLS := Lib.hid hls; have HVO := Lib.hid hvo; have HF := Lib.hid hf; have HCV := Lib.hid hcv; clear hls hvo hok hsp hf hcv
      clear hpo
      have HDR : Hid ((r.drop (ixL r + 1)).length ≤ 1000000000) := Lib.hid (by rw [List.length_drop]; have := H1.out; omega)
      have HSM : Hid (smallV 1000000000 (x, y, z, splitL 46 (r.drop (ixL r + 1))) ∧ smallV 1000000000 (x, y, z, [])) := Lib.hid (by
        have h1 := H1.out
        have hp : ∀ q ∈ [x, y, z], q.length ≤ 1000000000 := fun q hq => by
          rw [← HLS.out] at hq
          have := split_le 46 _ q hq
          have h2 := List.length_take_le' (ixL r) r
          omega
        have hx := hp x (by simp); have hy := hp y (by simp); have hz := hp z (by simp)
        have hd := HDR.out
        refine ⟨⟨hx, hy, hz, ?_, fun q hq => Nat.le_trans (split_le 46 _ q hq) hd⟩, hx, hy, hz, by simp, fun q hq => by cases hq⟩
        by_cases hm : ixL r < r.length
        · have := splitL_len 46 (r.drop (ixL r + 1)); rw [List.length_drop] at this; show (splitL 46 (r.drop (ixL r + 1))).length ≤ 1000000000; omega
        · rw [List.drop_eq_nil_of_le (by omega)]; show (splitL 46 []).length ≤ 1000000000; decide)
      by_cases hm : ixL r < r.length <;> cases f
      · have hd : decide (ixL r < r.length) = true := by simpa using hm
        have HFT : Hid (fitL (x, y, z, splitL 46 (r.drop (ixL r + 1))) = false) := Lib.hid (by have := HF.out; rw [HCV.out, if_pos hm] at this; exact this)
        have HCW : Hid (cutV r = (x, y, z, splitL 46 (r.drop (ixL r + 1)))) := Lib.hid (by rw [HCV.out, if_pos hm])
        clear hm
        go_enter Try.func47, Try.ntmps47
        go_wp2_with (first
          | (go_at_call 57; refine (cutp_any s _).mono ?_; rintro e w' ⟨rfl, rfl⟩; rw [HL.out, HP.out, HT.out])
          | (go_at_call 58; refine (cut_any (mkB r) _ (by rw [mkB_size]; exact H1.out)).mono ?_; rintro e w0 ⟨rfl, hq⟩; have hb0 := bel_q hq; clear hq; have HROW0 := Lib.hid (row_keep (heap_alloc_new w (.cells zeroV4 73)) hb0); have HB0 := Lib.hid (bel_step ((Bel.refl w.heap.size w).alloc (Nat.le_refl _) (.cells zeroV4 73)) hb0); clear hb0; rw [mkB_list])
          | (go_at_call 55; refine (parts_l _ _ (Nat.le_trans (List.length_take_le' _ _) H1.out)).mono ?_; rintro e w1 ⟨a, c, rfl, hst, _, hb1⟩; have HROW := Lib.hid (row_keep HROW0.out hb1); have HB := Lib.hid (bel_step HB0.out hb1); clear hb1; rw [HLS.out] at hst ⊢; obtain ⟨b, off, rfl, hbl, k0⟩ := strs_at hst 0 (by simp); obtain ⟨b', off', hab, _, k1⟩ := strs_at hst 1 (by simp); obtain ⟨b'', off'', hab2, _, k2⟩ := strs_at hst 2 (by simp); injection hab with hab; injection hab with hab hof; subst hab hof; injection hab2 with hab2; injection hab2 with hab2 hof; subst hab2 hof; clear hst;
              replace k0 : w1.cell? ⟨b, off, none⟩ = some (.string (mkB x)) := k0; replace k1 : w1.cell? ⟨b, off + 1, none⟩ = some (.string (mkB y)) := k1; replace k2 : w1.cell? ⟨b, off + 2, none⟩ = some (.string (mkB z)) := k2;
              have n0 := World.new_ne w1 _ k0; have n1 := World.new_ne w1 _ k1; have n2 := World.new_ne w1 _ k2))
        go_region
        obtain ⟨wA, hwA⟩ : ∃ wA, wA = (w1.alloc (.cells #[.string (mkB x), .string (mkB y), .string (mkB z), .slice none 0 0] 73)).drew := ⟨_, rfl⟩
        rw [← hwA]
        have rA : wA.heap[w1.heap.size]? = some (.cells #[.string (mkB x), .string (mkB y), .string (mkB z), .slice none 0 0] 73) := by rw [hwA]; exact heap_alloc_new _ _
        have zA : wA.heap[w.heap.size]? = some (.cells zeroV4 73) := by rw [hwA]; exact row_keep HROW.out (bel_step ((Bel.refl _ _).alloc (Nat.le_refl _) _) (bel_q ⟨1, rfl⟩))
        have bA : Bel w.heap.size w wA := by rw [hwA]; exact bel_step (HB.out.alloc HB.out.size _) (bel_q ⟨1, rfl⟩)
        have hlt : w.heap.size < w1.heap.size := (Array.getElem?_eq_some_iff.1 HROW.out).1
        have hle : w1.heap.size < wA.heap.size := (Array.getElem?_eq_some_iff.1 rA).1
        clear k0 k1 k2 n0 n1 n2 hwA
        obtain ⟨g, hg⟩ : ∃ g, g = w1.heap.size := ⟨_, rfl⟩
        rw [← hg] at rA hlt hle ⊢
        have hgz : g ≠ w.heap.size := by omega
        have hzg : w.heap.size ≠ g := by omega
        have RA := Lib.hid rA; have ZA := Lib.hid zA; have BA := Lib.hid bA; have HLT := Lib.hid hlt; have HLE := Lib.hid hle
        clear rA zA bA hlt hle hg HROW HB
        go_wp2_with (first
          | (go_at_call 55; refine (parts_l _ _ HDR.out).mono ?_; rintro e w2 ⟨a2, c2, rfl, hst2, hfr2, hb2⟩; have R2 := Lib.hid (row_keep RA.out hb2); have Z2 := Lib.hid (row_keep ZA.out hb2); have B2 := Lib.hid (bel_step BA.out hb2); have FR := Lib.hid hfr2; have ST2 := Lib.hid hst2; clear hst2 hfr2 hb2; obtain ⟨c0, c1, c2', c3, f0, f1, f2, f3⟩ := row4 R2.out)
          | (go_at_call 59; refine (fit_any _ (x, y, z, splitL 46 (r.drop (ixL r + 1))) _ ⟨⟨_, _, rfl, ST2.out.far fun ad ha => by have := FR.out ad ha; have := HLE.out; omega⟩⟩ HSM.out.1).mono ?_; rintro e w3 ⟨rfl, hb3⟩; rw [HFT.out];
              have R3 := Lib.hid (row_keep (row4_set3 R2.out (.slice a2 (splitL 46 (r.drop (ixL r + 1))).length c2)) hb3); have Z3 := Lib.hid (row_keep (row_far (g := g) (i := 3) Z2.out hzg (.slice a2 (splitL 46 (r.drop (ixL r + 1))).length c2)) hb3); have B3 := Lib.hid (bel_step (B2.out.setCell (p := ⟨g, 3, none⟩) (Nat.le_of_lt HLT.out) (.slice a2 (splitL 46 (r.drop (ixL r + 1))).length c2)) hb3); have ST3 := Lib.hid ((ST2.out.far (g := g) (i := 3) (y := .slice a2 (splitL 46 (r.drop (ixL r + 1))).length c2) fun ad ha => by have := FR.out ad ha; have := HLE.out; omega).below hb3); clear hb3; clear c0 c1 c2' c3 f0 f1 f2 f3;
              obtain ⟨d0, d1, d2, d3, e0, e1, e2, e3⟩ := row4 Z3.out; obtain ⟨c0, c1, c2', c3, f0, f1, f2, f3⟩ := row4 R3.out))
        try simp only [Exit.inBlock, Exit.then]
        exact bodyPost_ret (v := .tuple #[.agg zeroV4, .int .i64 1]) (results_cell_tmp (fn := Try.f47) (p := 2) (q := 3) (ty := 73) rfl _ _ w.heap.size 73 zeroV4 (0, 0) _ rfl (row4_set Z3.out _ _ _ _) Try.underlying73 rfl Try.size_ver) rfl ⟨_, rfl, by rw [HVO.out, if_neg (by simp)]; exact verin_zero _, fresh_zero _, (((B3.out.setCell (Nat.le_refl _) _).setCell (Nat.le_refl _) _).setCell (Nat.le_refl _) _).setCell (Nat.le_refl _) _⟩
      · have hd : decide (ixL r < r.length) = true := by simpa using hm
        have HFT : Hid (fitL (x, y, z, splitL 46 (r.drop (ixL r + 1))) = true) := Lib.hid (by have := HF.out; rw [HCV.out, if_pos hm] at this; exact this)
        have HCW : Hid (cutV r = (x, y, z, splitL 46 (r.drop (ixL r + 1)))) := Lib.hid (by rw [HCV.out, if_pos hm])
        clear hm
        go_enter Try.func47, Try.ntmps47
        go_wp2_with (first
          | (go_at_call 57; refine (cutp_any s _).mono ?_; rintro e w' ⟨rfl, rfl⟩; rw [HL.out, HP.out, HT.out])
          | (go_at_call 58; refine (cut_any (mkB r) _ (by rw [mkB_size]; exact H1.out)).mono ?_; rintro e w0 ⟨rfl, hq⟩; have hb0 := bel_q hq; clear hq; have HROW0 := Lib.hid (row_keep (heap_alloc_new w (.cells zeroV4 73)) hb0); have HB0 := Lib.hid (bel_step ((Bel.refl w.heap.size w).alloc (Nat.le_refl _) (.cells zeroV4 73)) hb0); clear hb0; rw [mkB_list])
          | (go_at_call 55; refine (parts_l _ _ (Nat.le_trans (List.length_take_le' _ _) H1.out)).mono ?_; rintro e w1 ⟨a, c, rfl, hst, _, hb1⟩; have HROW := Lib.hid (row_keep HROW0.out hb1); have HB := Lib.hid (bel_step HB0.out hb1); clear hb1; rw [HLS.out] at hst ⊢; obtain ⟨b, off, rfl, hbl, k0⟩ := strs_at hst 0 (by simp); obtain ⟨b', off', hab, _, k1⟩ := strs_at hst 1 (by simp); obtain ⟨b'', off'', hab2, _, k2⟩ := strs_at hst 2 (by simp); injection hab with hab; injection hab with hab hof; subst hab hof; injection hab2 with hab2; injection hab2 with hab2 hof; subst hab2 hof; clear hst;
              replace k0 : w1.cell? ⟨b, off, none⟩ = some (.string (mkB x)) := k0; replace k1 : w1.cell? ⟨b, off + 1, none⟩ = some (.string (mkB y)) := k1; replace k2 : w1.cell? ⟨b, off + 2, none⟩ = some (.string (mkB z)) := k2;
              have n0 := World.new_ne w1 _ k0; have n1 := World.new_ne w1 _ k1; have n2 := World.new_ne w1 _ k2))
        go_region
        obtain ⟨wA, hwA⟩ : ∃ wA, wA = (w1.alloc (.cells #[.string (mkB x), .string (mkB y), .string (mkB z), .slice none 0 0] 73)).drew := ⟨_, rfl⟩
        rw [← hwA]
        have rA : wA.heap[w1.heap.size]? = some (.cells #[.string (mkB x), .string (mkB y), .string (mkB z), .slice none 0 0] 73) := by rw [hwA]; exact heap_alloc_new _ _
        have zA : wA.heap[w.heap.size]? = some (.cells zeroV4 73) := by rw [hwA]; exact row_keep HROW.out (bel_step ((Bel.refl _ _).alloc (Nat.le_refl _) _) (bel_q ⟨1, rfl⟩))
        have bA : Bel w.heap.size w wA := by rw [hwA]; exact bel_step (HB.out.alloc HB.out.size _) (bel_q ⟨1, rfl⟩)
        have hlt : w.heap.size < w1.heap.size := (Array.getElem?_eq_some_iff.1 HROW.out).1
        have hle : w1.heap.size < wA.heap.size := (Array.getElem?_eq_some_iff.1 rA).1
        clear k0 k1 k2 n0 n1 n2 hwA
        obtain ⟨g, hg⟩ : ∃ g, g = w1.heap.size := ⟨_, rfl⟩
        rw [← hg] at rA hlt hle ⊢
        have hgz : g ≠ w.heap.size := by omega
        have hzg : w.heap.size ≠ g := by omega
        have RA := Lib.hid rA; have ZA := Lib.hid zA; have BA := Lib.hid bA; have HLT := Lib.hid hlt; have HLE := Lib.hid hle
        clear rA zA bA hlt hle hg HROW HB
        go_wp2_with (first
          | (go_at_call 55; refine (parts_l _ _ HDR.out).mono ?_; rintro e w2 ⟨a2, c2, rfl, hst2, hfr2, hb2⟩; have R2 := Lib.hid (row_keep RA.out hb2); have Z2 := Lib.hid (row_keep ZA.out hb2); have B2 := Lib.hid (bel_step BA.out hb2); have FR := Lib.hid hfr2; have ST2 := Lib.hid hst2; clear hst2 hfr2 hb2; obtain ⟨c0, c1, c2', c3, f0, f1, f2, f3⟩ := row4 R2.out)
          | (go_at_call 59; refine (fit_any _ (x, y, z, splitL 46 (r.drop (ixL r + 1))) _ ⟨⟨_, _, rfl, ST2.out.far fun ad ha => by have := FR.out ad ha; have := HLE.out; omega⟩⟩ HSM.out.1).mono ?_; rintro e w3 ⟨rfl, hb3⟩; rw [HFT.out];
              have R3 := Lib.hid (row_keep (row4_set3 R2.out (.slice a2 (splitL 46 (r.drop (ixL r + 1))).length c2)) hb3); have Z3 := Lib.hid (row_keep (row_far (g := g) (i := 3) Z2.out hzg (.slice a2 (splitL 46 (r.drop (ixL r + 1))).length c2)) hb3); have B3 := Lib.hid (bel_step (B2.out.setCell (p := ⟨g, 3, none⟩) (Nat.le_of_lt HLT.out) (.slice a2 (splitL 46 (r.drop (ixL r + 1))).length c2)) hb3); have ST3 := Lib.hid ((ST2.out.far (g := g) (i := 3) (y := .slice a2 (splitL 46 (r.drop (ixL r + 1))).length c2) fun ad ha => by have := FR.out ad ha; have := HLE.out; omega).below hb3); clear hb3; clear c0 c1 c2' c3 f0 f1 f2 f3;
              obtain ⟨d0, d1, d2, d3, e0, e1, e2, e3⟩ := row4 Z3.out; obtain ⟨c0, c1, c2', c3, f0, f1, f2, f3⟩ := row4 R3.out))
        try simp only [Exit.inBlock, Exit.then]
        exact bodyPost_ret (v := .tuple #[.agg #[.string (mkB x), .string (mkB y), .string (mkB z), (.slice a2 (splitL 46 (r.drop (ixL r + 1))).length c2)], .int .i64 0]) (results_cell_tmp (fn := Try.f47) (p := 2) (q := 3) (ty := 73) rfl _ _ w.heap.size 73 #[.string (mkB x), .string (mkB y), .string (mkB z), (.slice a2 (splitL 46 (r.drop (ixL r + 1))).length c2)] (0, 0) _ rfl (row4_set Z3.out _ _ _ _) Try.underlying73 rfl Try.size_ver) rfl ⟨_, rfl, by rw [(by simpa using HVO.out : verOf (118 :: r) = cutV r), HCW.out]; exact ⟨⟨_, _, rfl, ((((ST3.out.far (fun ad ha => by have := FR.out ad ha; have := HLE.out; have := HLT.out; omega)).far (fun ad ha => by have := FR.out ad ha; have := HLE.out; have := HLT.out; omega)).far (fun ad ha => by have := FR.out ad ha; have := HLE.out; have := HLT.out; omega)).far (fun ad ha => by have := FR.out ad ha; have := HLE.out; have := HLT.out; omega))⟩⟩, (fresh_slice _ _ _ fun ad ha => by have := FR.out ad ha; have := HLE.out; have := HLT.out; omega), (((B3.out.setCell (Nat.le_refl _) _).setCell (Nat.le_refl _) _).setCell (Nat.le_refl _) _).setCell (Nat.le_refl _) _⟩
      · have hd : decide (ixL r < r.length) = false := by simpa using hm
        have HFT : Hid (fitL (x, y, z, []) = false) := Lib.hid (by have := HF.out; rw [HCV.out, if_neg hm] at this; exact this)
        have HCW : Hid (cutV r = (x, y, z, [])) := Lib.hid (by rw [HCV.out, if_neg hm])
        clear hm
        go_enter Try.func47, Try.ntmps47
        go_wp2_with (first
          | (go_at_call 57; refine (cutp_any s _).mono ?_; rintro e w' ⟨rfl, rfl⟩; rw [HL.out, HP.out, HT.out])
          | (go_at_call 58; refine (cut_any (mkB r) _ (by rw [mkB_size]; exact H1.out)).mono ?_; rintro e w0 ⟨rfl, hq⟩; have hb0 := bel_q hq; clear hq; have HROW0 := Lib.hid (row_keep (heap_alloc_new w (.cells zeroV4 73)) hb0); have HB0 := Lib.hid (bel_step ((Bel.refl w.heap.size w).alloc (Nat.le_refl _) (.cells zeroV4 73)) hb0); clear hb0; rw [mkB_list])
          | (go_at_call 55; refine (parts_l _ _ (Nat.le_trans (List.length_take_le' _ _) H1.out)).mono ?_; rintro e w1 ⟨a, c, rfl, hst, _, hb1⟩; have HROW := Lib.hid (row_keep HROW0.out hb1); have HB := Lib.hid (bel_step HB0.out hb1); clear hb1; rw [HLS.out] at hst ⊢; obtain ⟨b, off, rfl, hbl, k0⟩ := strs_at hst 0 (by simp); obtain ⟨b', off', hab, _, k1⟩ := strs_at hst 1 (by simp); obtain ⟨b'', off'', hab2, _, k2⟩ := strs_at hst 2 (by simp); injection hab with hab; injection hab with hab hof; subst hab hof; injection hab2 with hab2; injection hab2 with hab2 hof; subst hab2 hof; clear hst;
              replace k0 : w1.cell? ⟨b, off, none⟩ = some (.string (mkB x)) := k0; replace k1 : w1.cell? ⟨b, off + 1, none⟩ = some (.string (mkB y)) := k1; replace k2 : w1.cell? ⟨b, off + 2, none⟩ = some (.string (mkB z)) := k2;
              have n0 := World.new_ne w1 _ k0; have n1 := World.new_ne w1 _ k1; have n2 := World.new_ne w1 _ k2))
        go_region
        obtain ⟨wA, hwA⟩ : ∃ wA, wA = (w1.alloc (.cells #[.string (mkB x), .string (mkB y), .string (mkB z), .slice none 0 0] 73)).drew := ⟨_, rfl⟩
        rw [← hwA]
        have rA : wA.heap[w1.heap.size]? = some (.cells #[.string (mkB x), .string (mkB y), .string (mkB z), .slice none 0 0] 73) := by rw [hwA]; exact heap_alloc_new _ _
        have zA : wA.heap[w.heap.size]? = some (.cells zeroV4 73) := by rw [hwA]; exact row_keep HROW.out (bel_step ((Bel.refl _ _).alloc (Nat.le_refl _) _) (bel_q ⟨1, rfl⟩))
        have bA : Bel w.heap.size w wA := by rw [hwA]; exact bel_step (HB.out.alloc HB.out.size _) (bel_q ⟨1, rfl⟩)
        have hlt : w.heap.size < w1.heap.size := (Array.getElem?_eq_some_iff.1 HROW.out).1
        have hle : w1.heap.size < wA.heap.size := (Array.getElem?_eq_some_iff.1 rA).1
        clear k0 k1 k2 n0 n1 n2 hwA
        obtain ⟨g, hg⟩ : ∃ g, g = w1.heap.size := ⟨_, rfl⟩
        rw [← hg] at rA hlt hle ⊢
        have hgz : g ≠ w.heap.size := by omega
        have hzg : w.heap.size ≠ g := by omega
        have RA := Lib.hid rA; have ZA := Lib.hid zA; have BA := Lib.hid bA; have HLT := Lib.hid hlt; have HLE := Lib.hid hle
        clear rA zA bA hlt hle hg HROW HB
        obtain ⟨c0, c1, c2', c3, f0, f1, f2, f3⟩ := row4 RA.out
        go_wp2_with (first
          | (go_at_call 59; refine (fit_any _ (x, y, z, []) _ ⟨⟨_, _, rfl, strs_none _⟩⟩ HSM.out.2).mono ?_; rintro e w3 ⟨rfl, hb3⟩; rw [HFT.out];
              have R3 := Lib.hid (row_keep RA.out hb3); have Z3 := Lib.hid (row_keep ZA.out hb3); have B3 := Lib.hid (bel_step BA.out hb3); clear hb3; clear c0 c1 c2' c3 f0 f1 f2 f3;
              obtain ⟨d0, d1, d2, d3, e0, e1, e2, e3⟩ := row4 Z3.out; obtain ⟨c0, c1, c2', c3, f0, f1, f2, f3⟩ := row4 R3.out))
        try simp only [Exit.inBlock, Exit.then]
        exact bodyPost_ret (v := .tuple #[.agg zeroV4, .int .i64 1]) (results_cell_tmp (fn := Try.f47) (p := 2) (q := 3) (ty := 73) rfl _ _ w.heap.size 73 zeroV4 (0, 0) _ rfl (row4_set Z3.out _ _ _ _) Try.underlying73 rfl Try.size_ver) rfl ⟨_, rfl, by rw [HVO.out, if_neg (by simp)]; exact verin_zero _, fresh_zero _, (((B3.out.setCell (Nat.le_refl _) _).setCell (Nat.le_refl _) _).setCell (Nat.le_refl _) _).setCell (Nat.le_refl _) _⟩
      · have hd : decide (ixL r < r.length) = false := by simpa using hm
        have HFT : Hid (fitL (x, y, z, []) = true) := Lib.hid (by have := HF.out; rw [HCV.out, if_neg hm] at this; exact this)
        have HCW : Hid (cutV r = (x, y, z, [])) := Lib.hid (by rw [HCV.out, if_neg hm])
        clear hm
        go_enter Try.func47, Try.ntmps47
        go_wp2_with (first
          | (go_at_call 57; refine (cutp_any s _).mono ?_; rintro e w' ⟨rfl, rfl⟩; rw [HL.out, HP.out, HT.out])
          | (go_at_call 58; refine (cut_any (mkB r) _ (by rw [mkB_size]; exact H1.out)).mono ?_; rintro e w0 ⟨rfl, hq⟩; have hb0 := bel_q hq; clear hq; have HROW0 := Lib.hid (row_keep (heap_alloc_new w (.cells zeroV4 73)) hb0); have HB0 := Lib.hid (bel_step ((Bel.refl w.heap.size w).alloc (Nat.le_refl _) (.cells zeroV4 73)) hb0); clear hb0; rw [mkB_list])
          | (go_at_call 55; refine (parts_l _ _ (Nat.le_trans (List.length_take_le' _ _) H1.out)).mono ?_; rintro e w1 ⟨a, c, rfl, hst, _, hb1⟩; have HROW := Lib.hid (row_keep HROW0.out hb1); have HB := Lib.hid (bel_step HB0.out hb1); clear hb1; rw [HLS.out] at hst ⊢; obtain ⟨b, off, rfl, hbl, k0⟩ := strs_at hst 0 (by simp); obtain ⟨b', off', hab, _, k1⟩ := strs_at hst 1 (by simp); obtain ⟨b'', off'', hab2, _, k2⟩ := strs_at hst 2 (by simp); injection hab with hab; injection hab with hab hof; subst hab hof; injection hab2 with hab2; injection hab2 with hab2 hof; subst hab2 hof; clear hst;
              replace k0 : w1.cell? ⟨b, off, none⟩ = some (.string (mkB x)) := k0; replace k1 : w1.cell? ⟨b, off + 1, none⟩ = some (.string (mkB y)) := k1; replace k2 : w1.cell? ⟨b, off + 2, none⟩ = some (.string (mkB z)) := k2;
              have n0 := World.new_ne w1 _ k0; have n1 := World.new_ne w1 _ k1; have n2 := World.new_ne w1 _ k2))
        go_region
        obtain ⟨wA, hwA⟩ : ∃ wA, wA = (w1.alloc (.cells #[.string (mkB x), .string (mkB y), .string (mkB z), .slice none 0 0] 73)).drew := ⟨_, rfl⟩
        rw [← hwA]
        have rA : wA.heap[w1.heap.size]? = some (.cells #[.string (mkB x), .string (mkB y), .string (mkB z), .slice none 0 0] 73) := by rw [hwA]; exact heap_alloc_new _ _
        have zA : wA.heap[w.heap.size]? = some (.cells zeroV4 73) := by rw [hwA]; exact row_keep HROW.out (bel_step ((Bel.refl _ _).alloc (Nat.le_refl _) _) (bel_q ⟨1, rfl⟩))
        have bA : Bel w.heap.size w wA := by rw [hwA]; exact bel_step (HB.out.alloc HB.out.size _) (bel_q ⟨1, rfl⟩)
        have hlt : w.heap.size < w1.heap.size := (Array.getElem?_eq_some_iff.1 HROW.out).1
        have hle : w1.heap.size < wA.heap.size := (Array.getElem?_eq_some_iff.1 rA).1
        clear k0 k1 k2 n0 n1 n2 hwA
        obtain ⟨g, hg⟩ : ∃ g, g = w1.heap.size := ⟨_, rfl⟩
        rw [← hg] at rA hlt hle ⊢
        have hgz : g ≠ w.heap.size := by omega
        have hzg : w.heap.size ≠ g := by omega
        have RA := Lib.hid rA; have ZA := Lib.hid zA; have BA := Lib.hid bA; have HLT := Lib.hid hlt; have HLE := Lib.hid hle
        clear rA zA bA hlt hle hg HROW HB
        obtain ⟨c0, c1, c2', c3, f0, f1, f2, f3⟩ := row4 RA.out
        go_wp2_with (first
          | (go_at_call 59; refine (fit_any _ (x, y, z, []) _ ⟨⟨_, _, rfl, strs_none _⟩⟩ HSM.out.2).mono ?_; rintro e w3 ⟨rfl, hb3⟩; rw [HFT.out];
              have R3 := Lib.hid (row_keep RA.out hb3); have Z3 := Lib.hid (row_keep ZA.out hb3); have B3 := Lib.hid (bel_step BA.out hb3); clear hb3; clear c0 c1 c2' c3 f0 f1 f2 f3;
              obtain ⟨d0, d1, d2, d3, e0, e1, e2, e3⟩ := row4 Z3.out; obtain ⟨c0, c1, c2', c3, f0, f1, f2, f3⟩ := row4 R3.out))
        try simp only [Exit.inBlock, Exit.then]
        exact bodyPost_ret (v := .tuple #[.agg #[.string (mkB x), .string (mkB y), .string (mkB z), .slice none 0 0], .int .i64 0]) (results_cell_tmp (fn := Try.f47) (p := 2) (q := 3) (ty := 73) rfl _ _ w.heap.size 73 #[.string (mkB x), .string (mkB y), .string (mkB z), .slice none 0 0] (0, 0) _ rfl (row4_set Z3.out _ _ _ _) Try.underlying73 rfl Try.size_ver) rfl ⟨_, rfl, by rw [(by simpa using HVO.out : verOf (118 :: r) = cutV r), HCW.out]; exact ⟨⟨_, _, rfl, strs_none _⟩⟩, fresh_none _ _ _ _, (((B3.out.setCell (Nat.le_refl _) _).setCell (Nat.le_refl _) _).setCell (Nat.le_refl _) _).setCell (Nat.le_refl _) _⟩
    · have hne : ((ls.length : Int) != 3) = true := by simp; omega
      have hok : okV (118 :: r) = false := by unfold okV; rw [splitV, if_neg (by rintro ⟨_, h, _⟩; rw [hls] at h; exact h3 h)]; rfl
      have hvo := verOf_no hok
      rw [hok]
      have HLS := Lib.hid hls; have HVO := Lib.hid hvo; clear hls hvo hok h3
      go_enter Try.func47, Try.ntmps47
      go_wp2_with (first
        | (go_at_call 57; refine (cutp_any s _).mono ?_; rintro e w' ⟨rfl, rfl⟩; rw [HL.out, HP.out, HT.out])
        | (go_at_call 58; refine (cut_any (mkB r) _ (by rw [mkB_size]; exact H1.out)).mono ?_; rintro e w0 ⟨rfl, hq⟩; have hb0 := bel_q hq; clear hq; have HROW0 := Lib.hid (row_keep (heap_alloc_new w (.cells zeroV4 73)) hb0); have HB0 := Lib.hid (bel_step ((Bel.refl w.heap.size w).alloc (Nat.le_refl _) (.cells zeroV4 73)) hb0); clear hb0; rw [mkB_list])
        | (go_at_call 55; refine (parts_l _ _ (Nat.le_trans (List.length_take_le' _ _) H1.out)).mono ?_; rintro e w1 ⟨a, c, rfl, hst, _, hb1⟩; have HROW := Lib.hid (row_keep HROW0.out hb1); have HB := Lib.hid (bel_step HB0.out hb1); clear hb1; clear hst; rw [HLS.out]; obtain ⟨c0, c1, c2, c3, f0, f1, f2, f3⟩ := row4 HROW.out))
      try simp only [Exit.inBlock, Exit.then]
      exact bodyPost_ret (v := .tuple #[.agg zeroV4, .int .i64 1]) (results_cell_tmp (fn := Try.f47) (p := 2) (q := 3) (ty := 73) rfl _ _ w.heap.size 73 zeroV4 (0, 0) _ rfl (row4_set HROW.out _ _ _ _) Try.underlying73 rfl Try.size_ver) rfl ⟨_, rfl, by rw [HVO.out]; exact verin_zero _, fresh_zero _, (((HB.out.setCell (Nat.le_refl _) _).setCell (Nat.le_refl _) _).setCell (Nat.le_refl _) _).setCell (Nat.le_refl _) _⟩
end Go.Proofs.Ytdefphacdcbljaa
