/- The contracts of the library's cuts at a version, and of version's words. -/
import Derived.Test.YthmnoepdedjhjaaVerM
import Derived.Test.YthmnoepdedjhjaaOctJ
import Derived.Deep.QuietTactic
import Derived.BigQuiet
import Derived.OwnWalk
namespace Go.Proofs.Ythmnoepdedjhjaa
open Go.RowKit
set_option maxRecDepth 100000

theorem beg_yes (r : List UInt8) : Lib.hasPrefix (118 :: r) [118] = true ∧ Lib.trimPrefix (118 :: r) [118] = r := by
  have h : Lib.hasPrefix (118 :: r) [118] = true := by simp [Lib.hasPrefix]
  exact ⟨h, by unfold Lib.trimPrefix; rw [if_pos h]; rfl⟩
theorem beg_no {l : List UInt8} (h : Lib.hasPrefix l [118] = false) : splitV l = none ∧ Lib.trimPrefix l [118] = l := by
  refine ⟨?_, by unfold Lib.trimPrefix; rw [if_neg (by simp [h])]⟩
  cases l with
  | nil => rfl
  | cons x r =>
    rw [splitV, if_neg]
    rintro ⟨hx, _⟩
    have ex : x = 118 := by rw [← UInt8.toNat_inj]; have : (118 : UInt8).toNat = 118 := rfl
                            omega
    rw [ex, (beg_yes r).1] at h
    cases h
theorem beg_form {l : List UInt8} (h : Lib.hasPrefix l [118] = true) : ∃ r, l = 118 :: r := by
  cases l with
  | nil => simp [Lib.hasPrefix] at h
  | cons x r =>
    simp [Lib.hasPrefix] at h
    exact ⟨r, by rw [h]⟩

theorem cutp_any (s : ByteArray) (w : World) :
    Calls Try.prog 50 #[.string s, .string ⟨#[118]⟩] w fun e w' => e = .returned (.tuple #[.string (mkB (Lib.trimPrefix s.data.toList [118])), .bool (Lib.hasPrefix s.data.toList [118])]) ∧ w = w' :=
  (Try.strings_CutPrefix s ⟨#[118]⟩ w).mono fun _ _ ⟨h, hw⟩ => ⟨h, hw.symm⟩

theorem ib_ix (l : List UInt8) : Lib.indexByte l 45 = if ixL l < l.length then ((ixL l : Nat) : Int) else -1 := by
  induction l with
  | nil => rfl
  | cons x l ih =>
    rw [Lib.indexByte, ih, ixL]
    by_cases hx : (x.toNat : Int) = 45
    · have ex : x = 45 := by rw [← UInt8.toNat_inj]; have : (45 : UInt8).toNat = 45 := rfl
                             omega
      simp [ex]
    · have ex : (x == 45) = false := by
        rw [beq_eq_false_iff_ne]; intro e; subst e; exact hx rfl
      rw [ex, if_neg hx]
      simp only [Bool.false_eq_true, if_false, List.length_cons]
      by_cases h : ixL l < l.length
      · have h' : ixL l + 1 < l.length + 1 := by omega
        rw [if_pos h, if_pos h']
        have : (((ixL l : Nat) : Int) == -1) = false := by rw [beq_eq_false_iff_ne]; omega
        rw [this, if_neg (by simp)]
        omega
      · have h' : ¬ ixL l + 1 < l.length + 1 := by omega
        rw [if_neg h, if_neg h']
        rfl

set_option maxHeartbeats 400000 in
theorem lcut_any (s : ByteArray) (w : World) (hs : s.size ≤ 1000000000) :
    Calls Try.prog 56 #[.string s, .string ⟨#[45]⟩] w fun e w' => e = .returned (.tuple #[.string (mkB (s.data.toList.take (ixL s.data.toList))), .string (mkB (s.data.toList.drop (ixL s.data.toList + 1))), .bool (decide (ixL s.data.toList < s.data.toList.length))]) ∧ ∃ n, w' = w.drewN n := by
  obtain ⟨i, hi⟩ : ∃ i, ixL s.data.toList = i := ⟨_, rfl⟩
  have hle := ixL_le s.data.toList
  have hib := ib_ix s.data.toList
  have hl := Lib.size_eq s
  rw [hi] at hle hib ⊢
  rw [← hl] at hle hib ⊢
  by_cases h : i < s.size
  · rw [if_pos h] at hib
    have HIB := Lib.hid hib
    have e1 : s.data.toList.take i = (s.data.toList.drop 0).take (i - 0) := by simp
    have e2 : s.data.toList.drop (i + 1) = (s.data.toList.drop (i + 1)).take (s.size - (i + 1)) := by rw [List.take_of_length_le (by simp)]
    have E1 := Lib.hid e1; have E2 := Lib.hid e2
    clear hib hi hl e1 e2
    have k1 : (0 : Int) ≤ (i : Int) := by omega
    have k2 : (i : Int) ≤ (s.size : Int) := by omega
    have k3 : IntKind.i64.wrap ((i : Int) + 1) = (i : Int) + 1 := IntWalk.i64_in _ (by omega)
    have k4 : (0 : Int) ≤ (i : Int) + 1 := by omega
    have k5 : (i : Int) + 1 ≤ (s.size : Int) := by omega
    have k6 : ((i : Int) + 1).toNat = i + 1 := by omega
    go_enter Try.func56, Try.ntmps56
    go_wp2_with (go_at_call 62; refine (Try.stringslite_Index_one s 45 w).mono ?_; rintro e w' ⟨rfl, rfl⟩; rw [HIB.out])
    go_quiet (fail)
    go_wp2
    ((try simp only [Exit.inBlock, Exit.then]); refine bodyPost_ret (results_tmp3 rfl _ _ _) rfl ?_)
    exact ⟨by rw [decide_eq_true h, strV_mk, strV_mk, ← E1.out, ← E2.out]; rfl, _, rfl⟩
  · rw [if_neg h] at hib
    have HIB := Lib.hid hib
    have e1 : s.data.toList.take i = s.data.toList := List.take_of_length_le (by omega)
    have e2 : s.data.toList.drop (i + 1) = [] := List.drop_eq_nil_of_le (by omega)
    have E1 := Lib.hid e1; have E2 := Lib.hid e2
    clear hib hi hl e1 e2
    go_enter Try.func56, Try.ntmps56
    go_wp2_with (go_at_call 62; refine (Try.stringslite_Index_one s 45 w).mono ?_; rintro e w' ⟨rfl, rfl⟩; rw [HIB.out])
    ((try simp only [Exit.inBlock, Exit.then]); refine bodyPost_ret (results_tmp3 rfl _ _ _) rfl ?_)
    exact ⟨by rw [decide_eq_false h, E1.out, E2.out]; rfl, 0, rfl⟩

set_option maxHeartbeats 400000 in
theorem cut_any (s : ByteArray) (w : World) (hs : s.size ≤ 1000000000) :
    Calls Try.prog 51 #[.string s, .string ⟨#[45]⟩] w fun e w' => e = .returned (.tuple #[.string (mkB (s.data.toList.take (ixL s.data.toList))), .string (mkB (s.data.toList.drop (ixL s.data.toList + 1))), .bool (decide (ixL s.data.toList < s.data.toList.length))]) ∧ ∃ n, w' = w.drewN n := by
  have HS := Lib.hid hs
  go_enter Try.func51, Try.ntmps51
  go_wp2_with (go_at_call 56; refine (lcut_any s w HS.out).mono ?_; rintro e w' ⟨rfl, n, rfl⟩)
  ((try simp only [Exit.inBlock, Exit.then]); refine bodyPost_ret (results_tmp3 rfl _ _ _) rfl ?_)
  exact ⟨rfl, _, rfl⟩

/-! ### Words -/
theorem oct_word (c : UInt8) : (hasB [1, 2, 3] (clsI c.toNat) && !([46, 95, 126].contains c)) = wordOct c := by
  have h : ∀ n : Fin 256, (hasB [1, 2, 3] (clsI (n.1 : Nat)) && !([46, 95, 126].contains n.1)) = (hasB [1, 2] (clsI (n.1 : Nat)) || decide (n.1 = 45)) := by decide +kernel
  have := h ⟨c.toNat, UInt8.toNat_lt c⟩
  unfold wordOct
  rw [← this]
  have e : ([46, 95, 126] : List UInt8).contains c = ([46, 95, 126] : List Nat).contains c.toNat := by
    rw [Bool.eq_iff_iff, List.contains_iff_mem, List.contains_iff_mem]
    simp only [List.mem_cons, List.not_mem_nil, or_false, ← UInt8.toNat_inj]
    rfl
  rw [e]
theorem ia_neg (ch : List UInt8) : ∀ l, Lib.containsAny l ch = l.any ch.contains
  | [] => by simp [Lib.containsAny, Lib.indexAny]
  | b :: l => by
    have ih := ia_neg ch l
    have hg := Lib.indexAny_ge ch l
    unfold Lib.containsAny at ih ⊢
    rw [Lib.indexAny, List.any_cons, ← ih]
    split
    · rename_i h; rw [h]; simp
    · rename_i h
      have : ch.contains b = false := by simpa using h
      rw [this, Bool.false_or]
      split
      · rename_i h1; have : Lib.indexAny l ch = -1 := by simpa using h1
        rw [this]; try rfl
      · rename_i h1; have : ¬ Lib.indexAny l ch = -1 := by simpa using h1
        rw [decide_eq_decide]; omega
theorem word_all (l : List UInt8) : (allB l [1, 2, 3] && !(Lib.containsAny l [46, 95, 126])) = l.all wordOct := by
  rw [ia_neg]
  induction l with
  | nil => rfl
  | cons c l ih =>
    rw [List.all_cons, ← ih, ← oct_word, List.any_cons]
    unfold allB
    rw [List.all_cons]
    cases hasB [1, 2, 3] (clsI c.toNat) <;> cases ([46, 95, 126] : List UInt8).contains c <;> simp
theorem all_ascii {l : List UInt8} (h : allB l [1, 2, 3] = true) : ∀ (j : Nat) b, l[j]? = some b → b.toNat < 128 := by
  intro j b hb
  have hm := List.mem_of_getElem? hb
  have := List.all_eq_true.1 h b hm
  have h2 : ∀ n : Fin 256, hasB [1, 2, 3] (clsI (n.1 : Nat)) = true → n.1 < 128 := by decide +kernel
  exact h2 ⟨b.toNat, UInt8.toNat_lt b⟩ this
theorem ints_lit3 (w : World) (x y z : Int) (t : TypeId) : Ints (w.alloc (.cells #[.int .i64 x, .int .i64 y, .int .i64 z] t)) (.slice (some ⟨w.heap.size, 0, none⟩) 3 3) [x, y, z] :=
  Ints.lit w _ [x, y, z] t rfl (by simp)

end Go.Proofs.Ythmnoepdedjhjaa
