/- THE TEXTS OF NumE NumF VerE VerF VerG VerH VerK VerL: The document's digit, May, at and order; the program's Value and the document's. The document's order and value, and the program's value. The document's own words and Split. The document's own Split. Version's order: the library's order of two slices, by numbers and by words. Version's order of two versions. THE TEXTS OF VerI VerJ VerK: Version's May, Cmp and Join, and the document's May. Version's Join, the document's Join, and whether two versions are the same. The document's Join. The document's order of two versions. -/
import Derived.Test.YtjnkjjlpkgbkiaaNumH
import Derived.Test.YtjnkjjlpkgbkiaaVerD
import Derived.Test.YtjnkjjlpkgbkiaaRolL
import Derived.Deep.DrawnRows
import Derived.Deep.RegionHeld3
import Derived.Deep.CutRange
import Derived.Deep.DeepCutAuto
import Derived.Lib.Join
namespace Go.Proofs.Ytjnkjjlpkgbkiaa
open Go.RowKit
set_option maxRecDepth 100000

def digI (c : Int) : Int := if 48 ≤ c ∧ c ≤ 57 then c - 48 else -1

theorem dig_yes {c : UInt8} (h : isD c = true) : digI (c.toNat : Int) = ((c.toNat - 48 : Nat) : Int) := by
  have := isD_bd h
  unfold digI; rw [if_pos (by omega)]; omega
theorem dig_no {c : UInt8} (h : isD c = false) : digI (c.toNat : Int) = -1 := by
  unfold digI; rw [if_neg]
  intro hh
  have : isD c = true := by unfold isD; simp; omega
  rw [h] at this; cases this
theorem at_list (s : ByteArray) (k : Nat) (h : k < s.size) : s[k] ∈ s.data.toList := by
  have : s[k] = s.data.toList[k]'(by simpa using h) := rfl
  rw [this]; exact List.getElem_mem _

/-- The digit of a place, from the lowest one on. -/
def atN (l : List UInt8) (i : Nat) : Nat := valL l / 10 ^ i % 10
theorem valR_at : ∀ (r : List UInt8) (i : Nat), r.all isD = true → valR r / 10 ^ i % 10 = (r.getD i 48).toNat - 48
  | [], i, _ => by simp [valR]
  | c :: r, 0, h => by
    rw [List.all_cons, Bool.and_eq_true] at h
    have := isD_bd h.1
    simp only [valR, Nat.pow_zero, Nat.div_one]
    show _ = c.toNat - 48
    omega
  | c :: r, i + 1, h => by
    rw [List.all_cons, Bool.and_eq_true] at h
    have := isD_bd h.1
    have ih := valR_at r i h.2
    have e : (c.toNat - 48 + 10 * valR r) / 10 ^ (i + 1) = valR r / 10 ^ i := by
      rw [Nat.pow_succ, Nat.mul_comm (10 ^ i) 10, ← Nat.div_div_eq_div_mul]
      congr 1
      omega
    rw [valR, e, ih]
    rfl
theorem atN_in (s : ByteArray) (i : Nat) (h : s.data.toList.all isD = true) (hi : i < s.size) : atN s.data.toList i = s[s.size - 1 - i].toNat - 48 := by
  have hl := Lib.size_eq s
  unfold atN valL
  rw [valR_at _ i (by rw [List.all_reverse]; exact h)]
  congr 1
  rw [List.getD_eq_getElem?_getD, List.getElem?_reverse (by omega), List.getElem?_eq_getElem (by omega)]
  simp only [Option.getD_some]
  have : s.data.toList[s.data.toList.length - 1 - i]'(by omega) = s[s.size - 1 - i]'(by omega) := by
    show _ = s.data.toList[s.size - 1 - i]'(by simp; omega)
    congr 1 <;> omega
  rw [this]
theorem atN_out (s : ByteArray) (i : Nat) (h : s.data.toList.all isD = true) (hi : s.size ≤ i) : atN s.data.toList i = 0 := by
  have hl := Lib.size_eq s
  have := valL_lt _ h
  unfold atN
  have h2 : (10 : Nat) ^ s.data.toList.length ≤ 10 ^ i := Nat.pow_le_pow_right (by omega) (by omega)
  rw [Nat.div_eq_of_lt (by omega)]

end Go.Proofs.Ytjnkjjlpkgbkiaa

namespace Go.Proofs.Ytjnkjjlpkgbkiaa
open Go.RowKit
set_option maxRecDepth 100000

theorem div_step (v j : Nat) : v / 10 ^ (j + 1) = v / 10 ^ j / 10 := by rw [Nat.pow_succ, Nat.div_div_eq_div_mul]
theorem div_lt_of {v u j : Nat} (h : v / 10 ^ j < u / 10 ^ j) : v < u := by
  rcases Nat.lt_or_ge v u with h1 | h1
  · exact h1
  · have := Nat.div_le_div_right (c := 10 ^ j) h1; omega

theorem val_take (l : List UInt8) (k : Nat) (hk : k < l.length) : valL (l.take (k + 1)) = 10 * valL (l.take k) + ((l.getD k 0).toNat - 48) := by
  rw [List.take_succ_eq_append_getElem hk, valL_snoc, List.getD_eq_getElem?_getD, List.getElem?_eq_getElem hk]; rfl
theorem val_take_le (l : List UInt8) : ∀ k, valL (l.take k) ≤ valL l := by
  intro k
  obtain ⟨m, hm⟩ : ∃ m, m = l.length - k := ⟨_, rfl⟩
  induction m generalizing k with
  | zero => rw [List.take_of_length_le (by omega)]; exact Nat.le_refl _
  | succ m ih =>
    have := ih (k + 1) (by omega)
    have h2 := val_take l k (by omega)
    omega

/-- What Value answers. -/
def valE (l : List UInt8) : Int × Int := if mayL l = true then (if valL l ≤ 18446744073709551615 then (((valL l : Nat) : Int), 0) else (0, 4)) else (0, 1)
theorem valE_ok {l : List UInt8} (h : mayL l = true) (h2 : valL l ≤ 18446744073709551615) : valE l = (((valL l : Nat) : Int), 0) := by unfold valE; rw [if_pos h, if_pos h2]
theorem valE_big {l : List UInt8} (h : mayL l = true) (h2 : ¬ valL l ≤ 18446744073709551615) : valE l = (0, 4) := by unfold valE; rw [if_pos h, if_neg h2]
theorem valE_no {l : List UInt8} (h : mayL l = false) : valE l = (0, 1) := by unfold valE; rw [if_neg (by simp [h])]

end Go.Proofs.Ytjnkjjlpkgbkiaa

namespace Go.Proofs.Ytjnkjjlpkgbkiaa
open Go.RowKit
set_option maxRecDepth 100000

/-! ### The document's words -/
theorem oct_cls (c : UInt8) : isD c = decide (clsI (c.toNat : Int) = 1) ∧ wordOct c = (decide (clsI (c.toNat : Int) = 1) || decide (clsI (c.toNat : Int) = 2) || decide (c.toNat = 45)) := by
  have h : ∀ n : Fin 256, (decide (48 ≤ n.1) && decide (n.1 ≤ 57)) = decide (clsI (n.1 : Nat) = 1) ∧ hasB [1, 2] (clsI (n.1 : Nat)) = (decide (clsI (n.1 : Nat) = 1) || decide (clsI (n.1 : Nat) = 2)) := by decide +kernel
  have := h ⟨c.toNat, UInt8.toNat_lt c⟩
  unfold isD wordOct
  rw [this.1, this.2]
  exact ⟨rfl, rfl⟩
theorem word_digits {l : List UInt8} (h : l.all isD = true) : l.all wordOct = true := by
  rw [List.all_eq_true] at *
  intro c hc
  have := h c hc
  rw [(oct_cls c).1] at this
  rw [(oct_cls c).2, this]; rfl
theorem wordL_nil : wordL [] = false := rfl
/-- How the document reckons a word. -/
theorem wordL_ref (l : List UInt8) (h : l.all wordOct = true) : wordL l = (!l.isEmpty && (!(l.all isD) || mayL l)) := by
  unfold wordL
  cases e : l.all isD
  · have : l.isEmpty = false := by cases l with
      | nil => cases e
      | cons x l => rfl
    simp [this, h]
  · cases l with
    | nil => rfl
    | cons x l => simp
theorem wordL_out (l : List UInt8) (h : l.all wordOct = false) : wordL l = false := by
  unfold wordL
  cases e : l.all isD
  · simpa using h
  · have := word_digits e; rw [h] at this; cases this
theorem all_take_snoc {p : UInt8 → Bool} (s : ByteArray) (k : Nat) (h : k < s.size) : (s.data.toList.take (k + 1)).all p = ((s.data.toList.take k).all p && p s[k]) := by
  rw [List.take_succ_eq_append_getElem (by simpa using h), List.all_append]
  simp only [List.all_cons, List.all_nil, Bool.and_true]; rfl

end Go.Proofs.Ytjnkjjlpkgbkiaa

namespace Go.Proofs.Ytjnkjjlpkgbkiaa
open Go.RowKit
set_option maxRecDepth 100000

theorem two_rows (w : World) : ((w.alloc (.cells zeroV4 74)).alloc (.cells zeroV4 74)).heap[w.heap.size]? = some (.cells zeroV4 74) ∧
    ((w.alloc (.cells zeroV4 74)).alloc (.cells zeroV4 74)).heap[w.heap.size + 1]? = some (.cells zeroV4 74) ∧ Bel w.heap.size w ((w.alloc (.cells zeroV4 74)).alloc (.cells zeroV4 74)) := by
  refine ⟨?_, ?_, ((Bel.refl _ _).alloc (Nat.le_refl _) _).alloc (by simp) _⟩
  · rw [Below.heap_alloc _ _ _ (by simp)]; exact heap_alloc_new _ _
  · have := heap_alloc_new (w.alloc (.cells zeroV4 74)) (.cells zeroV4 74)
    simpa using this
theorem row4_set012 {w : World} {g : Nat} {x0 x1 x2 x3 : Value} {t : TypeId} (h : w.heap[g]? = some (.cells #[x0, x1, x2, x3] t (0, 0))) (y0 y1 y2 : Value) :
    (((w.setCell ⟨g, 0, none⟩ y0).setCell ⟨g, 1, none⟩ y1).setCell ⟨g, 2, none⟩ y2).heap[g]? = some (.cells #[y0, y1, y2, x3] t (0, 0)) := by
  simp [World.setCell, Array.getElem?_modify, h]
theorem ix_step (l : List UInt8) (m : Nat) (h : m < l.length) : ixL (l.drop m) = if (l[m].toNat : Int) = 45 then 0 else ixL (l.drop (m + 1)) + 1 := by
  rw [List.drop_eq_getElem_cons h, ixL]
theorem first_oct (s : ByteArray) (h : 0 < s.size) : s.data.toList = s[0] :: s.data.toList.drop 1 := bytes_cons s h

end Go.Proofs.Ytjnkjjlpkgbkiaa

namespace Go.Proofs.Ytjnkjjlpkgbkiaa
open Go.RowKit
set_option maxRecDepth 100000

def numC (a b : List UInt8) : Int := (cmpE a b).1
theorem numC_may {a b : List UInt8} (ha : mayL a = true) (hb : mayL b = true) : numC a b = cmpN a b := by unfold numC; rw [cmpE_ok ha hb]
theorem numC_vals (a b : List UInt8) : -1 ≤ numC a b ∧ numC a b ≤ 1 := by
  unfold numC cmpE
  split
  · exact cmpN_bd a b
  · decide
theorem wordC_vals (a b : List UInt8) : -1 ≤ wordC a b ∧ wordC a b ≤ 1 := by have := ord_W.vals a b; omega

set_option maxHeartbeats 400000 in
theorem ordnum_any (a b : List UInt8) (w : World) (ha : a.length ≤ 1000000000) (hb : b.length ≤ 1000000000) :
    Calls Try.prog 70 #[.string (mkB a), .string (mkB b)] w fun e w' => e = .returned (.int .i64 (numC a b)) ∧ Bel w.heap.size w w' := by
  have HA : Hid ((mkB a).size ≤ maxLen) := Lib.hid (by rw [mkB_size]; unfold maxLen; omega)
  have HB : Hid ((mkB b).size ≤ maxLen) := Lib.hid (by rw [mkB_size]; unfold maxLen; omega)
  clear ha hb
  go_enter Try.func70, Try.ntmps70
  go_wp2_with (go_at_call 84; refine (cmpnum_any _ _ _ HA.out HB.out).mono ?_; rintro e w1 ⟨rfl, hb1⟩; rw [mkB_list, mkB_list])
  go_ret
  exact ⟨rfl, by assumption⟩

set_option maxHeartbeats 800000 in
theorem ordword_any (a b : List UInt8) (w : World) (ha : a.length ≤ 1000000000) (hb : b.length ≤ 1000000000) :
    Calls Try.prog 72 #[.string (mkB a), .string (mkB b)] w fun e w' => e = .returned (.int .i64 (wordC a b)) ∧ Bel w.heap.size w w' := by
  have HA : Hid ((mkB a).size ≤ maxLen) := Lib.hid (by rw [mkB_size]; unfold maxLen; omega)
  have HB : Hid ((mkB b).size ≤ maxLen) := Lib.hid (by rw [mkB_size]; unfold maxLen; omega)
  have SA := Lib.hid ha; have SB := Lib.hid hb
  clear ha hb
  obtain ⟨x, hx⟩ : ∃ x, mayL a = x := ⟨_, rfl⟩
  obtain ⟨y, hy⟩ : ∃ y, mayL b = y := ⟨_, rfl⟩
  have hw : wordC a b = if x = true then (if y = true then numC a b else -1) else (if y = true then 1 else Lib.compareBytes a b) := by
    unfold wordC; rw [hx, hy]
    cases x <;> cases y <;> simp
    exact (numC_may hx hy).symm
  have HX := Lib.hid hx; have HY := Lib.hid hy; have HW := Lib.hid hw; clear hx hy hw
  have B0 := Bel.refl w.heap.size w
  cases x <;> cases y
  all_goals
    go_enter Try.func72, Try.ntmps72
    go_wp2_with (first
      | (go_at_call 56; refine (may_any _ _ (by first | exact HA.out | exact HB.out)).mono ?_; rintro e w1 ⟨rfl, hb1⟩; have B1 := bel_step (by assumption) hb1; clear hb1; rw [mkB_list]; first | rw [HX.out] | rw [HY.out])
      | (go_at_call 70; refine (ordnum_any _ _ _ SA.out SB.out).mono ?_; rintro e w3 ⟨rfl, hb3⟩; have B3 := bel_step (by assumption) hb3; clear hb3)
      | (go_at_call 40; refine (cmp_any _ _ _).mono ?_; rintro e w4 ⟨rfl, rfl⟩; rw [mkB_list, mkB_list]))
    go_ret
    exact ⟨ret_int (by rw [HW.out]; simp), by assumption⟩

theorem lexI_step (c : List UInt8 → List UInt8 → Int) (a b : List (List UInt8)) (k : Nat) (ha : k < a.length) (hb : k < b.length) :
    lexI c (a.drop k) (b.drop k) = if c (a.getD k []) (b.getD k []) ≠ 0 then c (a.getD k []) (b.getD k []) else lexI c (a.drop (k + 1)) (b.drop (k + 1)) := by
  have e1 : a.getD k [] = a[k] := by simp [List.getD_eq_getElem?_getD, List.getElem?_eq_getElem ha]
  have e2 : b.getD k [] = b[k] := by simp [List.getD_eq_getElem?_getD, List.getElem?_eq_getElem hb]
  rw [e1, e2, List.drop_eq_getElem_cons ha, List.drop_eq_getElem_cons hb, lexI]
theorem lexI_long (c : List UInt8 → List UInt8 → Int) (a b : List (List UInt8)) (k : Nat) (ha : k < a.length) (hb : b.length ≤ k) : lexI c (a.drop k) (b.drop k) = 1 := by
  rw [List.drop_eq_getElem_cons ha, List.drop_eq_nil_of_le hb, lexI]
theorem lexI_end (c : List UInt8 → List UInt8 → Int) (a b : List (List UInt8)) (k : Nat) (ha : a.length = k) : lexI c (a.drop k) (b.drop k) = if k < b.length then -1 else 0 := by
  rw [List.drop_eq_nil_of_le (by omega)]
  split
  · rename_i h; rw [List.drop_eq_getElem_cons h, lexI]
  · rename_i h; rw [List.drop_eq_nil_of_le (by omega), lexI]

set_option maxHeartbeats 1600000 in
set_option maxRecDepth 100000 in
theorem cmpfnum_any (u v : Value) (a b : List (List UInt8)) (w : World) (ha : Strs w u a) (hb : Strs w v b) (sa : ∀ l ∈ a, l.length ≤ 1000000000) (sb : ∀ l ∈ b, l.length ≤ 1000000000) :
    Calls Try.prog 69 #[u, v, .func (.func 70) #[] #[]] w fun e w' => e = .returned (.int .i64 (lexI numC a b)) ∧ Bel w.heap.size w w' := by
  obtain ⟨pa, ca, rfl, ha1, ha2, _, _⟩ := ha.ex
  obtain ⟨pb, cb, rfl, hb1, hb2, _, _⟩ := hb.ex
  unfold maxLen at ha2 hb2
  have HA := Lib.hid ha; have HB := Lib.hid hb; have SA := Lib.hid sa; have SB := Lib.hid sb
  clear ha hb sa sb
  obtain ⟨T, hT⟩ : ∃ T, lexI numC a b = T := ⟨_, rfl⟩
  rw [hT]
  have HT := Lib.hid hT; clear hT
  go_enter Try.func69, Try.ntmps69
  go_wp2
  go_loopw [13] (fun i wr => ∃ k : Nat, k ≤ a.length ∧ i = .int .i64 k ∧ Hid (lexI numC (a.drop k) (b.drop k) = T) ∧ Hid (Bel w.heap.size w wr)) (fun i _ => a.length - (intOf i).toNat)
  case atStart => exact ⟨0, Nat.zero_le _, rfl, Lib.hid (by rw [List.drop_zero, List.drop_zero]; exact HT.out), Lib.hid (Bel.refl _ _)⟩
  case round =>
    obtain ⟨k, hk, rfl, H, HL⟩ := hrel
    by_cases hlt : k < a.length
    · obtain ⟨ba, oa, hpa, hba, hca⟩ := strs_at HA.out k hlt
      subst hpa
      have hcell := (HL.out.cell hba).trans hca
      clear hca hba
      by_cases hlb : k < b.length
      · obtain ⟨bb, ob, hpb, hbb, hcb⟩ := strs_at HB.out k hlb
        subst hpb
        have hcell2 := (HL.out.cell hbb).trans hcb
        clear hcb hbb
        have hst := lexI_step numC a b k hlt hlb
        have HQ1 : Hid ((a.getD k []).length ≤ 1000000000) := Lib.hid (SA.out _ (mem_getD hlt))
        have HQ2 : Hid ((b.getD k []).length ≤ 1000000000) := Lib.hid (SB.out _ (mem_getD hlb))
        obtain ⟨x, hx⟩ : ∃ x, a.getD k [] = x := ⟨_, rfl⟩
        obtain ⟨y, hy⟩ : ∃ y, b.getD k [] = y := ⟨_, rfl⟩
        rw [hx] at hcell HQ1 hst
        rw [hy] at hcell2 HQ2 hst
        clear hx hy
        have hvv := numC_vals x y
        obtain ⟨z, hz⟩ : ∃ z, numC x y = z := ⟨_, rfl⟩
        rw [hz] at hst hvv
        have HST := Lib.hid hst; have HZ := Lib.hid hz
        clear hst hz
        obtain ⟨hv1, hv2⟩ := hvv
        by_cases h0 : z = 0
        · have hb0 : (z != 0) = false := by simpa using h0
          have H0 := Lib.hid h0; clear h0
          go_wp2_with (go_at_call 70; refine (ordnum_any x y _ HQ1.out HQ2.out).mono ?_; rintro e w2 ⟨rfl, hb2⟩; have HL' := Lib.hid (bel_step HL.out hb2); clear hb2; rw [HZ.out])
          go_roundw
          case rel => exact ⟨k + 1, by omega, by go_num, Lib.hid (by rw [← H.out, HST.out, if_neg (by have := H0.out; omega)]), HL'⟩
          case measure => simp [intOf]; omega
        · have hb0 : (z != 0) = true := by simpa using h0
          have H0 := Lib.hid h0; clear h0
          go_wp2_with (go_at_call 70; refine (ordnum_any x y _ HQ1.out HQ2.out).mono ?_; rintro e w2 ⟨rfl, hb2⟩; have HL' := Lib.hid (bel_step HL.out hb2); clear hb2; rw [HZ.out])
          go_ret
          exact ⟨ret_int (by rw [← H.out, HST.out, if_pos H0.out]), HL'.out⟩
      · have hle := lexI_long numC a b k hlt (by omega)
        have HE := Lib.hid hle; clear hle
        go_wp2
        go_ret
        exact ⟨ret_int (by rw [← H.out, HE.out]), HL.out⟩
    · have hle := lexI_end numC a b k (by omega)
      by_cases hlb : a.length < b.length
      · rw [if_pos (by omega)] at hle
        have HE := Lib.hid hle; clear hle
        go_wp2
        go_ret
        exact ⟨ret_int (by rw [← H.out, HE.out]), HL.out⟩
      · rw [if_neg (by omega)] at hle
        have HE := Lib.hid hle; clear hle
        go_wp2
        go_ret
        exact ⟨ret_int (by rw [← H.out, HE.out]), HL.out⟩

set_option maxHeartbeats 1600000 in
set_option maxRecDepth 100000 in
theorem cmpfword_any (u v : Value) (a b : List (List UInt8)) (w : World) (ha : Strs w u a) (hb : Strs w v b) (sa : ∀ l ∈ a, l.length ≤ 1000000000) (sb : ∀ l ∈ b, l.length ≤ 1000000000) :
    Calls Try.prog 69 #[u, v, .func (.func 72) #[] #[]] w fun e w' => e = .returned (.int .i64 (lexI wordC a b)) ∧ Bel w.heap.size w w' := by
  obtain ⟨pa, ca, rfl, ha1, ha2, _, _⟩ := ha.ex
  obtain ⟨pb, cb, rfl, hb1, hb2, _, _⟩ := hb.ex
  unfold maxLen at ha2 hb2
  have HA := Lib.hid ha; have HB := Lib.hid hb; have SA := Lib.hid sa; have SB := Lib.hid sb
  clear ha hb sa sb
  obtain ⟨T, hT⟩ : ∃ T, lexI wordC a b = T := ⟨_, rfl⟩
  rw [hT]
  have HT := Lib.hid hT; clear hT
  go_enter Try.func69, Try.ntmps69
  go_wp2
  go_loopw [13] (fun i wr => ∃ k : Nat, k ≤ a.length ∧ i = .int .i64 k ∧ Hid (lexI wordC (a.drop k) (b.drop k) = T) ∧ Hid (Bel w.heap.size w wr)) (fun i _ => a.length - (intOf i).toNat)
  case atStart => exact ⟨0, Nat.zero_le _, rfl, Lib.hid (by rw [List.drop_zero, List.drop_zero]; exact HT.out), Lib.hid (Bel.refl _ _)⟩
  case round =>
    obtain ⟨k, hk, rfl, H, HL⟩ := hrel
    by_cases hlt : k < a.length
    · obtain ⟨ba, oa, hpa, hba, hca⟩ := strs_at HA.out k hlt
      subst hpa
      have hcell := (HL.out.cell hba).trans hca
      clear hca hba
      by_cases hlb : k < b.length
      · obtain ⟨bb, ob, hpb, hbb, hcb⟩ := strs_at HB.out k hlb
        subst hpb
        have hcell2 := (HL.out.cell hbb).trans hcb
        clear hcb hbb
        have hst := lexI_step wordC a b k hlt hlb
        have HQ1 : Hid ((a.getD k []).length ≤ 1000000000) := Lib.hid (SA.out _ (mem_getD hlt))
        have HQ2 : Hid ((b.getD k []).length ≤ 1000000000) := Lib.hid (SB.out _ (mem_getD hlb))
        obtain ⟨x, hx⟩ : ∃ x, a.getD k [] = x := ⟨_, rfl⟩
        obtain ⟨y, hy⟩ : ∃ y, b.getD k [] = y := ⟨_, rfl⟩
        rw [hx] at hcell HQ1 hst
        rw [hy] at hcell2 HQ2 hst
        clear hx hy
        have hvv := wordC_vals x y
        obtain ⟨z, hz⟩ : ∃ z, wordC x y = z := ⟨_, rfl⟩
        rw [hz] at hst hvv
        have HST := Lib.hid hst; have HZ := Lib.hid hz
        clear hst hz
        obtain ⟨hv1, hv2⟩ := hvv
        by_cases h0 : z = 0
        · have hb0 : (z != 0) = false := by simpa using h0
          have H0 := Lib.hid h0; clear h0
          go_wp2_with (go_at_call 72; refine (ordword_any x y _ HQ1.out HQ2.out).mono ?_; rintro e w2 ⟨rfl, hb2⟩; have HL' := Lib.hid (bel_step HL.out hb2); clear hb2; rw [HZ.out])
          go_roundw
          case rel => exact ⟨k + 1, by omega, by go_num, Lib.hid (by rw [← H.out, HST.out, if_neg (by have := H0.out; omega)]), HL'⟩
          case measure => simp [intOf]; omega
        · have hb0 : (z != 0) = true := by simpa using h0
          have H0 := Lib.hid h0; clear h0
          go_wp2_with (go_at_call 72; refine (ordword_any x y _ HQ1.out HQ2.out).mono ?_; rintro e w2 ⟨rfl, hb2⟩; have HL' := Lib.hid (bel_step HL.out hb2); clear hb2; rw [HZ.out])
          go_ret
          exact ⟨ret_int (by rw [← H.out, HST.out, if_pos H0.out]), HL'.out⟩
      · have hle := lexI_long wordC a b k hlt (by omega)
        have HE := Lib.hid hle; clear hle
        go_wp2
        go_ret
        exact ⟨ret_int (by rw [← H.out, HE.out]), HL.out⟩
    · have hle := lexI_end wordC a b k (by omega)
      by_cases hlb : a.length < b.length
      · rw [if_pos (by omega)] at hle
        have HE := Lib.hid hle; clear hle
        go_wp2
        go_ret
        exact ⟨ret_int (by rw [← H.out, HE.out]), HL.out⟩
      · rw [if_neg (by omega)] at hle
        have HE := Lib.hid hle; clear hle
        go_wp2
        go_ret
        exact ⟨ret_int (by rw [← H.out, HE.out]), HL.out⟩

end Go.Proofs.Ytjnkjjlpkgbkiaa

namespace Go.Proofs.Ytjnkjjlpkgbkiaa
open Go.RowKit
set_option maxRecDepth 100000
attribute [local go_sem ↓] Go.wp_at_zero Go.wp_at_succ

theorem str_eq (d : Nat) (a b : ByteArray) (w : World) : Sem.run Try.prog (Op.equalIn (d + 1) 9 (.string a) (.string b)) w = .ok (a == b) w := by
  simp [Op.equalIn, run_underlying Try.underlying9]
theorem arr_eq_d (d : Nat) (h9 : ∀ a b w, Sem.run Try.prog (Op.equalIn d 9 (.string a) (.string b)) w = .ok (a == b) w) (x0 x1 x2 y0 y1 y2 : ByteArray) (w : World) :
    Sem.run Try.prog (Op.equalIn (d + 1) 94 (.agg #[.string x0, .string x1, .string x2]) (.agg #[.string y0, .string y1, .string y2])) w = .ok (x0 == y0 && (x1 == y1 && x2 == y2)) w := by
  have hi : ∀ w, Sem.run Try.prog (sizeOf 9) w = .ok 1 w := by intro w; kernel_rfl
  have ha : ∀ w, Sem.run Try.prog (isAgg 9) w = .ok false w := by intro w; kernel_rfl
  simp only [Op.equalIn, Sem.run_bind, run_underlying Try.underlying94, Result.andThen_ok, hi]
  rw [Std.Legacy.Range.forIn_eq_forIn_range']
  simp [Std.Legacy.Range.size, List.range'_succ, part, ha, h9]
  cases (x0 == y0) <;> cases (x1 == y1) <;> cases (x2 == y2) <;> simp
theorem strs3 {w : World} {g : Nat} {x y z : List UInt8} (h0 : w.cell? ⟨g, 0, none⟩ = some (.string (mkB x))) (h1 : w.cell? ⟨g, 1, none⟩ = some (.string (mkB y))) (h2 : w.cell? ⟨g, 2, none⟩ = some (.string (mkB z))) :
    Strs w (.slice (some ⟨g, 0, none⟩) 3 3) [x, y, z] := by
  refine ⟨some ⟨g, 0, none⟩, 3, rfl, Nat.le_refl _, by unfold maxLen; omega, (fun h => by cases h), fun _ => ⟨g, 0, rfl, World.block_lt_of_cell? w _ h0, fun j hj => ?_⟩⟩
  have : j = 0 ∨ j = 1 ∨ j = 2 := by simp only [List.length_cons, List.length_nil] at hj; omega
  rcases this with rfl | rfl | rfl
  · exact h0
  · exact h1
  · exact h2
theorem lex_may {a b : List (List UInt8)} (ha : ∀ l ∈ a, mayL l = true) (hb : ∀ l ∈ b, mayL l = true) : lexI numC a b = lexI cmpN a b := by
  induction a generalizing b with
  | nil => cases b <;> rfl
  | cons x a ih =>
    cases b with
    | nil => rfl
    | cons y b =>
      rw [lexI, lexI, numC_may (ha x List.mem_cons_self) (hb y List.mem_cons_self), ih (fun l h => ha l (List.mem_cons_of_mem _ h)) (fun l h => hb l (List.mem_cons_of_mem _ h))]
theorem nums_may {v : Ver} (h : fitL v = true) : ∀ l ∈ numsL v, mayL l = true := by
  obtain ⟨h1, h2, h3, _⟩ := fit_parts h
  intro l hl
  simp only [numsL, List.mem_cons, List.not_mem_nil, or_false] at hl
  rcases hl with rfl | rfl | rfl
  · exact h1
  · exact h2
  · exact h3
theorem cmpV_ne {v u : Ver} (fv : fitL v = true) (fu : fitL u = true) (h : ¬ numsL v = numsL u) : cmpV v u = lexI numC (numsL v) (numsL u) := by
  rw [lex_may (nums_may fv) (nums_may fu)]
  unfold cmpV
  rw [if_pos (fun e => h (((ord_lex ord_N).zero _ _).1 e))]
theorem cmpV_eq {v u : Ver} (h : numsL v = numsL u) : cmpV v u = preC v.2.2.2 u.2.2.2 := by
  unfold cmpV
  rw [if_neg (by rw [((ord_lex ord_N).zero _ _).2 h]; simp)]

set_option maxHeartbeats 3200000 in
set_option maxRecDepth 100000 in
theorem order_any (V U : Value) (v u : Ver) (w : World) (hV : VerIn w V v) (hU : VerIn w U u) (fv : fitL v = true) (fu : fitL u = true) (sv : smallV 1000000000 v) (su : smallV 1000000000 u) :
    Calls Try.prog 51 #[V, U] w fun e w' => e = .returned (.int .i64 (cmpV v u)) ∧ Bel w.heap.size w w' := by
  obtain ⟨a, c, rfl, hst⟩ := hV.ex
  obtain ⟨a', c', rfl, hst'⟩ := hU.ex
  obtain ⟨ma, mi, pa, pre⟩ := v
  obtain ⟨ma', mi', pa', pre'⟩ := u
  simp only at hst hst' ⊢
  clear hV hU
  have HST := Lib.hid hst; have HST' := Lib.hid hst'; have FV := Lib.hid fv; have FU := Lib.hid fu; have SV := Lib.hid sv; have SU := Lib.hid su
  clear hst hst' fv fu sv su
  obtain ⟨T, hT⟩ : ∃ T, cmpV (ma, mi, pa, pre) (ma', mi', pa', pre') = T := ⟨_, rfl⟩
  rw [hT]
  have HT := Lib.hid hT; clear hT
  obtain ⟨n, hn⟩ : ∃ n, pre.length = n := ⟨_, rfl⟩
  obtain ⟨n', hn'⟩ : ∃ n, pre'.length = n := ⟨_, rfl⟩
  rw [hn, hn'] 
  have HN := Lib.hid hn; have HN' := Lib.hid hn'; clear hn hn'
  go_enter Try.func51, Try.ntmps51
  go_upto_region 1 with fail
  obtain ⟨wA, hwA⟩ : ∃ wA, wA = (w.alloc (.cells #[.string (mkB ma), .string (mkB mi), .string (mkB pa), .slice a n c] 74)).alloc (.cells #[.string (mkB ma'), .string (mkB mi'), .string (mkB pa'), .slice a' n' c'] 74) := ⟨_, rfl⟩
  have bA : Bel w.heap.size w wA := by rw [hwA]; exact ((Bel.refl _ _).alloc (Nat.le_refl _) _).alloc (by simp) _
  have r1 : wA.heap[w.heap.size]? = some (.cells #[.string (mkB ma), .string (mkB mi), .string (mkB pa), .slice a n c] 74) := by rw [hwA, Below.heap_alloc _ _ _ (by simp)]; exact heap_alloc_new _ _
  have r2 : wA.heap[w.heap.size + 1]? = some (.cells #[.string (mkB ma'), .string (mkB mi'), .string (mkB pa'), .slice a' n' c'] 74) := by
    rw [hwA]; have := heap_alloc_new (w.alloc (.cells #[.string (mkB ma), .string (mkB mi), .string (mkB pa), .slice a n c] 74)) (.cells #[.string (mkB ma'), .string (mkB mi'), .string (mkB pa'), .slice a' n' c'] 74)
    simpa using this
  rw [← hwA]
  obtain ⟨p, hp⟩ : ∃ p, w.heap.size = p := ⟨_, rfl⟩
  obtain ⟨q, hq⟩ : ∃ q, w.heap.size + 1 = q := ⟨_, rfl⟩
  rw [hq] at r2 ⊢
  rw [hp] at r1 ⊢
  have BA := Lib.hid bA; have HP := Lib.hid hp; have HQ := Lib.hid hq
  clear bA hp hq hwA
  obtain ⟨c0, c1, c2, c3, _, _, _, _⟩ := row4 r1
  obtain ⟨d0, d1, d2, d3, _, _, _, _⟩ := row4 r2
  clear r1 r2
  go_cut [5, 6] (fun s5 s6 wx => ∃ g5 g6 : Nat, s5 = .pointer (some ⟨g5, 0, none⟩) ∧ s6 = .pointer (some ⟨g6, 0, none⟩) ∧ wx.cell? ⟨g5, 0, none⟩ = some (.string (mkB ma)) ∧ wx.cell? ⟨g5, 1, none⟩ = some (.string (mkB mi)) ∧ wx.cell? ⟨g5, 2, none⟩ = some (.string (mkB pa)) ∧ wx.cell? ⟨g6, 0, none⟩ = some (.string (mkB ma')) ∧ wx.cell? ⟨g6, 1, none⟩ = some (.string (mkB mi')) ∧ wx.cell? ⟨g6, 2, none⟩ = some (.string (mkB pa')) ∧ Bel wA.heap.size wA wx)
  case first =>
    go_region_held3 (fun w' => w'.cell? ⟨p, 0, none⟩ = some (.string (mkB ma)) ∧ w'.cell? ⟨p, 1, none⟩ = some (.string (mkB mi)) ∧ w'.cell? ⟨p, 2, none⟩ = some (.string (mkB pa)) ∧ w'.cell? ⟨p, 3, none⟩ = some (.slice a n c) ∧ w'.cell? ⟨q, 0, none⟩ = some (.string (mkB ma')) ∧ w'.cell? ⟨q, 1, none⟩ = some (.string (mkB mi')) ∧ w'.cell? ⟨q, 2, none⟩ = some (.string (mkB pa')) ∧ w'.cell? ⟨q, 3, none⟩ = some (.slice a' n' c')) ((repeat' apply And.intro) <;> (with_reducible (repeat (first | assumption | apply cell_alloc | apply cell_drew))))
      (first | (go_at_call 55; refine (numbers_ex _ _ _ _ _ _ _).mono ?_; rintro e w1 ⟨rfl, rfl⟩))
    all_goals (go_wp2_with fail; go_meet)
    all_goals
      refine ⟨_, _, rfl, rfl, ?_, ?_, ?_, ?_, ?_, ?_, ?_⟩
      all_goals first
        | (with_reducible (repeat (first | (refine cell_new ?_ rfl; (simp; done)) | apply cell_alloc | apply cell_drew)); done)
        | (refine bel_step ?_ (bel_q ⟨1, rfl⟩); repeat (first | exact Bel.refl _ _ | refine Bel.alloc ?_ (by simp; try omega) _))
  case rest =>
    obtain ⟨g5, g6, rfl, rfl, x0, x1, x2, y0, y1, y2, hbc⟩ := hcut
    have k3 := bel_keep c3 hbc
    have l3 := bel_keep d3 hbc
    have BC := Lib.hid (bel_step BA.out hbc)
    clear c0 c1 c2 c3 d0 d1 d2 d3 hbc
    obtain ⟨bb, hbb⟩ : ∃ bb, (mkB ma == mkB ma' && (mkB mi == mkB mi' && mkB pa == mkB pa')) = bb := ⟨_, rfl⟩
    have heq : ∀ w, Sem.run Try.prog (Op.equalIn 10000 94 (.agg #[.string (mkB ma), .string (mkB mi), .string (mkB pa)]) (.agg #[.string (mkB ma'), .string (mkB mi'), .string (mkB pa')])) w = .ok bb w := fun w => by
      rw [← hbb]; exact arr_eq_d 9999 (str_eq 9998) _ _ _ _ _ _ w
    rw [mkB_beq, mkB_beq, mkB_beq] at hbb
    have HBB := Lib.hid hbb; clear hbb
    have HS5 := Lib.hid (strs3 x0 x1 x2); have HS6 := Lib.hid (strs3 y0 y1 y2)
    cases bb
    · have hc : T = lexI numC [ma, mi, pa] [ma', mi', pa'] := by
        rw [← HT.out]
        refine cmpV_ne FV.out FU.out fun e => ?_
        simp only [numsL, List.cons.injEq] at e
        obtain ⟨rfl, rfl, rfl, _⟩ := e
        have := HBB.out
        simp at this
      have HC := Lib.hid hc; clear hc
      have HSA : Hid (∀ l ∈ [ma, mi, pa], l.length ≤ 1000000000) := Lib.hid (by
        obtain ⟨h1, h2, h3, _, _⟩ := SV.out
        intro l hl; simp only [List.mem_cons, List.not_mem_nil, or_false] at hl; rcases hl with rfl | rfl | rfl <;> assumption)
      have HSB : Hid (∀ l ∈ [ma', mi', pa'], l.length ≤ 1000000000) := Lib.hid (by
        obtain ⟨h1, h2, h3, _, _⟩ := SU.out
        intro l hl; simp only [List.mem_cons, List.not_mem_nil, or_false] at hl; rcases hl with rfl | rfl | rfl <;> assumption)
      go_wp2
      go_region_with (go_at_call 69; refine (cmpfnum_any _ _ [ma, mi, pa] [ma', mi', pa'] _ (strs_drew HS5.out) (strs_drew HS6.out) HSA.out HSB.out).mono ?_; rintro e w2 ⟨rfl, hb2⟩; have HB2 := Lib.hid hb2; clear hb2; rw [← HC.out])
      all_goals
        go_wp2
        go_ret
        exact ⟨rfl, bel_step (bel_step BC.out (bel_q ⟨1, rfl⟩)) HB2.out⟩
    · have hc : T = preC pre pre' := by
        rw [← HT.out]
        refine cmpV_eq ?_
        have := HBB.out
        simp only [Bool.and_eq_true, decide_eq_true_eq] at this
        obtain ⟨rfl, rfl, rfl⟩ := this
        rfl
      have HC := Lib.hid hc; clear hc
      have hn0 : pre = [] ↔ n = 0 := by rw [← HN.out]; exact List.length_eq_zero_iff.symm
      have hn0' : pre' = [] ↔ n' = 0 := by rw [← HN'.out]; exact List.length_eq_zero_iff.symm
      by_cases h0 : n = 0 ∨ n' = 0
      · have hv : T = if (n' : Int) < n then -1 else if (n : Int) < n' then 1 else 0 := by
          rw [HC.out]; unfold preC
          by_cases e1 : n = 0
          · rw [if_pos (hn0.2 e1)]
            by_cases e2 : n' = 0
            · rw [if_pos (hn0'.2 e2), if_neg (by omega), if_neg (by omega)]
            · rw [if_neg (fun h => e2 (hn0'.1 h)), if_neg (by omega), if_pos (by omega)]
          · have e2 : n' = 0 := by omega
            rw [if_neg (fun h => e1 (hn0.1 h)), if_pos (hn0'.2 e2), if_pos (by omega)]
        have HV := Lib.hid hv
        clear hv hn0 hn0'
        by_cases e1 : n = 0
        · have hb1 : ((n : Int) == 0) = true := by rw [e1]; rfl
          have E1 := Lib.hid e1; clear e1 h0
          go_wp2_with (go_at_call 71; refine (compare_any _ _ _).mono ?_; rintro e w3 ⟨rfl, rfl⟩; rw [← HV.out])
          go_ret
          exact ⟨rfl, BC.out⟩
        · have hb1 : ((n : Int) == 0) = false := by rw [beq_eq_false_iff_ne]; omega
          have hb2 : ((n' : Int) == 0) = true := by have : n' = 0 := by omega
                                                    rw [this]; rfl
          clear e1 h0
          go_wp2_with (go_at_call 71; refine (compare_any _ _ _).mono ?_; rintro e w3 ⟨rfl, rfl⟩; rw [← HV.out])
          go_ret
          exact ⟨rfl, BC.out⟩
      · have hb1 : ((n : Int) == 0) = false := by rw [beq_eq_false_iff_ne]; omega
        have hb2 : ((n' : Int) == 0) = false := by rw [beq_eq_false_iff_ne]; omega
        have hv : T = lexI wordC pre pre' := by
          rw [HC.out]; unfold preC
          rw [if_neg (fun h => h0 (.inl (hn0.1 h))), if_neg (fun h => h0 (.inr (hn0'.1 h)))]
        have HV := Lib.hid hv
        have SP := Lib.hid SV.out.2.2.2.2; have SP' := Lib.hid SU.out.2.2.2.2
        have hs1 := HST.out.below BC.out; have hs2 := HST'.out.below BC.out
        rw [HN.out] at hs1; rw [HN'.out] at hs2
        have HS1 := Lib.hid hs1; have HS2 := Lib.hid hs2
        clear hv hn0 hn0' h0 hs1 hs2
        go_wp2_with (go_at_call 69; refine (cmpfword_any _ _ pre pre' _ HS1.out HS2.out SP.out SP'.out).mono ?_; rintro e w2 ⟨rfl, hb3⟩; have HB2 := Lib.hid hb3; clear hb3; rw [← HV.out])
        go_ret
        exact ⟨rfl, bel_step BC.out HB2.out⟩
end Go.Proofs.Ytjnkjjlpkgbkiaa

namespace Go.Proofs.Ytjnkjjlpkgbkiaa
open Go.RowKit
set_option maxRecDepth 100000

def okE (l : List UInt8) : Int := if okV l = true then 0 else 1
theorem split_e (s : ByteArray) (w : World) (hs : s.size ≤ 1000000000) :
    Calls Try.prog 36 #[.string s] w fun e w' => ∃ a c, e = .returned (.tuple #[.agg #[.string (mkB (verOf s.data.toList).1), .string (mkB (verOf s.data.toList).2.1), .string (mkB (verOf s.data.toList).2.2.1), .slice a (verOf s.data.toList).2.2.2.length c], .int .i64 (okE s.data.toList)]) ∧ Strs w' (.slice a (verOf s.data.toList).2.2.2.length c) (verOf s.data.toList).2.2.2 ∧ Bel w.heap.size w w' := by
  refine (split_any s w hs).mono ?_
  rintro e w' ⟨V, rfl, hV, _, hb⟩
  obtain ⟨a, c, rfl, hst⟩ := hV.ex
  exact ⟨a, c, rfl, hst, hb⟩
theorem split_f (s : ByteArray) (w : World) (hs : s.size ≤ 1000000000) :
    Calls Try.prog 36 #[.string s] w fun e w' => ∃ a c, e = .returned (.tuple #[.agg #[.string (mkB (verOf s.data.toList).1), .string (mkB (verOf s.data.toList).2.1), .string (mkB (verOf s.data.toList).2.2.1), .slice a (verOf s.data.toList).2.2.2.length c], .int .i64 (okE s.data.toList)]) ∧ Strs w' (.slice a (verOf s.data.toList).2.2.2.length c) (verOf s.data.toList).2.2.2 ∧ (∀ ad, a = some ad → w.heap.size ≤ ad.block) ∧ Bel w.heap.size w w' := by
  refine (split_any s w hs).mono ?_
  rintro e w' ⟨V, rfl, hV, hf, hb⟩
  obtain ⟨a, c, rfl, hst⟩ := hV.ex
  exact ⟨a, c, rfl, hst, hf.at, hb⟩
set_option maxHeartbeats 800000 in
theorem vmay_any (s : ByteArray) (w : World) (hs : s.size ≤ 1000000000) :
    Calls Try.prog 30 #[.string s] w fun e w' => e = .returned (.bool (okV s.data.toList)) ∧ Bel w.heap.size w w' := by
  have HS := Lib.hid hs; clear hs
  obtain ⟨o, ho⟩ : ∃ o, okV s.data.toList = o := ⟨_, rfl⟩
  have he : okE s.data.toList = if o = true then 0 else 1 := by unfold okE; rw [ho]
  have HE := Lib.hid he; have HO := Lib.hid ho; clear he ho
  cases o
  all_goals
    go_enter Try.func30, Try.ntmps30
    go_wp2_with (go_at_call 36; refine (split_e s _ HS.out).mono ?_; rintro e w1 ⟨a, c, rfl, _, hb1⟩; rw [HE.out])
    go_ret
    exact ⟨ret_bool HO.out.symm, bel_step hb1 ((Bel.refl _ _).alloc (Nat.le_refl _) _)⟩

/-! ### Cmp -/
def vcmpE (a b : List UInt8) : Int × Int := if okV a = true ∧ okV b = true then (cmpT a b, 0) else (0, 1)
theorem small_verOf (l : List UInt8) (h : l.length ≤ 1000000000) : smallV 1000000000 (verOf l) := by
  cases ho : okV l
  · rw [verOf_no ho]; exact ⟨by simp, by simp, by simp, by simp, fun l hl => by cases hl⟩
  · obtain ⟨hj, hf⟩ := join_ok ho
    obtain ⟨v, hv⟩ : ∃ v, verOf l = v := ⟨_, rfl⟩
    rw [hv] at hj hf ⊢
    obtain ⟨ma, mi, pa, pre⟩ := v
    have hl : (joinL (ma, mi, pa, pre)).length ≤ 1000000000 := by rw [hj]; exact h
    unfold joinL at hl
    simp only [List.length_append, List.length_cons] at hl
    refine ⟨by show ma.length ≤ _; omega, by show mi.length ≤ _; omega, by show pa.length ≤ _; omega, ?_, ?_⟩
    · show pre.length ≤ _
      by_cases hp : pre = []
      · rw [hp]; simp
      · rw [if_neg hp] at hl
        simp only [List.length_cons] at hl
        have := splitL_len 46 (jn 46 pre)
        have hw : ∀ l ∈ pre, ∀ y ∈ l, ¬ (y.toNat : Int) = 46 := fun l hl => word_no46 (List.all_eq_true.1 (fit_parts hf).2.2.2 l hl)
        rw [split_jn 46 46 (by decide) pre hp hw] at this
        omega
    · intro q hq
      have hq' : q ∈ pre := hq
      have hp : pre ≠ [] := by intro e; rw [e] at hq'; cases hq'
      rw [if_neg hp] at hl
      simp only [List.length_cons] at hl
      have hw : ∀ l ∈ pre, ∀ y ∈ l, ¬ (y.toNat : Int) = 46 := fun l hl => word_no46 (List.all_eq_true.1 (fit_parts hf).2.2.2 l hl)
      have := split_le 46 (jn 46 pre) q (by rw [split_jn 46 46 (by decide) pre hp hw]; exact hq')
      omega

set_option maxHeartbeats 1600000 in
set_option maxRecDepth 100000 in
theorem vcmp_any (s t : ByteArray) (w : World) (hs : s.size ≤ 1000000000) (ht : t.size ≤ 1000000000) :
    Calls Try.prog 41 #[.string s, .string t] w fun e w' => e = .returned (.tuple #[.int .i64 (vcmpE s.data.toList t.data.toList).1, .int .i64 (vcmpE s.data.toList t.data.toList).2]) ∧ Bel w.heap.size w w' := by
  have SS := small_verOf s.data.toList (by rw [← Lib.size_eq]; exact hs)
  have ST := small_verOf t.data.toList (by rw [← Lib.size_eq]; exact ht)
  have HS := Lib.hid hs; have HT := Lib.hid ht; clear hs ht
  obtain ⟨o, ho⟩ : ∃ o, okV s.data.toList = o := ⟨_, rfl⟩
  obtain ⟨p, hp⟩ : ∃ p, okV t.data.toList = p := ⟨_, rfl⟩
  have he : okE s.data.toList = if o = true then 0 else 1 := by unfold okE; rw [ho]
  have hf : okE t.data.toList = if p = true then 0 else 1 := by unfold okE; rw [hp]
  have hfs : fitL (verOf s.data.toList) = o := by rw [fit_verOf]; exact ho
  have hft : fitL (verOf t.data.toList) = p := by rw [fit_verOf]; exact hp
  have hr : vcmpE s.data.toList t.data.toList = if o = true ∧ p = true then (cmpV (verOf s.data.toList) (verOf t.data.toList), 0) else (0, 1) := by unfold vcmpE; rw [ho, hp]; rfl
  obtain ⟨v, hv⟩ : ∃ v, verOf s.data.toList = v := ⟨_, rfl⟩
  obtain ⟨u, hu⟩ : ∃ u, verOf t.data.toList = u := ⟨_, rfl⟩
  rw [hv] at hfs hr SS; rw [hu] at hft hr ST
  have HE := Lib.hid he; have HF := Lib.hid hf; have HR := Lib.hid hr; have FS := Lib.hid hfs; have FT := Lib.hid hft; have HV := Lib.hid hv; have HU := Lib.hid hu; have SSH := Lib.hid SS; have STH := Lib.hid ST
  clear he hf hr hfs hft ho hp hv hu SS ST
  cases o <;> cases p
  all_goals
    go_enter Try.func41, Try.ntmps41
    go_upto_region 2 with (go_at_call 36; refine (split_e _ _ HS.out).mono ?_; rintro e w1 ⟨a1, c1, rfl, hst1, hb1⟩; rw [HV.out] at hst1 ⊢; rw [HE.out]; have ST1 := Lib.hid hst1; have B1 := Lib.hid hb1; clear hst1 hb1)
    go_wp2_with (first
      | (go_at_call 36; refine (split_e _ _ HT.out).mono ?_; rintro e w2 ⟨a2, c2, rfl, hst2, hb2⟩; rw [HU.out] at hst2 ⊢; rw [HF.out]; obtain ⟨d0, d1, d2, d3, _, _, _, _⟩ := row4 (row_keep (heap_alloc_new w1 (.cells #[.string (mkB v.1), .string (mkB v.2.1), .string (mkB v.2.2.1), .slice a1 v.2.2.2.length c1] 74)) hb2);
          have d0' := fun o => cell_alloc d0 o; have d1' := fun o => cell_alloc d1 o; have d2' := fun o => cell_alloc d2 o; have d3' := fun o => cell_alloc d3 o;
          have ST2 := Lib.hid hst2; have STA := Lib.hid ((ST1.out.below ((Bel.refl _ _).alloc (Nat.le_refl _) (.cells #[.string (mkB v.1), .string (mkB v.2.1), .string (mkB v.2.2.1), .slice a1 v.2.2.2.length c1] 74))).below hb2); have B2 := Lib.hid (bel_step (B1.out.alloc B1.out.size (.cells #[.string (mkB v.1), .string (mkB v.2.1), .string (mkB v.2.2.1), .slice a1 v.2.2.2.length c1] 74)) hb2); clear hst2 hb2)
      | (go_at_call 51; refine (order_any _ _ v u _ ⟨⟨_, _, rfl, STA.out.below ((Bel.refl _ _).alloc (Nat.le_refl _) _)⟩⟩ ⟨⟨_, _, rfl, ST2.out.below ((Bel.refl _ _).alloc (Nat.le_refl _) _)⟩⟩ FS.out FT.out SSH.out STH.out).mono ?_; rintro e w3 ⟨rfl, hb3⟩; have B3 := Lib.hid (bel_step (B2.out.alloc B2.out.size _) hb3); clear hb3))
    go_ret2
    first
      | exact ⟨by rw [HR.out]; rfl, B3.out⟩
      | exact ⟨by rw [HR.out]; rfl, B2.out.alloc B2.out.size _⟩
end Go.Proofs.Ytjnkjjlpkgbkiaa

namespace Go.Proofs.Ytjnkjjlpkgbkiaa
open Go.RowKit
set_option maxRecDepth 100000

theorem ver_eq (v u : Ver) : decide (v = u) = (decide (v.1 = u.1) && (decide (v.2.1 = u.2.1) && (decide (v.2.2.1 = u.2.2.1) && sameB v.2.2.2 u.2.2.2))) := by
  obtain ⟨a, b, c, d⟩ := v
  obtain ⟨a', b', c', d'⟩ := u
  unfold sameB
  rw [Bool.eq_iff_iff]
  simp

def joinE (v : Ver) : List UInt8 × Int := if fitL v = true then (joinL v, 0) else ([], 1)
theorem base_txt (ma mi pa : List UInt8) : (⟨#[118]⟩ : ByteArray) ++ mkB ma ++ ⟨#[46]⟩ ++ mkB mi ++ ⟨#[46]⟩ ++ mkB pa = mkB (118 :: (ma ++ 46 :: (mi ++ 46 :: pa))) := mkB_of' (by simp only [cat_list, mkB_list]; simp)
theorem tail_txt (l q : List UInt8) (c : UInt8) : mkB l ++ ((⟨#[c]⟩ : ByteArray) ++ mkB q) = mkB (l ++ c :: q) := mkB_of' (by simp only [cat_list, mkB_list]; simp)
theorem joinL_none (ma mi pa : List UInt8) : joinL (ma, mi, pa, []) = 118 :: (ma ++ 46 :: (mi ++ 46 :: pa)) := by simp [joinL]
theorem joinL_some (ma mi pa : List UInt8) (pre : List (List UInt8)) (h : pre ≠ []) : joinL (ma, mi, pa, pre) = (118 :: (ma ++ 46 :: (mi ++ 46 :: pa))) ++ 45 :: jn 46 pre := by simp [joinL, h]
end Go.Proofs.Ytjnkjjlpkgbkiaa

namespace Go.Proofs.Ytjnkjjlpkgbkiaa
open Go.RowKit
set_option maxRecDepth 100000

theorem joinL_step (ma mi pa : List UInt8) (pre : List (List UInt8)) (k : Nat) (h : k < pre.length) :
    joinL (ma, mi, pa, pre.take (k + 1)) = joinL (ma, mi, pa, pre.take k) ++ (if k = 0 then 45 else 46) :: pre.getD k [] := by
  have hne : pre.take (k + 1) ≠ [] := by
    intro e
    have := congrArg List.length e
    rw [List.length_take] at this
    simp only [List.length_nil] at this
    omega
  by_cases h0 : k = 0
  · subst h0
    rw [joinL_some _ _ _ _ hne, jn_zero 46 pre h, List.take_zero, joinL_none, if_pos rfl]
  · have hne' : pre.take k ≠ [] := by
      intro e
      have := congrArg List.length e
      rw [List.length_take] at this
      simp only [List.length_nil] at this
      omega
    rw [joinL_some _ _ _ _ hne, joinL_some _ _ _ _ hne', jn_succ 46 pre k (by omega) h, if_neg h0]
    simp
theorem joinL_take_le (ma mi pa : List UInt8) (pre : List (List UInt8)) (k : Nat) : (joinL (ma, mi, pa, pre.take k)).length ≤ (joinL (ma, mi, pa, pre)).length := by
  by_cases h0 : pre.take k = []
  · rw [h0, joinL_none]
    by_cases h1 : pre = []
    · rw [h1, joinL_none]; exact Nat.le_refl _
    · rw [joinL_some _ _ _ _ h1]; simp
  · have h1 : pre ≠ [] := fun e => h0 (by rw [e]; simp)
    rw [joinL_some _ _ _ _ h0, joinL_some _ _ _ _ h1]
    have := jn_le 46 pre k
    simp; omega
theorem put_txt (l q : List UInt8) (c : UInt8) : mkB l ++ (⟨#[c]⟩ : ByteArray) ++ mkB q = mkB (l ++ c :: q) := mkB_of' (by simp only [cat_list, mkB_list]; simp)

end Go.Proofs.Ytjnkjjlpkgbkiaa

namespace Go.Proofs.Ytjnkjjlpkgbkiaa
open Go.RowKit
set_option maxRecDepth 100000

/-- What the walk keeps of the two versions. -/
structure TwoPre (w0 w : World) (g5 g7 : Nat) (a1 a2 : Option Addr) (c1 c2 n m : Nat) (p q : List (List UInt8)) : Prop where
  x5 : w.cell? ⟨g5, 3, none⟩ = some (.slice a1 n c1)
  x7 : w.cell? ⟨g7, 3, none⟩ = some (.slice a2 m c2)
  s1 : Strs w (.slice a1 n c1) p
  s2 : Strs w (.slice a2 m c2) q
  bl : Bel w0.heap.size w0 w
theorem TwoPre.drewN {w0 w : World} {g5 g7 : Nat} {a1 a2 : Option Addr} {c1 c2 n m : Nat} {p q : List (List UInt8)} (k : Nat) (h : TwoPre w0 w g5 g7 a1 a2 c1 c2 n m p q) : TwoPre w0 (w.drewN k) g5 g7 a1 a2 c1 c2 n m p q :=
  ⟨by simpa using h.x5, by simpa using h.x7, h.s1.drewN k, h.s2.drewN k, bel_step h.bl (bel_q ⟨k, rfl⟩)⟩

end Go.Proofs.Ytjnkjjlpkgbkiaa
