/- THE TEXTS OF NumE NumF VerE VerF VerG VerH VerK VerL: The document's digit, May, at and order; the program's Value and the document's. The document's order and value, and the program's value. The document's own words and Split. The document's own Split. Version's order: the library's order of two slices, by numbers and by words. Version's order of two versions. THE TEXTS OF VerI VerJ VerK: Version's May, Cmp and Join, and the document's May. Version's Join, the document's Join, and whether two versions are the same. The document's Join. The document's order of two versions. -/
import Derived.Test.YtdefphacdcbljaaNumH
import Derived.Test.YtdefphacdcbljaaVerD
import Derived.Test.YtdefphacdcbljaaRolL
import Derived.Deep.DrawnRows
import Derived.Deep.RegionHeld3
import Derived.Deep.CutRange
import Derived.Deep.DeepCutAuto
import Derived.Lib.Join
namespace Go.Proofs.Ytdefphacdcbljaa
open Go.RowKit
set_option maxRecDepth 100000

def digI (c : Int) : Int := if 48 ≤ c ∧ c ≤ 57 then c - 48 else -1

set_option maxHeartbeats 400000 in
theorem digit_any (c : Int) (h0 : 0 ≤ c) (h1 : c < 256) (w : World) :
    Calls Try.prog 63 #[.int .u8 c] w fun e w' => e = .returned (.int .i64 (digI c)) ∧ w = w' := by
  by_cases hd : 48 ≤ c ∧ c ≤ 57
  · have e : digI c = c - 48 := by unfold digI; rw [if_pos hd]
    obtain ⟨d1, d2⟩ := hd
    rw [e]; clear e
    go_enter Try.func63, Try.ntmps63
    go_wp2
    go_ret
    exact ⟨rfl, rfl⟩
  · have e : digI c = -1 := by unfold digI; rw [if_neg hd]
    rw [e]; clear e
    by_cases h2 : c < 48
    · clear hd
      go_enter Try.func63, Try.ntmps63
      go_wp2
      go_ret
      exact ⟨rfl, rfl⟩
    · have h3 : 57 < c := by omega
      clear hd
      go_enter Try.func63, Try.ntmps63
      go_wp2
      go_ret
      exact ⟨rfl, rfl⟩

theorem dig_yes {c : UInt8} (h : isD c = true) : digI (c.toNat : Int) = ((c.toNat - 48 : Nat) : Int) := by
  have := isD_bd h
  unfold digI; rw [if_pos (by omega)]; omega
theorem dig_no {c : UInt8} (h : isD c = false) : digI (c.toNat : Int) = -1 := by
  unfold digI; rw [if_neg]
  intro hh
  have : isD c = true := by unfold isD; simp; omega
  rw [h] at this; cases this
theorem at_list (s : ByteArray) (k : Nat) (h : k < s.size) : s[k] ∈ s.data.toList := by
  have : s[k] = s.data.toList[k]'(by simpa using h) := rfl
  rw [this]; exact List.getElem_mem _

set_option maxHeartbeats 800000 in
theorem refmay_any (s : ByteArray) (w : World) (hs : s.size ≤ 1000000000) :
    Calls Try.prog 53 #[.string s] w fun e w' => e = .returned (.bool (mayL s.data.toList)) ∧ w = w' := by
  have hl := Lib.size_eq s
  have HL := Lib.hid hl; clear hl
  go_enter Try.func53, Try.ntmps53
  go_wp2
  go_loop [3] (fun i => ∃ k : Nat, k ≤ s.size ∧ i = .int .i64 k ∧ Hid ((s.data.toList.take k).all isD = true)) (fun i => s.size - (intOf i).toNat)
  case atStart => exact ⟨0, Nat.zero_le _, rfl, Lib.hid (by simp)⟩
  case round =>
    obtain ⟨k, hk, rfl, H⟩ := hrel
    by_cases hlt : k < s.size
    · have h8 : s[k].toNat < 256 := UInt8.toNat_lt _
      cases hd : isD s[k]
      · have he := dig_no hd
        have hm : mayL s.data.toList = false := by
          cases hx : mayL s.data.toList
          · rfl
          · have := List.all_eq_true.1 (mayL_all hx) _ (at_list s k hlt)
            rw [hd] at this; cases this
        have HE := Lib.hid he; have HM := Lib.hid hm; clear he hm hd
        go_wp2_with (go_at_call 63; refine (digit_any _ (by omega) (by omega) _).mono ?_; rintro e w' ⟨rfl, rfl⟩; rw [HE.out])
        go_ret
        exact ⟨ret_bool HM.out.symm, rfl⟩
      · have he := dig_yes hd
        obtain ⟨d, hdd⟩ : ∃ d : Nat, d = s[k].toNat - 48 := ⟨_, rfl⟩
        rw [← hdd] at he
        have hn : (s.data.toList.take (k + 1)).all isD = true := by
          have e : s.data.toList[k]'(by simpa using hlt) = s[k] := rfl
          rw [List.take_succ_eq_append_getElem (by simpa using hlt), List.all_append, H.out, e]
          simp [hd]
        have HE := Lib.hid he; have HN := Lib.hid hn; clear he hn hd hdd
        go_wp2_with (go_at_call 63; refine (digit_any _ (by omega) (by omega) _).mono ?_; rintro e w' ⟨rfl, rfl⟩; rw [HE.out])
        go_round
        case rel => exact ⟨k + 1, by omega, by go_num, HN⟩
        case measure => simp [intOf]; omega
    · have hall : s.data.toList.all isD = true := by
        have h5 := H.out
        rwa [List.take_of_length_le (by rw [← HL.out]; omega)] at h5
      rcases Nat.lt_trichotomy s.size 1 with h1 | h1 | h1
      · have hm : mayL s.data.toList = false := by
          have : s.data.toList = [] := List.eq_nil_of_length_eq_zero (by rw [← HL.out]; omega)
          rw [this]; rfl
        have HM := Lib.hid hm; clear hm hall
        go_wp2
        go_ret
        exact ⟨ret_bool (by rw [HM.out]; simp; omega), rfl⟩
      · have hm : mayL s.data.toList = true := by
          unfold mayL
          rw [hall, ← HL.out, h1]
          have : s.data.toList.isEmpty = false := by
            have := empty_iff s
            rw [Lib.toList_data] at this
            rw [this, h1]; rfl
          rw [this]; simp
        have HM := Lib.hid hm; clear hm hall
        go_wp2
        go_ret
        exact ⟨ret_bool (by rw [HM.out]), rfl⟩
      · have h0 : 0 < s.size := by omega
        have hc := bytes_cons s h0
        have hm : mayL s.data.toList = decide ((s[0].toNat : Int) ≠ 48) := by
          unfold mayL
          rw [hall, ← HL.out]
          have e1 : s.data.toList.isEmpty = false := by rw [hc]; rfl
          have e2 : decide (s.size = 1) = false := decide_eq_false (by omega)
          rw [e1, e2, hc]
          simp only [List.head?_cons, ne_eq, Option.some.injEq]
          have e : (s[0] = 48) = ((s[0].toNat : Int) = 48) := by
            rw [← UInt8.toNat_inj]
            have : (48 : UInt8).toNat = 48 := rfl
            rw [this]; apply propext; omega
          simp [e]
        have HM := Lib.hid hm; clear hm hall hc
        by_cases h48 : (s[0].toNat : Int) = 48
        · have h4 : ((s[0].toNat : Int) != 48) = false := by simpa using h48
          have H48 := Lib.hid h48; clear h48
          go_wp2
          go_ret
          exact ⟨ret_bool (by rw [HM.out]; simp [H48.out]; try omega), rfl⟩
        · have h4 : ((s[0].toNat : Int) != 48) = true := by simpa using h48
          have H48 := Lib.hid h48; clear h48
          go_wp2
          go_ret
          exact ⟨ret_bool (by rw [HM.out]; simp [H48.out]), rfl⟩

/-- The digit of a place, from the lowest one on. -/
def atN (l : List UInt8) (i : Nat) : Nat := valL l / 10 ^ i % 10
theorem valR_at : ∀ (r : List UInt8) (i : Nat), r.all isD = true → valR r / 10 ^ i % 10 = (r.getD i 48).toNat - 48
  | [], i, _ => by simp [valR]
  | c :: r, 0, h => by
    rw [List.all_cons, Bool.and_eq_true] at h
    have := isD_bd h.1
    simp only [valR, Nat.pow_zero, Nat.div_one]
    show _ = c.toNat - 48
    omega
  | c :: r, i + 1, h => by
    rw [List.all_cons, Bool.and_eq_true] at h
    have := isD_bd h.1
    have ih := valR_at r i h.2
    have e : (c.toNat - 48 + 10 * valR r) / 10 ^ (i + 1) = valR r / 10 ^ i := by
      rw [Nat.pow_succ, Nat.mul_comm (10 ^ i) 10, ← Nat.div_div_eq_div_mul]
      congr 1
      omega
    rw [valR, e, ih]
    rfl
theorem atN_in (s : ByteArray) (i : Nat) (h : s.data.toList.all isD = true) (hi : i < s.size) : atN s.data.toList i = s[s.size - 1 - i].toNat - 48 := by
  have hl := Lib.size_eq s
  unfold atN valL
  rw [valR_at _ i (by rw [List.all_reverse]; exact h)]
  congr 1
  rw [List.getD_eq_getElem?_getD, List.getElem?_reverse (by omega), List.getElem?_eq_getElem (by omega)]
  simp only [Option.getD_some]
  have : s.data.toList[s.data.toList.length - 1 - i]'(by omega) = s[s.size - 1 - i]'(by omega) := by
    show _ = s.data.toList[s.size - 1 - i]'(by simp; omega)
    congr 1 <;> omega
  rw [this]
theorem atN_out (s : ByteArray) (i : Nat) (h : s.data.toList.all isD = true) (hi : s.size ≤ i) : atN s.data.toList i = 0 := by
  have hl := Lib.size_eq s
  have := valL_lt _ h
  unfold atN
  have h2 : (10 : Nat) ^ s.data.toList.length ≤ 10 ^ i := Nat.pow_le_pow_right (by omega) (by omega)
  rw [Nat.div_eq_of_lt (by omega)]

set_option maxHeartbeats 400000 in
theorem at_any (s : ByteArray) (i : Nat) (w : World) (hs : s.size ≤ 1000000000) (hi : i ≤ 1000000000) (h : s.data.toList.all isD = true) :
    Calls Try.prog 62 #[.string s, .int .i64 i] w fun e w' => e = .returned (.int .i64 (atN s.data.toList i : Nat)) ∧ w = w' := by
  by_cases hlt : i < s.size
  · have he := atN_in s i h hlt
    have hd := List.all_eq_true.1 h _ (at_list s (s.size - 1 - i) (by omega))
    have hg := dig_yes hd
    rw [← he] at hg
    have h8 : s[s.size - 1 - i].toNat < 256 := UInt8.toNat_lt _
    have HG := Lib.hid hg; clear hg hd he h
    go_enter Try.func62, Try.ntmps62
    go_wp2_with (go_at_call 63; refine (digit_any _ (by omega) (by omega) _).mono ?_; rintro e w' ⟨rfl, rfl⟩; rw [HG.out])
    go_ret
    exact ⟨rfl, rfl⟩
  · have he := atN_out s i h (by omega)
    have HE := Lib.hid he; clear he h
    go_enter Try.func62, Try.ntmps62
    go_wp2
    go_ret
    exact ⟨ret_int (by rw [HE.out]; rfl), rfl⟩
end Go.Proofs.Ytdefphacdcbljaa

namespace Go.Proofs.Ytdefphacdcbljaa
open Go.RowKit
set_option maxRecDepth 100000

theorem div_step (v j : Nat) : v / 10 ^ (j + 1) = v / 10 ^ j / 10 := by rw [Nat.pow_succ, Nat.div_div_eq_div_mul]
theorem div_lt_of {v u j : Nat} (h : v / 10 ^ j < u / 10 ^ j) : v < u := by
  rcases Nat.lt_or_ge v u with h1 | h1
  · exact h1
  · have := Nat.div_le_div_right (c := 10 ^ j) h1; omega

set_option maxHeartbeats 1600000 in
theorem refcmp2_any (a b : ByteArray) (w : World) (ha : a.size ≤ 1000000000) (hb : b.size ≤ 1000000000) (ma : mayL a.data.toList = true) (mb : mayL b.data.toList = true) :
    Calls Try.prog 50 #[.string a, .string b] w fun e w' => e = .returned (.int .i64 (cmpN a.data.toList b.data.toList)) ∧ w = w' := by
  have hla := Lib.size_eq a
  have hlb := Lib.size_eq b
  have va := valL_lt _ (mayL_all ma)
  have vb := valL_lt _ (mayL_all mb)
  have hv := cmpN_val _ _ ma mb
  have MA := Lib.hid (mayL_all ma); have MB := Lib.hid (mayL_all mb); clear ma mb
  obtain ⟨N, hN⟩ : ∃ N, N = max a.size b.size := ⟨_, rfl⟩
  have hs : valL a.data.toList / 10 ^ N = valL b.data.toList / 10 ^ N := by
    have h1 : (10 : Nat) ^ a.data.toList.length ≤ 10 ^ N := Nat.pow_le_pow_right (by omega) (by omega)
    have h2 : (10 : Nat) ^ b.data.toList.length ≤ 10 ^ N := Nat.pow_le_pow_right (by omega) (by omega)
    rw [Nat.div_eq_of_lt (by omega), Nat.div_eq_of_lt (by omega)]
  have HS := Lib.hid hs; have HV := Lib.hid hv
  clear hs hv va vb hla hlb
  by_cases hab : a.size < b.size
  all_goals
    go_enter Try.func50, Try.ntmps50
    go_wp2
    go_loop [5] (fun i => ∃ m : Nat, m ≤ N ∧ i = .int .i64 ((m : Int) - 1) ∧ Hid (valL a.data.toList / 10 ^ m = valL b.data.toList / 10 ^ m)) (fun i => (intOf i + 1).toNat)
    case atStart => exact ⟨N, Nat.le_refl _, by first | (congr 1; omega) | rfl, HS⟩
    case round =>
      obtain ⟨m, hm, rfl, H⟩ := hrel
      rcases Nat.eq_zero_or_pos m with rfl | hm0
      · have hr : cmpN a.data.toList b.data.toList = 0 := by
          have h5 := H.out
          simp only [Nat.pow_zero, Nat.div_one] at h5
          rcases HV.out with h | h | h <;> omega
        have HR := Lib.hid hr; clear hr
        go_wp2
        go_ret
        exact ⟨ret_int HR.out.symm, rfl⟩
      · obtain ⟨j, rfl⟩ : ∃ j, m = j + 1 := ⟨m - 1, by omega⟩
        have hj : ((j + 1 : Nat) : Int) - 1 = j := by omega
        rw [hj]
        have h5 := H.out
        rw [div_step, div_step] at h5
        obtain ⟨p, hp⟩ : ∃ p, atN a.data.toList j = p := ⟨_, rfl⟩
        obtain ⟨q, hq⟩ : ∃ p, atN b.data.toList j = p := ⟨_, rfl⟩
        have hp2 : p = valL a.data.toList / 10 ^ j % 10 := hp.symm
        have hq2 : q = valL b.data.toList / 10 ^ j % 10 := hq.symm
        have hc : (p < q ∧ cmpN a.data.toList b.data.toList = -1) ∨ (q < p ∧ cmpN a.data.toList b.data.toList = 1) ∨ (p = q ∧ valL a.data.toList / 10 ^ j = valL b.data.toList / 10 ^ j) := by
          rcases Nat.lt_trichotomy p q with h | h | h
          · refine .inl ⟨h, ?_⟩
            have := div_lt_of (v := valL a.data.toList) (u := valL b.data.toList) (j := j) (by omega)
            rcases HV.out with h | h | h
            · exact h.1
            · rw [h.2] at this; omega
            · omega
          · exact .inr (.inr ⟨h, by omega⟩)
          · refine .inr (.inl ⟨h, ?_⟩)
            have := div_lt_of (v := valL b.data.toList) (u := valL a.data.toList) (j := j) (by omega)
            rcases HV.out with h | h | h
            · omega
            · rw [h.2] at this; omega
            · exact h.1
        have hp9 : p ≤ 9 := by omega
        have hq9 : q ≤ 9 := by omega
        have HP := Lib.hid hp; have HQ := Lib.hid hq
        clear h5 hp2 hq2 hp hq hj
        rcases hc with ⟨c1, c2⟩ | ⟨c1, c2⟩ | ⟨c1, c2⟩
        · have HR := Lib.hid c2; clear c2
          go_wp2_with (go_at_call 62; refine (at_any _ _ _ (by first | exact ha | exact hb) (by omega) (by first | exact MA.out | exact MB.out)).mono ?_; rintro e w' ⟨rfl, rfl⟩; first | rw [HP.out] | rw [HQ.out])
          go_ret
          exact ⟨ret_int HR.out.symm, rfl⟩
        · have HR := Lib.hid c2; clear c2
          go_wp2_with (go_at_call 62; refine (at_any _ _ _ (by first | exact ha | exact hb) (by omega) (by first | exact MA.out | exact MB.out)).mono ?_; rintro e w' ⟨rfl, rfl⟩; first | rw [HP.out] | rw [HQ.out])
          go_ret
          exact ⟨ret_int HR.out.symm, rfl⟩
        · have HR := Lib.hid c2; clear c2
          go_wp2_with (go_at_call 62; refine (at_any _ _ _ (by first | exact ha | exact hb) (by omega) (by first | exact MA.out | exact MB.out)).mono ?_; rintro e w' ⟨rfl, rfl⟩; first | rw [HP.out] | rw [HQ.out])
          go_round
          case rel => exact ⟨j, by omega, by first | rfl | go_num, HR⟩
          case measure => first | (simp [intOf]; done) | (simp [intOf]; omega)

theorem val_take (l : List UInt8) (k : Nat) (hk : k < l.length) : valL (l.take (k + 1)) = 10 * valL (l.take k) + ((l.getD k 0).toNat - 48) := by
  rw [List.take_succ_eq_append_getElem hk, valL_snoc, List.getD_eq_getElem?_getD, List.getElem?_eq_getElem hk]; rfl
theorem val_take_le (l : List UInt8) : ∀ k, valL (l.take k) ≤ valL l := by
  intro k
  obtain ⟨m, hm⟩ : ∃ m, m = l.length - k := ⟨_, rfl⟩
  induction m generalizing k with
  | zero => rw [List.take_of_length_le (by omega)]; exact Nat.le_refl _
  | succ m ih =>
    have := ih (k + 1) (by omega)
    have h2 := val_take l k (by omega)
    omega

/-- What Value answers. -/
def valE (l : List UInt8) : Int × Int := if mayL l = true then (if valL l ≤ 18446744073709551615 then (((valL l : Nat) : Int), 0) else (0, 4)) else (0, 1)
theorem valE_ok {l : List UInt8} (h : mayL l = true) (h2 : valL l ≤ 18446744073709551615) : valE l = (((valL l : Nat) : Int), 0) := by unfold valE; rw [if_pos h, if_pos h2]
theorem valE_big {l : List UInt8} (h : mayL l = true) (h2 : ¬ valL l ≤ 18446744073709551615) : valE l = (0, 4) := by unfold valE; rw [if_pos h, if_neg h2]
theorem valE_no {l : List UInt8} (h : mayL l = false) : valE l = (0, 1) := by unfold valE; rw [if_neg (by simp [h])]

end Go.Proofs.Ytdefphacdcbljaa

namespace Go.Proofs.Ytdefphacdcbljaa
open Go.RowKit
set_option maxRecDepth 100000

theorem refparts_l (q : ByteArray) (L : List UInt8) (hq : q.data.toList = L) (w : World) (hs : q.size ≤ 1000000000) :
    Calls Try.prog 43 #[.string q, .int .u8 46] w fun e w' => ∃ a c, e = .returned (.slice a (splitL 46 L).length c) ∧ Strs w' (.slice a (splitL 46 L).length c) (splitL 46 L) ∧ (∀ ad, a = some ad → w.heap.size ≤ ad.block) ∧ Bel w.heap.size w w' := by
  subst hq
  refine (refparts_any q 46 w hs).mono ?_
  rintro e w' ⟨v, rfl, hown, hb⟩
  have hst := Strs.owned hown
  obtain ⟨a, c, rfl, _⟩ := hst.ex
  refine ⟨a, c, rfl, hst, fun ad ha => ?_, hb⟩
  rcases Joins.ownsRow_forms hown with ⟨he, _⟩ | ⟨g, cap, he⟩
  · injection he with he; rw [ha] at he; cases he
  · have hl := (hown.lt g (by rw [he]; rfl)).1
    injection he with he; rw [ha] at he; injection he with he; rw [he]; exact hl

/-! ### The document's words -/
theorem oct_cls (c : UInt8) : isD c = decide (clsI (c.toNat : Int) = 1) ∧ wordOct c = (decide (clsI (c.toNat : Int) = 1) || decide (clsI (c.toNat : Int) = 2) || decide (c.toNat = 45)) := by
  have h : ∀ n : Fin 256, (decide (48 ≤ n.1) && decide (n.1 ≤ 57)) = decide (clsI (n.1 : Nat) = 1) ∧ hasB [1, 2] (clsI (n.1 : Nat)) = (decide (clsI (n.1 : Nat) = 1) || decide (clsI (n.1 : Nat) = 2)) := by decide +kernel
  have := h ⟨c.toNat, UInt8.toNat_lt c⟩
  unfold isD wordOct
  rw [this.1, this.2]
  exact ⟨rfl, rfl⟩
theorem word_digits {l : List UInt8} (h : l.all isD = true) : l.all wordOct = true := by
  rw [List.all_eq_true] at *
  intro c hc
  have := h c hc
  rw [(oct_cls c).1] at this
  rw [(oct_cls c).2, this]; rfl
theorem wordL_nil : wordL [] = false := rfl
/-- How the document reckons a word. -/
theorem wordL_ref (l : List UInt8) (h : l.all wordOct = true) : wordL l = (!l.isEmpty && (!(l.all isD) || mayL l)) := by
  unfold wordL
  cases e : l.all isD
  · have : l.isEmpty = false := by cases l with
      | nil => cases e
      | cons x l => rfl
    simp [this, h]
  · cases l with
    | nil => rfl
    | cons x l => simp
theorem wordL_out (l : List UInt8) (h : l.all wordOct = false) : wordL l = false := by
  unfold wordL
  cases e : l.all isD
  · simpa using h
  · have := word_digits e; rw [h] at this; cases this
theorem all_take_snoc {p : UInt8 → Bool} (s : ByteArray) (k : Nat) (h : k < s.size) : (s.data.toList.take (k + 1)).all p = ((s.data.toList.take k).all p && p s[k]) := by
  rw [List.take_succ_eq_append_getElem (by simpa using h), List.all_append]
  simp only [List.all_cons, List.all_nil, Bool.and_true]; rfl

set_option maxHeartbeats 1600000 in
set_option maxRecDepth 100000 in
theorem refword_any (s : ByteArray) (w : World) (hs : s.size ≤ 1000000000) :
    Calls Try.prog 54 #[.string s] w fun e w' => e = .returned (.bool (wordL s.data.toList)) ∧ w = w' := by
  have HS := Lib.hid hs
  have hm : s.size ≤ 9223372036854775807 := by omega
  clear hs
  go_enter Try.func54, Try.ntmps54
  go_wp2
  go_loop [3, 4] (fun d i => ∃ k : Nat, k ≤ s.size ∧ i = .int .i64 k ∧ d = .bool ((s.data.toList.take k).all isD) ∧ Hid ((s.data.toList.take k).all wordOct = true)) (fun _ i => s.size - (intOf i).toNat)
  case atStart => exact ⟨0, Nat.zero_le _, rfl, by simp, Lib.hid (by simp)⟩
  case round =>
    obtain ⟨k, hk, rfl, rfl, H⟩ := hrel
    obtain ⟨d, hd⟩ : ∃ d, (s.data.toList.take k).all isD = d := ⟨_, rfl⟩
    rw [hd]
    have HD := Lib.hid hd; clear hd
    by_cases hlt : k < s.size
    · have hlt8 : s[k].toNat < 256 := UInt8.toNat_lt _
      have h1 := all_take_snoc (p := isD) s k hlt
      have h2 := all_take_snoc (p := wordOct) s k hlt
      have ho := oct_cls s[k]
      rw [ho.1, HD.out] at h1
      rw [ho.2, H.out, Bool.true_and] at h2
      have H1 := Lib.hid h1; have H2 := Lib.hid h2; clear h1 h2 ho
      obtain ⟨y, hy⟩ : ∃ y, y = clsI (s[k].toNat : Int) := ⟨_, rfl⟩
      rw [← hy] at H1 H2
      have HY := Lib.hid hy; clear hy
      have hlt9 := Lib.hid hlt8; clear hlt8
      by_cases y1 : y = 1
      · subst y1
        go_wp2_with (go_at_call 52; refine (refclass_any _ (by omega) (by have := hlt9.out; omega) _).mono ?_; rintro e w' ⟨rfl, rfl⟩; rw [← HY.out])
        go_round
        case rel => exact ⟨k + 1, by omega, by go_num, by rw [H1.out]; simp, Lib.hid (by rw [H2.out]; simp)⟩
        case measure => simp [intOf]; omega
      · have ny1 : (y != 1) = true := by simpa using y1
        by_cases y2 : y = 2
        · subst y2
          clear y1 ny1
          go_wp2_with (go_at_call 52; refine (refclass_any _ (by omega) (by have := hlt9.out; omega) _).mono ?_; rintro e w' ⟨rfl, rfl⟩; rw [← HY.out])
          go_round
          case rel => exact ⟨k + 1, by omega, by go_num, by rw [H1.out]; simp, Lib.hid (by rw [H2.out]; simp)⟩
          case measure => simp [intOf]; omega
        · have ny2 : (y != 2) = true := by simpa using y2
          by_cases y3 : (s[k].toNat : Int) = 45
          · have ny3 : ((s[k].toNat : Int) != 45) = false := by simpa using y3
            have Y1 := Lib.hid y1; have Y3 := Lib.hid y3
            clear y1 y2 y3
            go_wp2_with (go_at_call 52; refine (refclass_any _ (by omega) (by have := hlt9.out; omega) _).mono ?_; rintro e w' ⟨rfl, rfl⟩; rw [← HY.out])
            go_round
            case rel => exact ⟨k + 1, by omega, by go_num, by rw [H1.out]; simp [Y1.out], Lib.hid (by rw [H2.out]; have := Y3.out; simp; omega)⟩
            case measure => simp [intOf]; omega
          · have ny3 : ((s[k].toNat : Int) != 45) = true := by simpa using y3
            have Y1 := Lib.hid y1; have Y2 := Lib.hid y2; have Y3 := Lib.hid y3
            clear y1 y2 y3
            go_wp2_with (go_at_call 52; refine (refclass_any _ (by omega) (by have := hlt9.out; omega) _).mono ?_; rintro e w' ⟨rfl, rfl⟩; rw [← HY.out])
            go_ret
            refine ⟨ret_bool ?_, rfl⟩
            have hf : (s.data.toList.take (k + 1)).all wordOct = false := by rw [H2.out]; have := Y3.out; simp [Y1.out, Y2.out]; omega
            rw [wordL_out]
            rw [← List.take_append_drop (k + 1) s.data.toList, List.all_append, hf]; rfl
    · have e : s.data.toList.take k = s.data.toList := List.take_of_length_le (by rw [← Lib.size_eq]; omega)
      have h5 := H.out
      rw [e] at h5
      have hd2 := HD.out
      rw [e] at hd2
      have hw := wordL_ref s.data.toList h5
      rw [hd2] at hw
      have he : s.data.toList.isEmpty = decide (s.size = 0) := by rw [← Lib.toList_data]; exact empty_iff s
      rw [he] at hw
      have HW := Lib.hid hw; clear hw h5 e hd2 he H HD
      obtain ⟨m, hmm⟩ : ∃ m, mayL s.data.toList = m := ⟨_, rfl⟩
      rw [hmm] at HW
      have HM := Lib.hid hmm; clear hmm
      by_cases h0 : 0 < s.size
      · have hz : decide (s.size = 0) = false := by rw [decide_eq_false_iff_not]; omega
        cases d
        all_goals
          go_wp2_with (go_at_call 53; refine (refmay_any s _ HS.out).mono ?_; rintro e w1 ⟨rfl, rfl⟩; rw [HM.out])
          go_ret
          exact ⟨ret_bool (by rw [HW.out, hz]; simp), rfl⟩
      · have hz : decide (s.size = 0) = true := by rw [decide_eq_true_eq]; omega
        go_wp2
        go_ret
        exact ⟨ret_bool (by rw [HW.out, hz]; simp), rfl⟩
end Go.Proofs.Ytdefphacdcbljaa

namespace Go.Proofs.Ytdefphacdcbljaa
open Go.RowKit
set_option maxRecDepth 100000

theorem two_rows (w : World) : ((w.alloc (.cells zeroV4 73)).alloc (.cells zeroV4 73)).heap[w.heap.size]? = some (.cells zeroV4 73) ∧
    ((w.alloc (.cells zeroV4 73)).alloc (.cells zeroV4 73)).heap[w.heap.size + 1]? = some (.cells zeroV4 73) ∧ Bel w.heap.size w ((w.alloc (.cells zeroV4 73)).alloc (.cells zeroV4 73)) := by
  refine ⟨?_, ?_, ((Bel.refl _ _).alloc (Nat.le_refl _) _).alloc (by simp) _⟩
  · rw [Below.heap_alloc _ _ _ (by simp)]; exact heap_alloc_new _ _
  · have := heap_alloc_new (w.alloc (.cells zeroV4 73)) (.cells zeroV4 73)
    simpa using this
theorem row4_set012 {w : World} {g : Nat} {x0 x1 x2 x3 : Value} {t : TypeId} (h : w.heap[g]? = some (.cells #[x0, x1, x2, x3] t (0, 0))) (y0 y1 y2 : Value) :
    (((w.setCell ⟨g, 0, none⟩ y0).setCell ⟨g, 1, none⟩ y1).setCell ⟨g, 2, none⟩ y2).heap[g]? = some (.cells #[y0, y1, y2, x3] t (0, 0)) := by
  simp [World.setCell, Array.getElem?_modify, h]
theorem ix_step (l : List UInt8) (m : Nat) (h : m < l.length) : ixL (l.drop m) = if (l[m].toNat : Int) = 45 then 0 else ixL (l.drop (m + 1)) + 1 := by
  rw [List.drop_eq_getElem_cons h, ixL]
theorem first_oct (s : ByteArray) (h : 0 < s.size) : s.data.toList = s[0] :: s.data.toList.drop 1 := bytes_cons s h

set_option maxHeartbeats 3200000 in
set_option maxRecDepth 100000 in
theorem refsplit_any (s : ByteArray) (w : World) (hs : s.size ≤ 1000000000) :
    Calls Try.prog 45 #[.string s] w (SplitOut s.data.toList (.bool (okV s.data.toList)) w) := by
  have hm9 : s.size ≤ 9223372036854775807 := by omega
  obtain ⟨wA, hwA⟩ : ∃ wA, wA = (w.alloc (.cells zeroV4 73)).alloc (.cells zeroV4 73) := ⟨_, rfl⟩
  obtain ⟨zA, vA, bA⟩ := two_rows w
  rw [← hwA] at zA vA bA
  have ZA := Lib.hid zA; have VA := Lib.hid vA; have BA := Lib.hid bA; clear zA vA bA
  by_cases h0 : 0 < s.size
  · have hz : (s.size : Int) ≠ 0 := by omega
    obtain ⟨r, hr⟩ : ∃ r, r = s.data.toList.drop 1 := ⟨_, rfl⟩
    have hl := first_oct s h0
    rw [← hr] at hl
    have hsz : s.size = r.length + 1 := by rw [Lib.size_eq, hl, List.length_cons]
    by_cases h1 : (s[0].toNat : Int) = 118
    · have h118 : ((s[0].toNat : Int) != 118) = false := by simpa using h1
      have hzb : ((s.size : Int) == 0) = false := by simpa using hz
      have e118 : s[0] = 118 := by rw [← UInt8.toNat_inj]; have : (118 : UInt8).toNat = 118 := rfl
                                   omega
      rw [e118] at hl
      obtain ⟨I, hI⟩ : ∃ I, ixL r = I := ⟨_, rfl⟩
      have hIle : I ≤ r.length := by rw [← hI]; exact ixL_le r
      have hixl : ixL s.data.toList = I + 1 := by rw [hl, ixL, if_neg (by decide), hI]
      have HL := Lib.hid hl; have HSZ := Lib.hid hsz; have HI := Lib.hid hI; have HIX := Lib.hid hixl; have HILE := Lib.hid hIle; have HS := Lib.hid hs
      clear hl hsz hI hixl hIle hs e118 h1 hr hz
      go_enter Try.func45, Try.ntmps45
      go_wp2
      go_loop [5, 6] (fun c i => ∃ k cc : Nat, k ≤ s.size ∧ c = .int .i64 cc ∧ Hid (cc = k + ixL (s.data.toList.drop k)) ∧ ((k = 0 ∧ i = .int .i64 (-1)) ∨ ∃ m : Nat, k = m + 1 ∧ i = .int .i64 m)) (fun _ i => (intOf i + 1).toNat)
      case atStart => exact ⟨s.size, s.size, Nat.le_refl _, rfl, Lib.hid (by rw [drop_end s _ (Nat.le_refl _)]; rfl), .inr ⟨s.size - 1, by omega, by congr 1; omega⟩⟩
      case round =>
        obtain ⟨k, cc, hk, rfl, HC, hcase⟩ := hrel
        rcases hcase with ⟨rfl, rfl⟩ | ⟨m, rfl, rfl⟩
        · have hcc : cc = I + 1 := by have := HC.out; rw [List.drop_zero, HIX.out] at this; omega
          subst hcc
          clear HC
          obtain ⟨ls, hls⟩ : ∃ ls, splitL 46 (r.take I) = ls := ⟨_, rfl⟩
          have hq : (s.extract 1 (I + 1)).data.toList = r.take I := by rw [strV_mk, mkB_list, HL.out]; simp
          have hqs : (s.extract 1 (I + 1)).size ≤ 1000000000 := by rw [strV_mk, mkB_size]; have := HS.out; have h2 := Lib.size_eq s; simp; omega
          have HQ := Lib.hid hq; have HQS := Lib.hid hqs; clear hq hqs
          have hsp : splitV s.data.toList = if ls.length = 3 ∧ fitL (cutV r) = true then some (cutV r) else none := by
            rw [HL.out, splitV, HI.out, hls]; simp
          have i1 : (0 : Int) ≤ (I : Int) := by omega
          have i2 : (1 : Int) ≤ (I : Int) + 1 := by omega
          have i3 : (I : Int) + 1 ≤ (s.size : Int) := by have := HILE.out; have := HSZ.out; omega
          have i4 : ((I : Int) + 1).toNat = I + 1 := by omega
          by_cases h3 : ls.length = 3
          · match ls, h3 with
            | [x, y, z], _ =>
            have hcv : cutV r = (x, y, z, if I < r.length then splitL 46 (r.drop (I + 1)) else []) := by unfold cutV; rw [HI.out, hls]; rfl
            have hp : ∀ q ∈ [x, y, z], q.length ≤ 1000000000 := fun q hq => by
              rw [← hls] at hq
              have h2 := split_le 46 _ q hq
              have h4 := List.length_take_le' I r
              have := HSZ.out; have := HS.out
              omega
            have SX : Hid ((mkB x).size ≤ 1000000000) := Lib.hid (by rw [mkB_size]; exact hp x (by simp))
            have SY : Hid ((mkB y).size ≤ 1000000000) := Lib.hid (by rw [mkB_size]; exact hp y (by simp))
            have SZ : Hid ((mkB z).size ≤ 1000000000) := Lib.hid (by rw [mkB_size]; exact hp z (by simp))
            clear hp
            obtain ⟨mx, hmx⟩ : ∃ m, mayL x = m := ⟨_, rfl⟩
            obtain ⟨my, hmy⟩ : ∃ m, mayL y = m := ⟨_, rfl⟩
            obtain ⟨mz, hmz⟩ : ∃ m, mayL z = m := ⟨_, rfl⟩
            have MX := Lib.hid hmx; have MY := Lib.hid hmy; have MZ := Lib.hid hmz; clear hmx hmy hmz
            have HLS := Lib.hid hls; have HCV := Lib.hid hcv; clear hls hcv
            by_cases hall : mx = true ∧ my = true ∧ mz = true
            · obtain ⟨rfl, rfl, rfl⟩ := hall
              have hfit : fitL (cutV r) = (cutV r).2.2.2.all wordL := by unfold fitL; rw [HCV.out]; simp [MX.out, MY.out, MZ.out]
              obtain ⟨f, hf⟩ : ∃ f, (cutV r).2.2.2.all wordL = f := ⟨_, rfl⟩
              rw [hf] at hfit
              have ho : okV s.data.toList = f := by unfold okV; rw [hsp, hfit]; cases f <;> rfl
              have HVO : Hid (verOf s.data.toList = if f = true then cutV r else ([], [], [], [])) := Lib.hid (by unfold verOf; rw [hsp, hfit]; cases f <;> rfl)
              have HO := Lib.hid ho; have HF := Lib.hid hf; clear ho hf hfit hsp
              go_wp2_with (first
                | (go_at_call 43; refine (refparts_l _ _ HQ.out _ HQS.out).mono ?_; rintro e w1 ⟨a, c, rfl, hst, _, hb1⟩; have Z1 := Lib.hid (row_keep (two_rows w).1 hb1); have V1 := Lib.hid (row_keep (two_rows w).2.1 hb1); have B1 := Lib.hid (bel_step (two_rows w).2.2 hb1); clear hb1; rw [HLS.out] at hst ⊢; obtain ⟨b, off, rfl, hbl, k0⟩ := strs_at hst 0 (by simp); obtain ⟨b', off', hab, _, k1⟩ := strs_at hst 1 (by simp); obtain ⟨b'', off'', hab2, _, k2⟩ := strs_at hst 2 (by simp); injection hab with hab; injection hab with hab hof; subst hab hof; injection hab2 with hab2; injection hab2 with hab2 hof; subst hab2 hof; clear hst; replace k0 : w1.cell? ⟨b, off, none⟩ = some (.string (mkB x)) := k0; replace k1 : w1.cell? ⟨b, off + 1, none⟩ = some (.string (mkB y)) := k1; replace k2 : w1.cell? ⟨b, off + 2, none⟩ = some (.string (mkB z)) := k2; obtain ⟨c0, c1, c2, c3, f0, f1, f2, f3⟩ := row4 Z1.out; obtain ⟨d0, d1, d2, d3, e0, e1, e2, e3⟩ := row4 V1.out; have n0 := World.new_ne w1 _ k0)
                | (go_at_call 53; refine (refmay_any _ _ (by first | exact SX.out | exact SY.out | exact SZ.out)).mono ?_; rintro e w' ⟨rfl, rfl⟩; rw [mkB_list]; first | rw [MX.out] | rw [MY.out] | rw [MZ.out]))
              go_region
              obtain ⟨wB, hwB⟩ : ∃ wB, wB = (((w1.setCell ⟨w.heap.size + 1, 0, none⟩ (.string (mkB x))).setCell ⟨w.heap.size + 1, 1, none⟩ (.string (mkB y))).setCell ⟨w.heap.size + 1, 2, none⟩ (.string (mkB z))).drew := ⟨_, rfl⟩
              rw [← hwB]
              have rB : wB.heap[w.heap.size + 1]? = some (.cells #[.string (mkB x), .string (mkB y), .string (mkB z), .slice none 0 0] 73) := by rw [hwB]; exact row4_set012 V1.out _ _ _
              have zB : wB.heap[w.heap.size]? = some (.cells zeroV4 73) := by rw [hwB]; exact row_far (row_far (row_far Z1.out (by omega) _) (by omega) _) (by omega) _
              have bB : Bel w.heap.size w wB := by rw [hwB]; exact bel_step (((B1.out.setCell (Nat.le_succ _) _).setCell (Nat.le_succ _) _).setCell (Nat.le_succ _) _) (bel_q ⟨1, rfl⟩)
              have hle : w.heap.size + 1 < wB.heap.size := (Array.getElem?_eq_some_iff.1 rB).1
              have RB := Lib.hid rB; have ZB := Lib.hid zB; have BB := Lib.hid bB; have HLE := Lib.hid hle
              clear rB zB bB hle hwB k0 k1 k2 n0 c0 c1 c2 c3 f0 f1 f2 f3 d0 d1 d2 d3 e0 e1 e2 e3 hbl
              by_cases hm : I < r.length
              · have hcut : (((I : Int) + 1) == (s.size : Int)) = false := by rw [beq_eq_false_iff_ne]; have := HSZ.out; omega
                obtain ⟨pre, hpre⟩ : ∃ pre, splitL 46 (r.drop (I + 1)) = pre := ⟨_, rfl⟩
                have HPR := Lib.hid hpre
                have HCW : Hid (cutV r = (x, y, z, pre)) := Lib.hid (by rw [HCV.out, if_pos hm, hpre])
                have hq2 : (s.extract (I + 1 + 1) s.size).data.toList = r.drop (I + 1) := by
                  rw [strV_mk, mkB_list, HL.out, List.drop_succ_cons, List.take_of_length_le]
                  have := HSZ.out; rw [List.length_drop]; omega
                have hqs2 : (s.extract (I + 1 + 1) s.size).size ≤ 1000000000 := by rw [Lib.size_eq, hq2, List.length_drop]; have := HSZ.out; have := HS.out; omega
                have hsp2 : ∀ q ∈ pre, q.length ≤ 1000000000 := fun q hq => by
                  rw [← hpre] at hq
                  have h2 := split_le 46 _ q hq
                  rw [List.length_drop] at h2; have := HSZ.out; have := HS.out; omega
                have hn2 : pre.length ≤ 1000000000 := by
                  rw [← hpre]; have h2 := splitL_len 46 (r.drop (I + 1)); rw [List.length_drop] at h2; have := HSZ.out; have := HS.out; omega
                have HQ2 := Lib.hid hq2; have HQS2 := Lib.hid hqs2; have HSP2 := Lib.hid hsp2; have HN2 := Lib.hid hn2
                have i5 : (0 : Int) ≤ (I : Int) + 1 + 1 := by omega
                have i6 : (I : Int) + 1 + 1 ≤ (s.size : Int) := by have := HSZ.out; omega
                have i7 : ((I : Int) + 1 + 1).toNat = I + 1 + 1 := by omega
                clear hq2 hqs2 hsp2 hm hpre
                go_wp2_with (first
                  | (go_at_call 43; refine (refparts_l _ _ HQ2.out _ HQS2.out).mono ?_; rintro e w2 ⟨a2, c2, rfl, hst2, hfr2, hb2⟩; rw [HPR.out] at hst2 ⊢; have R2 := Lib.hid (row_keep RB.out hb2); have Z2 := Lib.hid (row_keep ZB.out hb2); have B2 := Lib.hid (bel_step BB.out hb2); have FR := Lib.hid hfr2; have ST2 := Lib.hid hst2; clear hst2 hfr2 hb2; obtain ⟨c0, c1, c2', c3, f0, f1, f2, f3⟩ := row4 R2.out))
                obtain ⟨wC, hwC⟩ : ∃ wC, wC = w2.setCell ⟨w.heap.size + 1, 3, none⟩ (.slice a2 pre.length c2) := ⟨_, rfl⟩
                rw [← hwC]
                have rC : wC.heap[w.heap.size + 1]? = some (.cells #[.string (mkB x), .string (mkB y), .string (mkB z), (.slice a2 pre.length c2)] 73) := by rw [hwC]; exact row4_set3 R2.out _
                have zC : wC.heap[w.heap.size]? = some (.cells zeroV4 73) := by rw [hwC]; exact row_far Z2.out (by omega) _
                have bC : Bel w.heap.size w wC := by rw [hwC]; exact B2.out.setCell (Nat.le_succ _) _
                have sC : Strs wC (.slice a2 pre.length c2) pre := by rw [hwC]; exact ST2.out.far (fun ad ha => by have := FR.out ad ha; have := HLE.out; omega)
                clear hwC c0 c1 c2' c3 f0 f1 f2 f3
                have RC := Lib.hid rC; have ZC := Lib.hid zC; have BC := Lib.hid bC; have SC := Lib.hid sC
                obtain ⟨c0, c1, c2', c3, f0, f1, f2, f3⟩ := row4 zC
                obtain ⟨d0, d1, d2, d3, e0, e1, e2, e3⟩ := row4 rC
                clear rC zC bC sC
                go_loop [8] (fun i => ∃ k : Nat, k ≤ pre.length ∧ i = .int .i64 k ∧ Hid ((pre.take k).all wordL = true)) (fun i => pre.length - (intOf i).toNat)
                case atStart => exact ⟨0, Nat.zero_le _, rfl, Lib.hid (by simp)⟩
                case round =>
                  obtain ⟨k, hk, rfl, HT⟩ := hrel
                  by_cases hlt : k < pre.length
                  · obtain ⟨b2, off2, ha, hbl, hcell⟩ := strs_at SC.out k hlt
                    subst ha
                    have HSQ : Hid ((mkB (pre.getD k [])).size ≤ 1000000000) := Lib.hid (by rw [mkB_size]; exact HSP2.out _ (mem_getD hlt))
                    have HLT := Lib.hid hlt
                    obtain ⟨q, hq⟩ : ∃ q, q = pre.getD k [] := ⟨_, rfl⟩
                    rw [← hq] at hcell HSQ
                    obtain ⟨m, hm⟩ : ∃ m, wordL q = m := ⟨_, rfl⟩
                    have HM := Lib.hid hm; have HQ := Lib.hid hq; clear hm hq hbl
                    cases m
                    · have hft : f = false := by
                        rw [← HF.out, HCW.out, List.all_eq_false]
                        exact ⟨q, by rw [HQ.out]; exact mem_getD HLT.out, by rw [HM.out]; simp⟩
                      subst hft
                      go_wp2_with (go_at_call 54; refine (refword_any _ _ HSQ.out).mono ?_; rintro e w' ⟨rfl, rfl⟩; rw [mkB_list, HM.out])
                      try simp only [Exit.inBlock, Exit.then]
                      exact bodyPost_ret (v := .tuple #[.agg zeroV4, .bool false]) (results_cell_tmp (fn := Try.f45) (p := 2) (q := 3) (ty := 73) rfl _ _ w.heap.size 73 zeroV4 (0, 0) _ rfl (row4_set ZC.out _ _ _ _) Try.underlying73 rfl Try.size_ver) rfl ⟨_, by rw [HO.out], by rw [(by simpa using HVO.out : verOf s.data.toList = ([], [], [], []))]; exact verin_zero _, fresh_zero _, (((BC.out.setCell (Nat.le_refl _) _).setCell (Nat.le_refl _) _).setCell (Nat.le_refl _) _).setCell (Nat.le_refl _) _⟩
                    · go_wp2_with (go_at_call 54; refine (refword_any _ _ HSQ.out).mono ?_; rintro e w' ⟨rfl, rfl⟩; rw [mkB_list, HM.out])
                      go_round
                      case rel => exact ⟨k + 1, by omega, by go_num, Lib.hid (all_take_succ HLT.out HT.out (by rw [← HQ.out]; exact HM.out))⟩
                      case measure => simp [intOf]; omega
                  · have hall : pre.all wordL = true := by have h5 := HT.out; rw [List.take_of_length_le (by omega)] at h5; exact h5
                    have hft : f = true := by rw [← HF.out, HCW.out]; exact hall
                    subst hft
                    clear hall
                    go_wp2
                    try simp only [Exit.inBlock, Exit.then]
                    exact bodyPost_ret (v := .tuple #[.agg #[.string (mkB x), .string (mkB y), .string (mkB z), (.slice a2 pre.length c2)], .bool true]) (results_cell_tmp (fn := Try.f45) (p := 2) (q := 3) (ty := 73) rfl _ _ w.heap.size 73 #[.string (mkB x), .string (mkB y), .string (mkB z), (.slice a2 pre.length c2)] (0, 0) _ rfl (row4_set ZC.out _ _ _ _) Try.underlying73 rfl Try.size_ver) rfl ⟨_, by rw [HO.out], by rw [(by simpa using HVO.out : verOf s.data.toList = cutV r), HCW.out]; exact ⟨⟨_, _, rfl, ((((SC.out.far (fun ad ha => by have := FR.out ad ha; have := HLE.out; omega)).far (fun ad ha => by have := FR.out ad ha; have := HLE.out; omega)).far (fun ad ha => by have := FR.out ad ha; have := HLE.out; omega)).far (fun ad ha => by have := FR.out ad ha; have := HLE.out; omega))⟩⟩, (fresh_slice _ _ _ fun ad ha => by have := FR.out ad ha; have := HLE.out; omega), (((BC.out.setCell (Nat.le_refl _) _).setCell (Nat.le_refl _) _).setCell (Nat.le_refl _) _).setCell (Nat.le_refl _) _⟩
              · have hcut : (((I : Int) + 1) == (s.size : Int)) = true := by rw [beq_iff_eq]; have := HSZ.out; have := HILE.out; omega
                have HCW : Hid (cutV r = (x, y, z, [])) := Lib.hid (by rw [HCV.out, if_neg hm])
                have hft : f = true := by rw [← HF.out, HCW.out]; rfl
                subst hft
                clear hm
                obtain ⟨c0, c1, c2, c3, f0, f1, f2, f3⟩ := row4 ZB.out
                obtain ⟨d0, d1, d2, d3, e0, e1, e2, e3⟩ := row4 RB.out
                go_wp2
                try simp only [Exit.inBlock, Exit.then]
                exact bodyPost_ret (v := .tuple #[.agg #[.string (mkB x), .string (mkB y), .string (mkB z), .slice none 0 0], .bool true]) (results_cell_tmp (fn := Try.f45) (p := 2) (q := 3) (ty := 73) rfl _ _ w.heap.size 73 #[.string (mkB x), .string (mkB y), .string (mkB z), .slice none 0 0] (0, 0) _ rfl (row4_set ZB.out _ _ _ _) Try.underlying73 rfl Try.size_ver) rfl ⟨_, by rw [HO.out], by rw [(by simpa using HVO.out : verOf s.data.toList = cutV r), HCW.out]; exact ⟨⟨_, _, rfl, strs_none _⟩⟩, fresh_none _ _ _ _, (((BB.out.setCell (Nat.le_refl _) _).setCell (Nat.le_refl _) _).setCell (Nat.le_refl _) _).setCell (Nat.le_refl _) _⟩
            · have hf : fitL (cutV r) = false := by
                cases e : fitL (cutV r)
                · rfl
                · have := fit_parts e; rw [HCV.out] at this; simp only [MX.out, MY.out, MZ.out] at this; exact absurd ⟨this.1, this.2.1, this.2.2.1⟩ hall
              have ho : okV s.data.toList = false := by unfold okV; rw [hsp, if_neg (by rw [hf]; simp)]; rfl
              have HVO := Lib.hid (verOf_no ho); have HO := Lib.hid ho
              clear hsp hf ho
              cases mx
              · go_wp2_with (first
                  | (go_at_call 43; refine (refparts_l _ _ HQ.out _ HQS.out).mono ?_; rintro e w1 ⟨a, c, rfl, hst, _, hb1⟩; have Z1 := Lib.hid (row_keep (two_rows w).1 hb1); have V1 := Lib.hid (row_keep (two_rows w).2.1 hb1); have B1 := Lib.hid (bel_step (two_rows w).2.2 hb1); clear hb1; rw [HLS.out] at hst ⊢; obtain ⟨b, off, rfl, hbl, k0⟩ := strs_at hst 0 (by simp); obtain ⟨b', off', hab, _, k1⟩ := strs_at hst 1 (by simp); obtain ⟨b'', off'', hab2, _, k2⟩ := strs_at hst 2 (by simp); injection hab with hab; injection hab with hab hof; subst hab hof; injection hab2 with hab2; injection hab2 with hab2 hof; subst hab2 hof; clear hst; replace k0 : w1.cell? ⟨b, off, none⟩ = some (.string (mkB x)) := k0; replace k1 : w1.cell? ⟨b, off + 1, none⟩ = some (.string (mkB y)) := k1; replace k2 : w1.cell? ⟨b, off + 2, none⟩ = some (.string (mkB z)) := k2; obtain ⟨c0, c1, c2, c3, f0, f1, f2, f3⟩ := row4 Z1.out; obtain ⟨d0, d1, d2, d3, e0, e1, e2, e3⟩ := row4 V1.out)
                  | (go_at_call 53; refine (refmay_any _ _ (by first | exact SX.out | exact SY.out | exact SZ.out)).mono ?_; rintro e w' ⟨rfl, rfl⟩; rw [mkB_list]; first | rw [MX.out] | rw [MY.out] | rw [MZ.out]))
                try simp only [Exit.inBlock, Exit.then]
                exact bodyPost_ret (v := .tuple #[.agg zeroV4, .bool false]) (results_cell_tmp (fn := Try.f45) (p := 2) (q := 3) (ty := 73) rfl _ _ w.heap.size 73 zeroV4 (0, 0) _ rfl (row4_set Z1.out _ _ _ _) Try.underlying73 rfl Try.size_ver) rfl ⟨_, by rw [HO.out], by rw [HVO.out]; exact verin_zero _, fresh_zero _, (((B1.out.setCell (Nat.le_refl _) _).setCell (Nat.le_refl _) _).setCell (Nat.le_refl _) _).setCell (Nat.le_refl _) _⟩
              · cases my
                · go_wp2_with (first
                    | (go_at_call 43; refine (refparts_l _ _ HQ.out _ HQS.out).mono ?_; rintro e w1 ⟨a, c, rfl, hst, _, hb1⟩; have Z1 := Lib.hid (row_keep (two_rows w).1 hb1); have V1 := Lib.hid (row_keep (two_rows w).2.1 hb1); have B1 := Lib.hid (bel_step (two_rows w).2.2 hb1); clear hb1; rw [HLS.out] at hst ⊢; obtain ⟨b, off, rfl, hbl, k0⟩ := strs_at hst 0 (by simp); obtain ⟨b', off', hab, _, k1⟩ := strs_at hst 1 (by simp); obtain ⟨b'', off'', hab2, _, k2⟩ := strs_at hst 2 (by simp); injection hab with hab; injection hab with hab hof; subst hab hof; injection hab2 with hab2; injection hab2 with hab2 hof; subst hab2 hof; clear hst; replace k0 : w1.cell? ⟨b, off, none⟩ = some (.string (mkB x)) := k0; replace k1 : w1.cell? ⟨b, off + 1, none⟩ = some (.string (mkB y)) := k1; replace k2 : w1.cell? ⟨b, off + 2, none⟩ = some (.string (mkB z)) := k2; obtain ⟨c0, c1, c2, c3, f0, f1, f2, f3⟩ := row4 Z1.out; obtain ⟨d0, d1, d2, d3, e0, e1, e2, e3⟩ := row4 V1.out)
                    | (go_at_call 53; refine (refmay_any _ _ (by first | exact SX.out | exact SY.out | exact SZ.out)).mono ?_; rintro e w' ⟨rfl, rfl⟩; rw [mkB_list]; first | rw [MX.out] | rw [MY.out] | rw [MZ.out]))
                  try simp only [Exit.inBlock, Exit.then]
                  exact bodyPost_ret (v := .tuple #[.agg zeroV4, .bool false]) (results_cell_tmp (fn := Try.f45) (p := 2) (q := 3) (ty := 73) rfl _ _ w.heap.size 73 zeroV4 (0, 0) _ rfl (row4_set Z1.out _ _ _ _) Try.underlying73 rfl Try.size_ver) rfl ⟨_, by rw [HO.out], by rw [HVO.out]; exact verin_zero _, fresh_zero _, (((B1.out.setCell (Nat.le_refl _) _).setCell (Nat.le_refl _) _).setCell (Nat.le_refl _) _).setCell (Nat.le_refl _) _⟩
                · cases mz
                  · go_wp2_with (first
                      | (go_at_call 43; refine (refparts_l _ _ HQ.out _ HQS.out).mono ?_; rintro e w1 ⟨a, c, rfl, hst, _, hb1⟩; have Z1 := Lib.hid (row_keep (two_rows w).1 hb1); have V1 := Lib.hid (row_keep (two_rows w).2.1 hb1); have B1 := Lib.hid (bel_step (two_rows w).2.2 hb1); clear hb1; rw [HLS.out] at hst ⊢; obtain ⟨b, off, rfl, hbl, k0⟩ := strs_at hst 0 (by simp); obtain ⟨b', off', hab, _, k1⟩ := strs_at hst 1 (by simp); obtain ⟨b'', off'', hab2, _, k2⟩ := strs_at hst 2 (by simp); injection hab with hab; injection hab with hab hof; subst hab hof; injection hab2 with hab2; injection hab2 with hab2 hof; subst hab2 hof; clear hst; replace k0 : w1.cell? ⟨b, off, none⟩ = some (.string (mkB x)) := k0; replace k1 : w1.cell? ⟨b, off + 1, none⟩ = some (.string (mkB y)) := k1; replace k2 : w1.cell? ⟨b, off + 2, none⟩ = some (.string (mkB z)) := k2; obtain ⟨c0, c1, c2, c3, f0, f1, f2, f3⟩ := row4 Z1.out; obtain ⟨d0, d1, d2, d3, e0, e1, e2, e3⟩ := row4 V1.out)
                      | (go_at_call 53; refine (refmay_any _ _ (by first | exact SX.out | exact SY.out | exact SZ.out)).mono ?_; rintro e w' ⟨rfl, rfl⟩; rw [mkB_list]; first | rw [MX.out] | rw [MY.out] | rw [MZ.out]))
                    try simp only [Exit.inBlock, Exit.then]
                    exact bodyPost_ret (v := .tuple #[.agg zeroV4, .bool false]) (results_cell_tmp (fn := Try.f45) (p := 2) (q := 3) (ty := 73) rfl _ _ w.heap.size 73 zeroV4 (0, 0) _ rfl (row4_set Z1.out _ _ _ _) Try.underlying73 rfl Try.size_ver) rfl ⟨_, by rw [HO.out], by rw [HVO.out]; exact verin_zero _, fresh_zero _, (((B1.out.setCell (Nat.le_refl _) _).setCell (Nat.le_refl _) _).setCell (Nat.le_refl _) _).setCell (Nat.le_refl _) _⟩
                  · exact absurd ⟨rfl, rfl, rfl⟩ hall
          · have hne : ((ls.length : Int) != 3) = true := by simp; omega
            have ho : okV s.data.toList = false := by unfold okV; rw [hsp, if_neg (fun h => h3 h.1)]; rfl
            have HVO := Lib.hid (verOf_no ho); have HLS := Lib.hid hls; have HO := Lib.hid ho
            clear hsp h3 hls ho
            go_wp2_with (first
              | (go_at_call 43; refine (refparts_l _ _ HQ.out _ HQS.out).mono ?_; rintro e w1 ⟨a, c, rfl, hst, _, hb1⟩; have Z1 := Lib.hid (row_keep (two_rows w).1 hb1); have V1 := Lib.hid (row_keep (two_rows w).2.1 hb1); have B1 := Lib.hid (bel_step (two_rows w).2.2 hb1); clear hb1; rw [HLS.out] at hst ⊢; clear hst; obtain ⟨c0, c1, c2, c3, f0, f1, f2, f3⟩ := row4 Z1.out; obtain ⟨d0, d1, d2, d3, e0, e1, e2, e3⟩ := row4 V1.out))
            try simp only [Exit.inBlock, Exit.then]
            exact bodyPost_ret (v := .tuple #[.agg zeroV4, .bool false]) (results_cell_tmp (fn := Try.f45) (p := 2) (q := 3) (ty := 73) rfl _ _ w.heap.size 73 zeroV4 (0, 0) _ rfl (row4_set Z1.out _ _ _ _) Try.underlying73 rfl Try.size_ver) rfl ⟨_, by rw [HO.out], by rw [HVO.out]; exact verin_zero _, fresh_zero _, (((B1.out.setCell (Nat.le_refl _) _).setCell (Nat.le_refl _) _).setCell (Nat.le_refl _) _).setCell (Nat.le_refl _) _⟩
        · have hml : m < s.size := by omega
          have hst := ix_step s.data.toList m (by rw [← Lib.size_eq]; exact hml)
          have hix : (s.data.toList[m]'(by rw [← Lib.size_eq]; exact hml)).toNat = s[m].toNat := rfl
          rw [hix] at hst
          have HST := Lib.hid hst; clear hst hix
          by_cases h45 : (s[m].toNat : Int) = 45
          · have hb : ((s[m].toNat : Int) == 45) = true := by simpa using h45
            have H45 := Lib.hid h45; clear h45
            go_wp2
            go_round
            case rel => exact ⟨m, m, by omega, rfl, Lib.hid (by rw [HST.out, if_pos H45.out]; rfl), by rcases Nat.eq_zero_or_pos m with e | e; exact .inl ⟨e, by subst e; rfl⟩; exact .inr ⟨m - 1, by omega, by congr 1; omega⟩⟩
            case measure => simp [intOf]
          · have hb : ((s[m].toNat : Int) == 45) = false := by simpa using h45
            have H45 := Lib.hid h45; clear h45
            go_wp2
            go_round
            case rel => exact ⟨m, cc, by omega, rfl, Lib.hid (by rw [HST.out, if_neg H45.out]; have := HC.out; omega), by rcases Nat.eq_zero_or_pos m with e | e; exact .inl ⟨e, by subst e; rfl⟩; exact .inr ⟨m - 1, by omega, by congr 1; omega⟩⟩
            case measure => simp [intOf]
    · have h118 : ((s[0].toNat : Int) != 118) = true := by simpa using h1
      have hok : splitV s.data.toList = none := by rw [hl, splitV, if_neg (fun h => h1 h.1)]
      have ho : okV s.data.toList = false := by unfold okV; rw [hok]; rfl
      rw [ho]
      have HVO := Lib.hid (verOf_no ho)
      clear hok ho hl hr h1 hsz
      have hzb : ((s.size : Int) == 0) = false := by simpa using hz
      go_enter Try.func45, Try.ntmps45
      go_wp2
      try simp only [Exit.inBlock, Exit.then]
      exact bodyPost_ret (v := .tuple #[.agg zeroV4, .bool false]) (results_cell_tmp (fn := Try.f45) (p := 2) (q := 3) (ty := 73) rfl _ _ w.heap.size 73 zeroV4 (0, 0) _ rfl (two_rows w).1 Try.underlying73 rfl Try.size_ver) rfl ⟨_, rfl, by rw [HVO.out]; exact verin_zero _, fresh_zero _, (two_rows w).2.2⟩
  · have hz : s.size = 0 := by omega
    have ho : okV s.data.toList = false := by
      have : s.data.toList = [] := List.eq_nil_of_length_eq_zero (by rw [← Lib.size_eq]; exact hz)
      rw [this]; rfl
    rw [ho]
    have HVO := Lib.hid (verOf_no ho)
    clear ho
    have hzb : ((s.size : Int) == 0) = true := by rw [hz]; rfl
    go_enter Try.func45, Try.ntmps45
    go_wp2
    try simp only [Exit.inBlock, Exit.then]
    exact bodyPost_ret (v := .tuple #[.agg zeroV4, .bool false]) (results_cell_tmp (fn := Try.f45) (p := 2) (q := 3) (ty := 73) rfl _ _ w.heap.size 73 zeroV4 (0, 0) _ rfl (two_rows w).1 Try.underlying73 rfl Try.size_ver) rfl ⟨_, rfl, by rw [HVO.out]; exact verin_zero _, fresh_zero _, (two_rows w).2.2⟩
end Go.Proofs.Ytdefphacdcbljaa

namespace Go.Proofs.Ytdefphacdcbljaa
open Go.RowKit
set_option maxRecDepth 100000

def numC (a b : List UInt8) : Int := (cmpE a b).1
theorem numC_may {a b : List UInt8} (ha : mayL a = true) (hb : mayL b = true) : numC a b = cmpN a b := by unfold numC; rw [cmpE_ok ha hb]
theorem numC_vals (a b : List UInt8) : -1 ≤ numC a b ∧ numC a b ≤ 1 := by
  unfold numC cmpE
  split
  · exact cmpN_bd a b
  · decide
theorem wordC_vals (a b : List UInt8) : -1 ≤ wordC a b ∧ wordC a b ≤ 1 := by have := ord_W.vals a b; omega

set_option maxHeartbeats 400000 in
theorem ordnum_any (a b : List UInt8) (w : World) (ha : a.length ≤ 1000000000) (hb : b.length ≤ 1000000000) :
    Calls Try.prog 79 #[.string (mkB a), .string (mkB b)] w fun e w' => e = .returned (.int .i64 (numC a b)) ∧ Bel w.heap.size w w' := by
  have HA : Hid ((mkB a).size ≤ maxLen) := Lib.hid (by rw [mkB_size]; unfold maxLen; omega)
  have HB : Hid ((mkB b).size ≤ maxLen) := Lib.hid (by rw [mkB_size]; unfold maxLen; omega)
  clear ha hb
  go_enter Try.func79, Try.ntmps79
  go_wp2_with (go_at_call 91; refine (cmpnum_any _ _ _ HA.out HB.out).mono ?_; rintro e w1 ⟨rfl, hb1⟩; rw [mkB_list, mkB_list])
  go_ret
  exact ⟨rfl, by assumption⟩

set_option maxHeartbeats 800000 in
theorem ordword_any (a b : List UInt8) (w : World) (ha : a.length ≤ 1000000000) (hb : b.length ≤ 1000000000) :
    Calls Try.prog 81 #[.string (mkB a), .string (mkB b)] w fun e w' => e = .returned (.int .i64 (wordC a b)) ∧ Bel w.heap.size w w' := by
  have HA : Hid ((mkB a).size ≤ maxLen) := Lib.hid (by rw [mkB_size]; unfold maxLen; omega)
  have HB : Hid ((mkB b).size ≤ maxLen) := Lib.hid (by rw [mkB_size]; unfold maxLen; omega)
  have SA := Lib.hid ha; have SB := Lib.hid hb
  clear ha hb
  obtain ⟨x, hx⟩ : ∃ x, mayL a = x := ⟨_, rfl⟩
  obtain ⟨y, hy⟩ : ∃ y, mayL b = y := ⟨_, rfl⟩
  have hw : wordC a b = if x = true then (if y = true then numC a b else -1) else (if y = true then 1 else Lib.compareBytes a b) := by
    unfold wordC; rw [hx, hy]
    cases x <;> cases y <;> simp
    exact (numC_may hx hy).symm
  have HX := Lib.hid hx; have HY := Lib.hid hy; have HW := Lib.hid hw; clear hx hy hw
  have B0 := Bel.refl w.heap.size w
  cases x <;> cases y
  all_goals
    go_enter Try.func81, Try.ntmps81
    go_wp2_with (first
      | (go_at_call 68; refine (may_any _ _ (by first | exact HA.out | exact HB.out)).mono ?_; rintro e w1 ⟨rfl, hb1⟩; have B1 := bel_step (by assumption) hb1; clear hb1; rw [mkB_list]; first | rw [HX.out] | rw [HY.out])
      | (go_at_call 79; refine (ordnum_any _ _ _ SA.out SB.out).mono ?_; rintro e w3 ⟨rfl, hb3⟩; have B3 := bel_step (by assumption) hb3; clear hb3)
      | (go_at_call 60; refine (cmp_any _ _ _).mono ?_; rintro e w4 ⟨rfl, rfl⟩; rw [mkB_list, mkB_list]))
    go_ret
    exact ⟨ret_int (by rw [HW.out]; simp), by assumption⟩

theorem lexI_step (c : List UInt8 → List UInt8 → Int) (a b : List (List UInt8)) (k : Nat) (ha : k < a.length) (hb : k < b.length) :
    lexI c (a.drop k) (b.drop k) = if c (a.getD k []) (b.getD k []) ≠ 0 then c (a.getD k []) (b.getD k []) else lexI c (a.drop (k + 1)) (b.drop (k + 1)) := by
  have e1 : a.getD k [] = a[k] := by simp [List.getD_eq_getElem?_getD, List.getElem?_eq_getElem ha]
  have e2 : b.getD k [] = b[k] := by simp [List.getD_eq_getElem?_getD, List.getElem?_eq_getElem hb]
  rw [e1, e2, List.drop_eq_getElem_cons ha, List.drop_eq_getElem_cons hb, lexI]
theorem lexI_long (c : List UInt8 → List UInt8 → Int) (a b : List (List UInt8)) (k : Nat) (ha : k < a.length) (hb : b.length ≤ k) : lexI c (a.drop k) (b.drop k) = 1 := by
  rw [List.drop_eq_getElem_cons ha, List.drop_eq_nil_of_le hb, lexI]
theorem lexI_end (c : List UInt8 → List UInt8 → Int) (a b : List (List UInt8)) (k : Nat) (ha : a.length = k) : lexI c (a.drop k) (b.drop k) = if k < b.length then -1 else 0 := by
  rw [List.drop_eq_nil_of_le (by omega)]
  split
  · rename_i h; rw [List.drop_eq_getElem_cons h, lexI]
  · rename_i h; rw [List.drop_eq_nil_of_le (by omega), lexI]

set_option maxHeartbeats 1600000 in
set_option maxRecDepth 100000 in
theorem cmpfnum_any (u v : Value) (a b : List (List UInt8)) (w : World) (ha : Strs w u a) (hb : Strs w v b) (sa : ∀ l ∈ a, l.length ≤ 1000000000) (sb : ∀ l ∈ b, l.length ≤ 1000000000) :
    Calls Try.prog 78 #[u, v, .func (.func 79) #[] #[]] w fun e w' => e = .returned (.int .i64 (lexI numC a b)) ∧ Bel w.heap.size w w' := by
  obtain ⟨pa, ca, rfl, ha1, ha2, _, _⟩ := ha.ex
  obtain ⟨pb, cb, rfl, hb1, hb2, _, _⟩ := hb.ex
  unfold maxLen at ha2 hb2
  have HA := Lib.hid ha; have HB := Lib.hid hb; have SA := Lib.hid sa; have SB := Lib.hid sb
  clear ha hb sa sb
  obtain ⟨T, hT⟩ : ∃ T, lexI numC a b = T := ⟨_, rfl⟩
  rw [hT]
  have HT := Lib.hid hT; clear hT
  go_enter Try.func78, Try.ntmps78
  go_wp2
  go_loopw [13] (fun i wr => ∃ k : Nat, k ≤ a.length ∧ i = .int .i64 k ∧ Hid (lexI numC (a.drop k) (b.drop k) = T) ∧ Hid (Bel w.heap.size w wr)) (fun i _ => a.length - (intOf i).toNat)
  case atStart => exact ⟨0, Nat.zero_le _, rfl, Lib.hid (by rw [List.drop_zero, List.drop_zero]; exact HT.out), Lib.hid (Bel.refl _ _)⟩
  case round =>
    obtain ⟨k, hk, rfl, H, HL⟩ := hrel
    by_cases hlt : k < a.length
    · obtain ⟨ba, oa, hpa, hba, hca⟩ := strs_at HA.out k hlt
      subst hpa
      have hcell := (HL.out.cell hba).trans hca
      clear hca hba
      by_cases hlb : k < b.length
      · obtain ⟨bb, ob, hpb, hbb, hcb⟩ := strs_at HB.out k hlb
        subst hpb
        have hcell2 := (HL.out.cell hbb).trans hcb
        clear hcb hbb
        have hst := lexI_step numC a b k hlt hlb
        have HQ1 : Hid ((a.getD k []).length ≤ 1000000000) := Lib.hid (SA.out _ (mem_getD hlt))
        have HQ2 : Hid ((b.getD k []).length ≤ 1000000000) := Lib.hid (SB.out _ (mem_getD hlb))
        obtain ⟨x, hx⟩ : ∃ x, a.getD k [] = x := ⟨_, rfl⟩
        obtain ⟨y, hy⟩ : ∃ y, b.getD k [] = y := ⟨_, rfl⟩
        rw [hx] at hcell HQ1 hst
        rw [hy] at hcell2 HQ2 hst
        clear hx hy
        have hvv := numC_vals x y
        obtain ⟨z, hz⟩ : ∃ z, numC x y = z := ⟨_, rfl⟩
        rw [hz] at hst hvv
        have HST := Lib.hid hst; have HZ := Lib.hid hz
        clear hst hz
        obtain ⟨hv1, hv2⟩ := hvv
        by_cases h0 : z = 0
        · have hb0 : (z != 0) = false := by simpa using h0
          have H0 := Lib.hid h0; clear h0
          go_wp2_with (go_at_call 79; refine (ordnum_any x y _ HQ1.out HQ2.out).mono ?_; rintro e w2 ⟨rfl, hb2⟩; have HL' := Lib.hid (bel_step HL.out hb2); clear hb2; rw [HZ.out])
          go_roundw
          case rel => exact ⟨k + 1, by omega, by go_num, Lib.hid (by rw [← H.out, HST.out, if_neg (by have := H0.out; omega)]), HL'⟩
          case measure => simp [intOf]; omega
        · have hb0 : (z != 0) = true := by simpa using h0
          have H0 := Lib.hid h0; clear h0
          go_wp2_with (go_at_call 79; refine (ordnum_any x y _ HQ1.out HQ2.out).mono ?_; rintro e w2 ⟨rfl, hb2⟩; have HL' := Lib.hid (bel_step HL.out hb2); clear hb2; rw [HZ.out])
          go_ret
          exact ⟨ret_int (by rw [← H.out, HST.out, if_pos H0.out]), HL'.out⟩
      · have hle := lexI_long numC a b k hlt (by omega)
        have HE := Lib.hid hle; clear hle
        go_wp2
        go_ret
        exact ⟨ret_int (by rw [← H.out, HE.out]), HL.out⟩
    · have hle := lexI_end numC a b k (by omega)
      by_cases hlb : a.length < b.length
      · rw [if_pos (by omega)] at hle
        have HE := Lib.hid hle; clear hle
        go_wp2
        go_ret
        exact ⟨ret_int (by rw [← H.out, HE.out]), HL.out⟩
      · rw [if_neg (by omega)] at hle
        have HE := Lib.hid hle; clear hle
        go_wp2
        go_ret
        exact ⟨ret_int (by rw [← H.out, HE.out]), HL.out⟩

set_option maxHeartbeats 1600000 in
set_option maxRecDepth 100000 in
theorem cmpfword_any (u v : Value) (a b : List (List UInt8)) (w : World) (ha : Strs w u a) (hb : Strs w v b) (sa : ∀ l ∈ a, l.length ≤ 1000000000) (sb : ∀ l ∈ b, l.length ≤ 1000000000) :
    Calls Try.prog 78 #[u, v, .func (.func 81) #[] #[]] w fun e w' => e = .returned (.int .i64 (lexI wordC a b)) ∧ Bel w.heap.size w w' := by
  obtain ⟨pa, ca, rfl, ha1, ha2, _, _⟩ := ha.ex
  obtain ⟨pb, cb, rfl, hb1, hb2, _, _⟩ := hb.ex
  unfold maxLen at ha2 hb2
  have HA := Lib.hid ha; have HB := Lib.hid hb; have SA := Lib.hid sa; have SB := Lib.hid sb
  clear ha hb sa sb
  obtain ⟨T, hT⟩ : ∃ T, lexI wordC a b = T := ⟨_, rfl⟩
  rw [hT]
  have HT := Lib.hid hT; clear hT
  go_enter Try.func78, Try.ntmps78
  go_wp2
  go_loopw [13] (fun i wr => ∃ k : Nat, k ≤ a.length ∧ i = .int .i64 k ∧ Hid (lexI wordC (a.drop k) (b.drop k) = T) ∧ Hid (Bel w.heap.size w wr)) (fun i _ => a.length - (intOf i).toNat)
  case atStart => exact ⟨0, Nat.zero_le _, rfl, Lib.hid (by rw [List.drop_zero, List.drop_zero]; exact HT.out), Lib.hid (Bel.refl _ _)⟩
  case round =>
    obtain ⟨k, hk, rfl, H, HL⟩ := hrel
    by_cases hlt : k < a.length
    · obtain ⟨ba, oa, hpa, hba, hca⟩ := strs_at HA.out k hlt
      subst hpa
      have hcell := (HL.out.cell hba).trans hca
      clear hca hba
      by_cases hlb : k < b.length
      · obtain ⟨bb, ob, hpb, hbb, hcb⟩ := strs_at HB.out k hlb
        subst hpb
        have hcell2 := (HL.out.cell hbb).trans hcb
        clear hcb hbb
        have hst := lexI_step wordC a b k hlt hlb
        have HQ1 : Hid ((a.getD k []).length ≤ 1000000000) := Lib.hid (SA.out _ (mem_getD hlt))
        have HQ2 : Hid ((b.getD k []).length ≤ 1000000000) := Lib.hid (SB.out _ (mem_getD hlb))
        obtain ⟨x, hx⟩ : ∃ x, a.getD k [] = x := ⟨_, rfl⟩
        obtain ⟨y, hy⟩ : ∃ y, b.getD k [] = y := ⟨_, rfl⟩
        rw [hx] at hcell HQ1 hst
        rw [hy] at hcell2 HQ2 hst
        clear hx hy
        have hvv := wordC_vals x y
        obtain ⟨z, hz⟩ : ∃ z, wordC x y = z := ⟨_, rfl⟩
        rw [hz] at hst hvv
        have HST := Lib.hid hst; have HZ := Lib.hid hz
        clear hst hz
        obtain ⟨hv1, hv2⟩ := hvv
        by_cases h0 : z = 0
        · have hb0 : (z != 0) = false := by simpa using h0
          have H0 := Lib.hid h0; clear h0
          go_wp2_with (go_at_call 81; refine (ordword_any x y _ HQ1.out HQ2.out).mono ?_; rintro e w2 ⟨rfl, hb2⟩; have HL' := Lib.hid (bel_step HL.out hb2); clear hb2; rw [HZ.out])
          go_roundw
          case rel => exact ⟨k + 1, by omega, by go_num, Lib.hid (by rw [← H.out, HST.out, if_neg (by have := H0.out; omega)]), HL'⟩
          case measure => simp [intOf]; omega
        · have hb0 : (z != 0) = true := by simpa using h0
          have H0 := Lib.hid h0; clear h0
          go_wp2_with (go_at_call 81; refine (ordword_any x y _ HQ1.out HQ2.out).mono ?_; rintro e w2 ⟨rfl, hb2⟩; have HL' := Lib.hid (bel_step HL.out hb2); clear hb2; rw [HZ.out])
          go_ret
          exact ⟨ret_int (by rw [← H.out, HST.out, if_pos H0.out]), HL'.out⟩
      · have hle := lexI_long wordC a b k hlt (by omega)
        have HE := Lib.hid hle; clear hle
        go_wp2
        go_ret
        exact ⟨ret_int (by rw [← H.out, HE.out]), HL.out⟩
    · have hle := lexI_end wordC a b k (by omega)
      by_cases hlb : a.length < b.length
      · rw [if_pos (by omega)] at hle
        have HE := Lib.hid hle; clear hle
        go_wp2
        go_ret
        exact ⟨ret_int (by rw [← H.out, HE.out]), HL.out⟩
      · rw [if_neg (by omega)] at hle
        have HE := Lib.hid hle; clear hle
        go_wp2
        go_ret
        exact ⟨ret_int (by rw [← H.out, HE.out]), HL.out⟩

end Go.Proofs.Ytdefphacdcbljaa

namespace Go.Proofs.Ytdefphacdcbljaa
open Go.RowKit
set_option maxRecDepth 100000
attribute [local go_sem ↓] Go.wp_at_zero Go.wp_at_succ

theorem str_eq (d : Nat) (a b : ByteArray) (w : World) : Sem.run Try.prog (Op.equalIn (d + 1) 9 (.string a) (.string b)) w = .ok (a == b) w := by
  simp [Op.equalIn, run_underlying Try.underlying9]
theorem arr_eq_d (d : Nat) (h9 : ∀ a b w, Sem.run Try.prog (Op.equalIn d 9 (.string a) (.string b)) w = .ok (a == b) w) (x0 x1 x2 y0 y1 y2 : ByteArray) (w : World) :
    Sem.run Try.prog (Op.equalIn (d + 1) 90 (.agg #[.string x0, .string x1, .string x2]) (.agg #[.string y0, .string y1, .string y2])) w = .ok (x0 == y0 && (x1 == y1 && x2 == y2)) w := by
  have hi : ∀ w, Sem.run Try.prog (sizeOf 9) w = .ok 1 w := by intro w; kernel_rfl
  have ha : ∀ w, Sem.run Try.prog (isAgg 9) w = .ok false w := by intro w; kernel_rfl
  simp only [Op.equalIn, Sem.run_bind, run_underlying Try.underlying90, Result.andThen_ok, hi]
  rw [Std.Legacy.Range.forIn_eq_forIn_range']
  simp [Std.Legacy.Range.size, List.range'_succ, part, ha, h9]
  cases (x0 == y0) <;> cases (x1 == y1) <;> cases (x2 == y2) <;> simp
theorem strs3 {w : World} {g : Nat} {x y z : List UInt8} (h0 : w.cell? ⟨g, 0, none⟩ = some (.string (mkB x))) (h1 : w.cell? ⟨g, 1, none⟩ = some (.string (mkB y))) (h2 : w.cell? ⟨g, 2, none⟩ = some (.string (mkB z))) :
    Strs w (.slice (some ⟨g, 0, none⟩) 3 3) [x, y, z] := by
  refine ⟨some ⟨g, 0, none⟩, 3, rfl, Nat.le_refl _, by unfold maxLen; omega, (fun h => by cases h), fun _ => ⟨g, 0, rfl, World.block_lt_of_cell? w _ h0, fun j hj => ?_⟩⟩
  have : j = 0 ∨ j = 1 ∨ j = 2 := by simp only [List.length_cons, List.length_nil] at hj; omega
  rcases this with rfl | rfl | rfl
  · exact h0
  · exact h1
  · exact h2
theorem lex_may {a b : List (List UInt8)} (ha : ∀ l ∈ a, mayL l = true) (hb : ∀ l ∈ b, mayL l = true) : lexI numC a b = lexI cmpN a b := by
  induction a generalizing b with
  | nil => cases b <;> rfl
  | cons x a ih =>
    cases b with
    | nil => rfl
    | cons y b =>
      rw [lexI, lexI, numC_may (ha x List.mem_cons_self) (hb y List.mem_cons_self), ih (fun l h => ha l (List.mem_cons_of_mem _ h)) (fun l h => hb l (List.mem_cons_of_mem _ h))]
theorem nums_may {v : Ver} (h : fitL v = true) : ∀ l ∈ numsL v, mayL l = true := by
  obtain ⟨h1, h2, h3, _⟩ := fit_parts h
  intro l hl
  simp only [numsL, List.mem_cons, List.not_mem_nil, or_false] at hl
  rcases hl with rfl | rfl | rfl
  · exact h1
  · exact h2
  · exact h3
theorem cmpV_ne {v u : Ver} (fv : fitL v = true) (fu : fitL u = true) (h : ¬ numsL v = numsL u) : cmpV v u = lexI numC (numsL v) (numsL u) := by
  rw [lex_may (nums_may fv) (nums_may fu)]
  unfold cmpV
  rw [if_pos (fun e => h (((ord_lex ord_N).zero _ _).1 e))]
theorem cmpV_eq {v u : Ver} (h : numsL v = numsL u) : cmpV v u = preC v.2.2.2 u.2.2.2 := by
  unfold cmpV
  rw [if_neg (by rw [((ord_lex ord_N).zero _ _).2 h]; simp)]

set_option maxHeartbeats 3200000 in
set_option maxRecDepth 100000 in
theorem order_any (V U : Value) (v u : Ver) (w : World) (hV : VerIn w V v) (hU : VerIn w U u) (fv : fitL v = true) (fu : fitL u = true) (sv : smallV 1000000000 v) (su : smallV 1000000000 u) :
    Calls Try.prog 71 #[V, U] w fun e w' => e = .returned (.int .i64 (cmpV v u)) ∧ Bel w.heap.size w w' := by
  obtain ⟨a, c, rfl, hst⟩ := hV.ex
  obtain ⟨a', c', rfl, hst'⟩ := hU.ex
  obtain ⟨ma, mi, pa, pre⟩ := v
  obtain ⟨ma', mi', pa', pre'⟩ := u
  simp only at hst hst' ⊢
  clear hV hU
  have HST := Lib.hid hst; have HST' := Lib.hid hst'; have FV := Lib.hid fv; have FU := Lib.hid fu; have SV := Lib.hid sv; have SU := Lib.hid su
  clear hst hst' fv fu sv su
  obtain ⟨T, hT⟩ : ∃ T, cmpV (ma, mi, pa, pre) (ma', mi', pa', pre') = T := ⟨_, rfl⟩
  rw [hT]
  have HT := Lib.hid hT; clear hT
  obtain ⟨n, hn⟩ : ∃ n, pre.length = n := ⟨_, rfl⟩
  obtain ⟨n', hn'⟩ : ∃ n, pre'.length = n := ⟨_, rfl⟩
  rw [hn, hn'] 
  have HN := Lib.hid hn; have HN' := Lib.hid hn'; clear hn hn'
  go_enter Try.func71, Try.ntmps71
  go_upto_region 1 with fail
  obtain ⟨wA, hwA⟩ : ∃ wA, wA = (w.alloc (.cells #[.string (mkB ma), .string (mkB mi), .string (mkB pa), .slice a n c] 73)).alloc (.cells #[.string (mkB ma'), .string (mkB mi'), .string (mkB pa'), .slice a' n' c'] 73) := ⟨_, rfl⟩
  have bA : Bel w.heap.size w wA := by rw [hwA]; exact ((Bel.refl _ _).alloc (Nat.le_refl _) _).alloc (by simp) _
  have r1 : wA.heap[w.heap.size]? = some (.cells #[.string (mkB ma), .string (mkB mi), .string (mkB pa), .slice a n c] 73) := by rw [hwA, Below.heap_alloc _ _ _ (by simp)]; exact heap_alloc_new _ _
  have r2 : wA.heap[w.heap.size + 1]? = some (.cells #[.string (mkB ma'), .string (mkB mi'), .string (mkB pa'), .slice a' n' c'] 73) := by
    rw [hwA]; have := heap_alloc_new (w.alloc (.cells #[.string (mkB ma), .string (mkB mi), .string (mkB pa), .slice a n c] 73)) (.cells #[.string (mkB ma'), .string (mkB mi'), .string (mkB pa'), .slice a' n' c'] 73)
    simpa using this
  rw [← hwA]
  obtain ⟨p, hp⟩ : ∃ p, w.heap.size = p := ⟨_, rfl⟩
  obtain ⟨q, hq⟩ : ∃ q, w.heap.size + 1 = q := ⟨_, rfl⟩
  rw [hq] at r2 ⊢
  rw [hp] at r1 ⊢
  have BA := Lib.hid bA; have HP := Lib.hid hp; have HQ := Lib.hid hq
  clear bA hp hq hwA
  obtain ⟨c0, c1, c2, c3, _, _, _, _⟩ := row4 r1
  obtain ⟨d0, d1, d2, d3, _, _, _, _⟩ := row4 r2
  clear r1 r2
  go_cut [5, 6] (fun s5 s6 wx => ∃ g5 g6 : Nat, s5 = .pointer (some ⟨g5, 0, none⟩) ∧ s6 = .pointer (some ⟨g6, 0, none⟩) ∧ wx.cell? ⟨g5, 0, none⟩ = some (.string (mkB ma)) ∧ wx.cell? ⟨g5, 1, none⟩ = some (.string (mkB mi)) ∧ wx.cell? ⟨g5, 2, none⟩ = some (.string (mkB pa)) ∧ wx.cell? ⟨g6, 0, none⟩ = some (.string (mkB ma')) ∧ wx.cell? ⟨g6, 1, none⟩ = some (.string (mkB mi')) ∧ wx.cell? ⟨g6, 2, none⟩ = some (.string (mkB pa')) ∧ Bel wA.heap.size wA wx)
  case first =>
    go_region_held3 (fun w' => w'.cell? ⟨p, 0, none⟩ = some (.string (mkB ma)) ∧ w'.cell? ⟨p, 1, none⟩ = some (.string (mkB mi)) ∧ w'.cell? ⟨p, 2, none⟩ = some (.string (mkB pa)) ∧ w'.cell? ⟨p, 3, none⟩ = some (.slice a n c) ∧ w'.cell? ⟨q, 0, none⟩ = some (.string (mkB ma')) ∧ w'.cell? ⟨q, 1, none⟩ = some (.string (mkB mi')) ∧ w'.cell? ⟨q, 2, none⟩ = some (.string (mkB pa')) ∧ w'.cell? ⟨q, 3, none⟩ = some (.slice a' n' c')) ((repeat' apply And.intro) <;> (with_reducible (repeat (first | assumption | apply cell_alloc | apply cell_drew))))
      (first | (go_at_call 67; refine (numbers_ex _ _ _ _ _ _ _).mono ?_; rintro e w1 ⟨rfl, rfl⟩))
    all_goals (go_wp2_with fail; go_meet)
    all_goals
      refine ⟨_, _, rfl, rfl, ?_, ?_, ?_, ?_, ?_, ?_, ?_⟩
      all_goals first
        | (with_reducible (repeat (first | (refine cell_new ?_ rfl; (simp; done)) | apply cell_alloc | apply cell_drew)); done)
        | (refine bel_step ?_ (bel_q ⟨1, rfl⟩); repeat (first | exact Bel.refl _ _ | refine Bel.alloc ?_ (by simp; try omega) _))
  case rest =>
    obtain ⟨g5, g6, rfl, rfl, x0, x1, x2, y0, y1, y2, hbc⟩ := hcut
    have k3 := bel_keep c3 hbc
    have l3 := bel_keep d3 hbc
    have BC := Lib.hid (bel_step BA.out hbc)
    clear c0 c1 c2 c3 d0 d1 d2 d3 hbc
    obtain ⟨bb, hbb⟩ : ∃ bb, (mkB ma == mkB ma' && (mkB mi == mkB mi' && mkB pa == mkB pa')) = bb := ⟨_, rfl⟩
    have heq : ∀ w, Sem.run Try.prog (Op.equalIn 10000 90 (.agg #[.string (mkB ma), .string (mkB mi), .string (mkB pa)]) (.agg #[.string (mkB ma'), .string (mkB mi'), .string (mkB pa')])) w = .ok bb w := fun w => by
      rw [← hbb]; exact arr_eq_d 9999 (str_eq 9998) _ _ _ _ _ _ w
    rw [mkB_beq, mkB_beq, mkB_beq] at hbb
    have HBB := Lib.hid hbb; clear hbb
    have HS5 := Lib.hid (strs3 x0 x1 x2); have HS6 := Lib.hid (strs3 y0 y1 y2)
    cases bb
    · have hc : T = lexI numC [ma, mi, pa] [ma', mi', pa'] := by
        rw [← HT.out]
        refine cmpV_ne FV.out FU.out fun e => ?_
        simp only [numsL, List.cons.injEq] at e
        obtain ⟨rfl, rfl, rfl, _⟩ := e
        have := HBB.out
        simp at this
      have HC := Lib.hid hc; clear hc
      have HSA : Hid (∀ l ∈ [ma, mi, pa], l.length ≤ 1000000000) := Lib.hid (by
        obtain ⟨h1, h2, h3, _, _⟩ := SV.out
        intro l hl; simp only [List.mem_cons, List.not_mem_nil, or_false] at hl; rcases hl with rfl | rfl | rfl <;> assumption)
      have HSB : Hid (∀ l ∈ [ma', mi', pa'], l.length ≤ 1000000000) := Lib.hid (by
        obtain ⟨h1, h2, h3, _, _⟩ := SU.out
        intro l hl; simp only [List.mem_cons, List.not_mem_nil, or_false] at hl; rcases hl with rfl | rfl | rfl <;> assumption)
      go_wp2
      go_region_with (go_at_call 78; refine (cmpfnum_any _ _ [ma, mi, pa] [ma', mi', pa'] _ (strs_drew HS5.out) (strs_drew HS6.out) HSA.out HSB.out).mono ?_; rintro e w2 ⟨rfl, hb2⟩; have HB2 := Lib.hid hb2; clear hb2; rw [← HC.out])
      all_goals
        go_wp2
        go_ret
        exact ⟨rfl, bel_step (bel_step BC.out (bel_q ⟨1, rfl⟩)) HB2.out⟩
    · have hc : T = preC pre pre' := by
        rw [← HT.out]
        refine cmpV_eq ?_
        have := HBB.out
        simp only [Bool.and_eq_true, decide_eq_true_eq] at this
        obtain ⟨rfl, rfl, rfl⟩ := this
        rfl
      have HC := Lib.hid hc; clear hc
      have hn0 : pre = [] ↔ n = 0 := by rw [← HN.out]; exact List.length_eq_zero_iff.symm
      have hn0' : pre' = [] ↔ n' = 0 := by rw [← HN'.out]; exact List.length_eq_zero_iff.symm
      by_cases h0 : n = 0 ∨ n' = 0
      · have hv : T = if (n' : Int) < n then -1 else if (n : Int) < n' then 1 else 0 := by
          rw [HC.out]; unfold preC
          by_cases e1 : n = 0
          · rw [if_pos (hn0.2 e1)]
            by_cases e2 : n' = 0
            · rw [if_pos (hn0'.2 e2), if_neg (by omega), if_neg (by omega)]
            · rw [if_neg (fun h => e2 (hn0'.1 h)), if_neg (by omega), if_pos (by omega)]
          · have e2 : n' = 0 := by omega
            rw [if_neg (fun h => e1 (hn0.1 h)), if_pos (hn0'.2 e2), if_pos (by omega)]
        have HV := Lib.hid hv
        clear hv hn0 hn0'
        by_cases e1 : n = 0
        · have hb1 : ((n : Int) == 0) = true := by rw [e1]; rfl
          have E1 := Lib.hid e1; clear e1 h0
          go_wp2_with (go_at_call 80; refine (compare_any _ _ _).mono ?_; rintro e w3 ⟨rfl, rfl⟩; rw [← HV.out])
          go_ret
          exact ⟨rfl, BC.out⟩
        · have hb1 : ((n : Int) == 0) = false := by rw [beq_eq_false_iff_ne]; omega
          have hb2 : ((n' : Int) == 0) = true := by have : n' = 0 := by omega
                                                    rw [this]; rfl
          clear e1 h0
          go_wp2_with (go_at_call 80; refine (compare_any _ _ _).mono ?_; rintro e w3 ⟨rfl, rfl⟩; rw [← HV.out])
          go_ret
          exact ⟨rfl, BC.out⟩
      · have hb1 : ((n : Int) == 0) = false := by rw [beq_eq_false_iff_ne]; omega
        have hb2 : ((n' : Int) == 0) = false := by rw [beq_eq_false_iff_ne]; omega
        have hv : T = lexI wordC pre pre' := by
          rw [HC.out]; unfold preC
          rw [if_neg (fun h => h0 (.inl (hn0.1 h))), if_neg (fun h => h0 (.inr (hn0'.1 h)))]
        have HV := Lib.hid hv
        have SP := Lib.hid SV.out.2.2.2.2; have SP' := Lib.hid SU.out.2.2.2.2
        have hs1 := HST.out.below BC.out; have hs2 := HST'.out.below BC.out
        rw [HN.out] at hs1; rw [HN'.out] at hs2
        have HS1 := Lib.hid hs1; have HS2 := Lib.hid hs2
        clear hv hn0 hn0' h0 hs1 hs2
        go_wp2_with (go_at_call 78; refine (cmpfword_any _ _ pre pre' _ HS1.out HS2.out SP.out SP'.out).mono ?_; rintro e w2 ⟨rfl, hb3⟩; have HB2 := Lib.hid hb3; clear hb3; rw [← HV.out])
        go_ret
        exact ⟨rfl, bel_step BC.out HB2.out⟩
end Go.Proofs.Ytdefphacdcbljaa

namespace Go.Proofs.Ytdefphacdcbljaa
open Go.RowKit
set_option maxRecDepth 100000

def okE (l : List UInt8) : Int := if okV l = true then 0 else 1
theorem split_e (s : ByteArray) (w : World) (hs : s.size ≤ 1000000000) :
    Calls Try.prog 47 #[.string s] w fun e w' => ∃ a c, e = .returned (.tuple #[.agg #[.string (mkB (verOf s.data.toList).1), .string (mkB (verOf s.data.toList).2.1), .string (mkB (verOf s.data.toList).2.2.1), .slice a (verOf s.data.toList).2.2.2.length c], .int .i64 (okE s.data.toList)]) ∧ Strs w' (.slice a (verOf s.data.toList).2.2.2.length c) (verOf s.data.toList).2.2.2 ∧ Bel w.heap.size w w' := by
  refine (split_any s w hs).mono ?_
  rintro e w' ⟨V, rfl, hV, _, hb⟩
  obtain ⟨a, c, rfl, hst⟩ := hV.ex
  exact ⟨a, c, rfl, hst, hb⟩
theorem split_f (s : ByteArray) (w : World) (hs : s.size ≤ 1000000000) :
    Calls Try.prog 47 #[.string s] w fun e w' => ∃ a c, e = .returned (.tuple #[.agg #[.string (mkB (verOf s.data.toList).1), .string (mkB (verOf s.data.toList).2.1), .string (mkB (verOf s.data.toList).2.2.1), .slice a (verOf s.data.toList).2.2.2.length c], .int .i64 (okE s.data.toList)]) ∧ Strs w' (.slice a (verOf s.data.toList).2.2.2.length c) (verOf s.data.toList).2.2.2 ∧ (∀ ad, a = some ad → w.heap.size ≤ ad.block) ∧ Bel w.heap.size w w' := by
  refine (split_any s w hs).mono ?_
  rintro e w' ⟨V, rfl, hV, hf, hb⟩
  obtain ⟨a, c, rfl, hst⟩ := hV.ex
  exact ⟨a, c, rfl, hst, hf.at, hb⟩
theorem refsplit_e (s : ByteArray) (w : World) (hs : s.size ≤ 1000000000) :
    Calls Try.prog 45 #[.string s] w fun e w' => ∃ a c, e = .returned (.tuple #[.agg #[.string (mkB (verOf s.data.toList).1), .string (mkB (verOf s.data.toList).2.1), .string (mkB (verOf s.data.toList).2.2.1), .slice a (verOf s.data.toList).2.2.2.length c], .bool (okV s.data.toList)]) ∧ Strs w' (.slice a (verOf s.data.toList).2.2.2.length c) (verOf s.data.toList).2.2.2 ∧ Bel w.heap.size w w' := by
  refine (refsplit_any s w hs).mono ?_
  rintro e w' ⟨V, rfl, hV, _, hb⟩
  obtain ⟨a, c, rfl, hst⟩ := hV.ex
  exact ⟨a, c, rfl, hst, hb⟩

set_option maxHeartbeats 800000 in
theorem vmay_any (s : ByteArray) (w : World) (hs : s.size ≤ 1000000000) :
    Calls Try.prog 31 #[.string s] w fun e w' => e = .returned (.bool (okV s.data.toList)) ∧ Bel w.heap.size w w' := by
  have HS := Lib.hid hs; clear hs
  obtain ⟨o, ho⟩ : ∃ o, okV s.data.toList = o := ⟨_, rfl⟩
  have he : okE s.data.toList = if o = true then 0 else 1 := by unfold okE; rw [ho]
  have HE := Lib.hid he; have HO := Lib.hid ho; clear he ho
  cases o
  all_goals
    go_enter Try.func31, Try.ntmps31
    go_wp2_with (go_at_call 47; refine (split_e s _ HS.out).mono ?_; rintro e w1 ⟨a, c, rfl, _, hb1⟩; rw [HE.out])
    go_ret
    exact ⟨ret_bool HO.out.symm, bel_step hb1 ((Bel.refl _ _).alloc (Nat.le_refl _) _)⟩

set_option maxHeartbeats 800000 in
theorem refvmay_any (s : ByteArray) (w : World) (hs : s.size ≤ 1000000000) :
    Calls Try.prog 28 #[.string s] w fun e w' => e = .returned (.bool (okV s.data.toList)) ∧ Bel w.heap.size w w' := by
  have HS := Lib.hid hs; clear hs
  obtain ⟨o, ho⟩ : ∃ o, okV s.data.toList = o := ⟨_, rfl⟩
  have HO := Lib.hid ho; clear ho
  go_enter Try.func28, Try.ntmps28
  go_wp2_with (go_at_call 45; refine (refsplit_e s _ HS.out).mono ?_; rintro e w1 ⟨a, c, rfl, _, hb1⟩; rw [HO.out])
  go_ret
  exact ⟨ret_bool HO.out.symm, bel_step hb1 ((Bel.refl _ _).alloc (Nat.le_refl _) _)⟩

/-! ### Cmp -/
def vcmpE (a b : List UInt8) : Int × Int := if okV a = true ∧ okV b = true then (cmpT a b, 0) else (0, 1)
theorem small_verOf (l : List UInt8) (h : l.length ≤ 1000000000) : smallV 1000000000 (verOf l) := by
  cases ho : okV l
  · rw [verOf_no ho]; exact ⟨by simp, by simp, by simp, by simp, fun l hl => by cases hl⟩
  · obtain ⟨hj, hf⟩ := join_ok ho
    obtain ⟨v, hv⟩ : ∃ v, verOf l = v := ⟨_, rfl⟩
    rw [hv] at hj hf ⊢
    obtain ⟨ma, mi, pa, pre⟩ := v
    have hl : (joinL (ma, mi, pa, pre)).length ≤ 1000000000 := by rw [hj]; exact h
    unfold joinL at hl
    simp only [List.length_append, List.length_cons] at hl
    refine ⟨by show ma.length ≤ _; omega, by show mi.length ≤ _; omega, by show pa.length ≤ _; omega, ?_, ?_⟩
    · show pre.length ≤ _
      by_cases hp : pre = []
      · rw [hp]; simp
      · rw [if_neg hp] at hl
        simp only [List.length_cons] at hl
        have := splitL_len 46 (jn 46 pre)
        have hw : ∀ l ∈ pre, ∀ y ∈ l, ¬ (y.toNat : Int) = 46 := fun l hl => word_no46 (List.all_eq_true.1 (fit_parts hf).2.2.2 l hl)
        rw [split_jn 46 46 (by decide) pre hp hw] at this
        omega
    · intro q hq
      have hq' : q ∈ pre := hq
      have hp : pre ≠ [] := by intro e; rw [e] at hq'; cases hq'
      rw [if_neg hp] at hl
      simp only [List.length_cons] at hl
      have hw : ∀ l ∈ pre, ∀ y ∈ l, ¬ (y.toNat : Int) = 46 := fun l hl => word_no46 (List.all_eq_true.1 (fit_parts hf).2.2.2 l hl)
      have := split_le 46 (jn 46 pre) q (by rw [split_jn 46 46 (by decide) pre hp hw]; exact hq')
      omega

set_option maxHeartbeats 1600000 in
set_option maxRecDepth 100000 in
theorem vcmp_any (s t : ByteArray) (w : World) (hs : s.size ≤ 1000000000) (ht : t.size ≤ 1000000000) :
    Calls Try.prog 61 #[.string s, .string t] w fun e w' => e = .returned (.tuple #[.int .i64 (vcmpE s.data.toList t.data.toList).1, .int .i64 (vcmpE s.data.toList t.data.toList).2]) ∧ Bel w.heap.size w w' := by
  have SS := small_verOf s.data.toList (by rw [← Lib.size_eq]; exact hs)
  have ST := small_verOf t.data.toList (by rw [← Lib.size_eq]; exact ht)
  have HS := Lib.hid hs; have HT := Lib.hid ht; clear hs ht
  obtain ⟨o, ho⟩ : ∃ o, okV s.data.toList = o := ⟨_, rfl⟩
  obtain ⟨p, hp⟩ : ∃ p, okV t.data.toList = p := ⟨_, rfl⟩
  have he : okE s.data.toList = if o = true then 0 else 1 := by unfold okE; rw [ho]
  have hf : okE t.data.toList = if p = true then 0 else 1 := by unfold okE; rw [hp]
  have hfs : fitL (verOf s.data.toList) = o := by rw [fit_verOf]; exact ho
  have hft : fitL (verOf t.data.toList) = p := by rw [fit_verOf]; exact hp
  have hr : vcmpE s.data.toList t.data.toList = if o = true ∧ p = true then (cmpV (verOf s.data.toList) (verOf t.data.toList), 0) else (0, 1) := by unfold vcmpE; rw [ho, hp]; rfl
  obtain ⟨v, hv⟩ : ∃ v, verOf s.data.toList = v := ⟨_, rfl⟩
  obtain ⟨u, hu⟩ : ∃ u, verOf t.data.toList = u := ⟨_, rfl⟩
  rw [hv] at hfs hr SS; rw [hu] at hft hr ST
  have HE := Lib.hid he; have HF := Lib.hid hf; have HR := Lib.hid hr; have FS := Lib.hid hfs; have FT := Lib.hid hft; have HV := Lib.hid hv; have HU := Lib.hid hu; have SSH := Lib.hid SS; have STH := Lib.hid ST
  clear he hf hr hfs hft ho hp hv hu SS ST
  cases o <;> cases p
  all_goals
    go_enter Try.func61, Try.ntmps61
    go_upto_region 2 with (go_at_call 47; refine (split_e _ _ HS.out).mono ?_; rintro e w1 ⟨a1, c1, rfl, hst1, hb1⟩; rw [HV.out] at hst1 ⊢; rw [HE.out]; have ST1 := Lib.hid hst1; have B1 := Lib.hid hb1; clear hst1 hb1)
    go_wp2_with (first
      | (go_at_call 47; refine (split_e _ _ HT.out).mono ?_; rintro e w2 ⟨a2, c2, rfl, hst2, hb2⟩; rw [HU.out] at hst2 ⊢; rw [HF.out]; obtain ⟨d0, d1, d2, d3, _, _, _, _⟩ := row4 (row_keep (heap_alloc_new w1 (.cells #[.string (mkB v.1), .string (mkB v.2.1), .string (mkB v.2.2.1), .slice a1 v.2.2.2.length c1] 73)) hb2);
          have d0' := fun o => cell_alloc d0 o; have d1' := fun o => cell_alloc d1 o; have d2' := fun o => cell_alloc d2 o; have d3' := fun o => cell_alloc d3 o;
          have ST2 := Lib.hid hst2; have STA := Lib.hid ((ST1.out.below ((Bel.refl _ _).alloc (Nat.le_refl _) (.cells #[.string (mkB v.1), .string (mkB v.2.1), .string (mkB v.2.2.1), .slice a1 v.2.2.2.length c1] 73))).below hb2); have B2 := Lib.hid (bel_step (B1.out.alloc B1.out.size (.cells #[.string (mkB v.1), .string (mkB v.2.1), .string (mkB v.2.2.1), .slice a1 v.2.2.2.length c1] 73)) hb2); clear hst2 hb2)
      | (go_at_call 71; refine (order_any _ _ v u _ ⟨⟨_, _, rfl, STA.out.below ((Bel.refl _ _).alloc (Nat.le_refl _) _)⟩⟩ ⟨⟨_, _, rfl, ST2.out.below ((Bel.refl _ _).alloc (Nat.le_refl _) _)⟩⟩ FS.out FT.out SSH.out STH.out).mono ?_; rintro e w3 ⟨rfl, hb3⟩; have B3 := Lib.hid (bel_step (B2.out.alloc B2.out.size _) hb3); clear hb3))
    go_ret2
    first
      | exact ⟨by rw [HR.out]; rfl, B3.out⟩
      | exact ⟨by rw [HR.out]; rfl, B2.out.alloc B2.out.size _⟩
end Go.Proofs.Ytdefphacdcbljaa

namespace Go.Proofs.Ytdefphacdcbljaa
open Go.RowKit
set_option maxRecDepth 100000

theorem ver_eq (v u : Ver) : decide (v = u) = (decide (v.1 = u.1) && (decide (v.2.1 = u.2.1) && (decide (v.2.2.1 = u.2.2.1) && sameB v.2.2.2 u.2.2.2))) := by
  obtain ⟨a, b, c, d⟩ := v
  obtain ⟨a', b', c', d'⟩ := u
  unfold sameB
  rw [Bool.eq_iff_iff]
  simp

def joinE (v : Ver) : List UInt8 × Int := if fitL v = true then (joinL v, 0) else ([], 1)
theorem base_txt (ma mi pa : List UInt8) : (⟨#[118]⟩ : ByteArray) ++ mkB ma ++ ⟨#[46]⟩ ++ mkB mi ++ ⟨#[46]⟩ ++ mkB pa = mkB (118 :: (ma ++ 46 :: (mi ++ 46 :: pa))) := mkB_of' (by simp only [cat_list, mkB_list]; simp)
theorem tail_txt (l q : List UInt8) (c : UInt8) : mkB l ++ ((⟨#[c]⟩ : ByteArray) ++ mkB q) = mkB (l ++ c :: q) := mkB_of' (by simp only [cat_list, mkB_list]; simp)
theorem joinL_none (ma mi pa : List UInt8) : joinL (ma, mi, pa, []) = 118 :: (ma ++ 46 :: (mi ++ 46 :: pa)) := by simp [joinL]
theorem joinL_some (ma mi pa : List UInt8) (pre : List (List UInt8)) (h : pre ≠ []) : joinL (ma, mi, pa, pre) = (118 :: (ma ++ 46 :: (mi ++ 46 :: pa))) ++ 45 :: jn 46 pre := by simp [joinL, h]
end Go.Proofs.Ytdefphacdcbljaa

namespace Go.Proofs.Ytdefphacdcbljaa
open Go.RowKit
set_option maxRecDepth 100000

theorem joinL_step (ma mi pa : List UInt8) (pre : List (List UInt8)) (k : Nat) (h : k < pre.length) :
    joinL (ma, mi, pa, pre.take (k + 1)) = joinL (ma, mi, pa, pre.take k) ++ (if k = 0 then 45 else 46) :: pre.getD k [] := by
  have hne : pre.take (k + 1) ≠ [] := by
    intro e
    have := congrArg List.length e
    rw [List.length_take] at this
    simp only [List.length_nil] at this
    omega
  by_cases h0 : k = 0
  · subst h0
    rw [joinL_some _ _ _ _ hne, jn_zero 46 pre h, List.take_zero, joinL_none, if_pos rfl]
  · have hne' : pre.take k ≠ [] := by
      intro e
      have := congrArg List.length e
      rw [List.length_take] at this
      simp only [List.length_nil] at this
      omega
    rw [joinL_some _ _ _ _ hne, joinL_some _ _ _ _ hne', jn_succ 46 pre k (by omega) h, if_neg h0]
    simp
theorem joinL_take_le (ma mi pa : List UInt8) (pre : List (List UInt8)) (k : Nat) : (joinL (ma, mi, pa, pre.take k)).length ≤ (joinL (ma, mi, pa, pre)).length := by
  by_cases h0 : pre.take k = []
  · rw [h0, joinL_none]
    by_cases h1 : pre = []
    · rw [h1, joinL_none]; exact Nat.le_refl _
    · rw [joinL_some _ _ _ _ h1]; simp
  · have h1 : pre ≠ [] := fun e => h0 (by rw [e]; simp)
    rw [joinL_some _ _ _ _ h0, joinL_some _ _ _ _ h1]
    have := jn_le 46 pre k
    simp; omega
theorem put_txt (l q : List UInt8) (c : UInt8) : mkB l ++ (⟨#[c]⟩ : ByteArray) ++ mkB q = mkB (l ++ c :: q) := mkB_of' (by simp only [cat_list, mkB_list]; simp)

end Go.Proofs.Ytdefphacdcbljaa

namespace Go.Proofs.Ytdefphacdcbljaa
open Go.RowKit
set_option maxRecDepth 100000

set_option maxHeartbeats 800000 in
theorem refwords_any (a b : List UInt8) (w : World) (ha : a.length ≤ 1000000000) (hb : b.length ≤ 1000000000) :
    Calls Try.prog 51 #[.string (mkB a), .string (mkB b)] w fun e w' => e = .returned (.int .i64 (wordC a b)) ∧ ∃ n, w' = w.drewN n := by
  have HA : Hid ((mkB a).size ≤ 1000000000) := Lib.hid (by rw [mkB_size]; omega)
  have HB : Hid ((mkB b).size ≤ 1000000000) := Lib.hid (by rw [mkB_size]; omega)
  have HA' : Hid ((mkB a).size ≤ maxLen) := Lib.hid (by rw [mkB_size]; unfold maxLen; omega)
  have HB' : Hid ((mkB b).size ≤ maxLen) := Lib.hid (by rw [mkB_size]; unfold maxLen; omega)
  clear ha hb
  obtain ⟨x, hx⟩ : ∃ x, mayL a = x := ⟨_, rfl⟩
  obtain ⟨y, hy⟩ : ∃ y, mayL b = y := ⟨_, rfl⟩
  have hw : wordC a b = if x = true then (if y = true then cmpN a b else -1) else (if y = true then 1 else Lib.compareBytes a b) := by
    unfold wordC; rw [hx, hy]
  have HX := Lib.hid hx; have HY := Lib.hid hy; have HW := Lib.hid hw; clear hx hy hw
  cases x <;> cases y
  all_goals
    go_enter Try.func51, Try.ntmps51
    go_wp2_with (first
      | (go_at_call 53; refine (refmay_any _ _ (by first | exact HA.out | exact HB.out)).mono ?_; rintro e w1 ⟨rfl, rfl⟩; rw [mkB_list]; first | rw [HX.out] | rw [HY.out])
      | (go_at_call 50; refine (refcmp2_any _ _ _ HA.out HB.out (by rw [mkB_list]; exact HX.out) (by rw [mkB_list]; exact HY.out)).mono ?_; rintro e w3 ⟨rfl, rfl⟩; rw [mkB_list, mkB_list])
      | (go_at_call 41; refine (refcmp_any _ _ _ HA'.out HB'.out).mono ?_; rintro e w4 ⟨rfl, n, rfl⟩; rw [mkB_list, mkB_list]))
    go_ret
    first
      | exact ⟨ret_int (by rw [HW.out]; simp), 0, rfl⟩
      | exact ⟨ret_int (by rw [HW.out]; simp), _, rfl⟩

/-- What the walk keeps of the two versions. -/
structure TwoPre (w0 w : World) (g5 g7 : Nat) (a1 a2 : Option Addr) (c1 c2 n m : Nat) (p q : List (List UInt8)) : Prop where
  x5 : w.cell? ⟨g5, 3, none⟩ = some (.slice a1 n c1)
  x7 : w.cell? ⟨g7, 3, none⟩ = some (.slice a2 m c2)
  s1 : Strs w (.slice a1 n c1) p
  s2 : Strs w (.slice a2 m c2) q
  bl : Bel w0.heap.size w0 w
theorem TwoPre.drewN {w0 w : World} {g5 g7 : Nat} {a1 a2 : Option Addr} {c1 c2 n m : Nat} {p q : List (List UInt8)} (k : Nat) (h : TwoPre w0 w g5 g7 a1 a2 c1 c2 n m p q) : TwoPre w0 (w.drewN k) g5 g7 a1 a2 c1 c2 n m p q :=
  ⟨by simpa using h.x5, by simpa using h.x7, h.s1.drewN k, h.s2.drewN k, bel_step h.bl (bel_q ⟨k, rfl⟩)⟩

set_option maxHeartbeats 3200000 in
set_option maxRecDepth 100000 in
theorem refvcmp_any (s t : ByteArray) (w : World) (hs : s.size ≤ 1000000000) (ht : t.size ≤ 1000000000) (os : okV s.data.toList = true) (ot : okV t.data.toList = true) :
    Calls Try.prog 42 #[.string s, .string t] w fun e w' => e = .returned (.int .i64 (cmpT s.data.toList t.data.toList)) ∧ Bel w.heap.size w w' := by
  have SS := small_verOf s.data.toList (by rw [← Lib.size_eq]; exact hs)
  have ST := small_verOf t.data.toList (by rw [← Lib.size_eq]; exact ht)
  obtain ⟨_, fs⟩ := join_ok os
  obtain ⟨_, ft⟩ := join_ok ot
  obtain ⟨T, hT⟩ : ∃ T, cmpT s.data.toList t.data.toList = T := ⟨_, rfl⟩
  rw [hT]
  unfold cmpT at hT
  obtain ⟨v, hv⟩ : ∃ v, verOf s.data.toList = v := ⟨_, rfl⟩
  obtain ⟨u, hu⟩ : ∃ u, verOf t.data.toList = u := ⟨_, rfl⟩
  rw [hv] at fs SS hT; rw [hu] at ft ST hT
  have HS := Lib.hid hs; have HT' := Lib.hid ht; have HV := Lib.hid hv; have HU := Lib.hid hu; have OS := Lib.hid os; have OT := Lib.hid ot
  clear hs ht hv hu os ot
  obtain ⟨ma, mi, pa, pre⟩ := v
  obtain ⟨ma', mi', pa', pre'⟩ := u
  obtain ⟨p1, p2, p3, _⟩ := fit_parts fs
  obtain ⟨q1, q2, q3, _⟩ := fit_parts ft
  obtain ⟨l1, l2, l3, l4, l5⟩ := SS
  obtain ⟨k1, k2, k3, k4, k5⟩ := ST
  simp only at p1 p2 p3 q1 q2 q3 l1 l2 l3 l4 l5 k1 k2 k3 k4 k5
  clear fs ft
  obtain ⟨A, hA⟩ : ∃ A, cmpN ma ma' = A := ⟨_, rfl⟩
  obtain ⟨B, hB⟩ : ∃ B, cmpN mi mi' = B := ⟨_, rfl⟩
  obtain ⟨C, hC⟩ : ∃ C, cmpN pa pa' = C := ⟨_, rfl⟩
  have bA := cmpN_bd ma ma'; have bB := cmpN_bd mi mi'; have bC := cmpN_bd pa pa'
  rw [hA] at bA; rw [hB] at bB; rw [hC] at bC
  have hT2 : T = if A ≠ 0 then A else if B ≠ 0 then B else if C ≠ 0 then C else preC pre pre' := by
    rw [← hT]
    unfold cmpV numsL
    simp only [lexI, hA, hB, hC]
    by_cases a0 : A = 0 <;> by_cases b0 : B = 0 <;> by_cases c0 : C = 0 <;> simp [a0, b0, c0]
  clear hT
  obtain ⟨n, hn⟩ : ∃ n, pre.length = n := ⟨_, rfl⟩
  obtain ⟨m, hm⟩ : ∃ m, pre'.length = m := ⟨_, rfl⟩
  rw [hn] at l4; rw [hm] at k4
  have P1 := Lib.hid p1; have P2 := Lib.hid p2; have P3 := Lib.hid p3; have Q1 := Lib.hid q1; have Q2 := Lib.hid q2; have Q3 := Lib.hid q3
  have L1 : Hid ((mkB ma).size ≤ 1000000000) := Lib.hid (by rw [mkB_size]; exact l1)
  have L2 : Hid ((mkB mi).size ≤ 1000000000) := Lib.hid (by rw [mkB_size]; exact l2)
  have L3 : Hid ((mkB pa).size ≤ 1000000000) := Lib.hid (by rw [mkB_size]; exact l3)
  have K1 : Hid ((mkB ma').size ≤ 1000000000) := Lib.hid (by rw [mkB_size]; exact k1)
  have K2 : Hid ((mkB mi').size ≤ 1000000000) := Lib.hid (by rw [mkB_size]; exact k2)
  have K3 : Hid ((mkB pa').size ≤ 1000000000) := Lib.hid (by rw [mkB_size]; exact k3)
  have L5 := Lib.hid l5; have K5 := Lib.hid k5; have HA := Lib.hid hA; have HB := Lib.hid hB; have HC := Lib.hid hC; have HT := Lib.hid hT2; have HN := Lib.hid hn; have HM := Lib.hid hm
  clear p1 p2 p3 q1 q2 q3 l1 l2 l3 k1 k2 k3 l5 k5 hA hB hC hT2 hn hm
  obtain ⟨bA1, bA2⟩ := bA; obtain ⟨bB1, bB2⟩ := bB; obtain ⟨bC1, bC2⟩ := bC
  go_enter Try.func42, Try.ntmps42
  go_upto_region 2 with (go_at_call 45; refine (refsplit_e _ _ HS.out).mono ?_; rintro e w1 ⟨a1, c1, rfl, hst1, hb1⟩; rw [HV.out] at hst1 ⊢; rw [OS.out]; rw [HN.out] at hst1 ⊢; have ST1 := Lib.hid hst1; have B1 := Lib.hid hb1; clear hst1 hb1)
  go_upto_region 3 with (go_at_call 45; refine (refsplit_e _ _ HT'.out).mono ?_; rintro e w2 ⟨a2, c2, rfl, hst2, hb2⟩; rw [HU.out] at hst2 ⊢; rw [OT.out]; rw [HM.out] at hst2 ⊢; have ST2 := Lib.hid hst2; have B2 := Lib.hid hb2; clear hst2 hb2)
  obtain ⟨wC, hwC⟩ : ∃ wC, wC = w2.alloc (.cells #[.string (mkB ma'), .string (mkB mi'), .string (mkB pa'), .slice a2 m c2] 73) := ⟨_, rfl⟩
  rw [← hwC]
  have r5 : wC.heap[w1.heap.size]? = some (.cells #[.string (mkB ma), .string (mkB mi), .string (mkB pa), .slice a1 n c1] 73) := by rw [hwC]; exact row_keep (row_keep (heap_alloc_new w1 _) B2.out) ((Bel.refl _ _).alloc (Nat.le_refl _) _)
  have r7 : wC.heap[w2.heap.size]? = some (.cells #[.string (mkB ma'), .string (mkB mi'), .string (mkB pa'), .slice a2 m c2] 73) := by rw [hwC]; exact heap_alloc_new _ _
  have hb : Bel w.heap.size w wC := by rw [hwC]; have h := bel_step (B1.out.alloc B1.out.size (.cells #[.string (mkB ma), .string (mkB mi), .string (mkB pa), .slice a1 n c1] 73)) B2.out; exact h.alloc h.size _
  have hs1 : Strs wC (.slice a1 n c1) pre := by rw [hwC]; exact ((ST1.out.below ((Bel.refl _ _).alloc (Nat.le_refl _) (.cells #[.string (mkB ma), .string (mkB mi), .string (mkB pa), .slice a1 n c1] 73))).below B2.out).below ((Bel.refl _ _).alloc (Nat.le_refl _) _)
  have hs2 : Strs wC (.slice a2 m c2) pre' := by rw [hwC]; exact ST2.out.below ((Bel.refl _ _).alloc (Nat.le_refl _) _)
  clear hwC B1 B2 ST1 ST2
  obtain ⟨g5, hg5⟩ : ∃ g, g = w1.heap.size := ⟨_, rfl⟩
  obtain ⟨g7, hg7⟩ : ∃ g, g = w2.heap.size := ⟨_, rfl⟩
  rw [← hg5] at r5 ⊢; rw [← hg7] at r7 ⊢
  clear hg5 hg7
  obtain ⟨x0, x1, x2, x3, _, _, _, _⟩ := row4 r5
  obtain ⟨y0, y1, y2, y3, _, _, _, _⟩ := row4 r7
  have TP : Hid (TwoPre w wC g5 g7 a1 a2 c1 c2 n m pre pre') := Lib.hid ⟨x3, y3, hs1, hs2, hb⟩
  clear r5 r7 hs1 hs2 hb
  by_cases a0 : A = 0
  · have ha : (A != 0) = false := by rw [a0]; rfl
    by_cases b0 : B = 0
    · have hb : (B != 0) = false := by rw [b0]; rfl
      by_cases c0 : C = 0
      · have hc : (C != 0) = false := by rw [c0]; rfl
        have hTT : T = preC pre pre' := by rw [HT.out]; simp [a0, b0, c0]
        have HTT := Lib.hid hTT
        clear a0 b0 c0 hTT HT
        go_wp2_with (go_at_call 50; refine (refcmp2_any _ _ _ (by first | exact L1.out | exact L2.out | exact L3.out) (by first | exact K1.out | exact K2.out | exact K3.out) (by rw [mkB_list]; first | exact P1.out | exact P2.out | exact P3.out) (by rw [mkB_list]; first | exact Q1.out | exact Q2.out | exact Q3.out)).mono ?_; rintro e w' ⟨rfl, rfl⟩; rw [mkB_list, mkB_list]; first | rw [HA.out] | rw [HB.out] | rw [HC.out])
        go_quiet (fail)
        clear x0 x1 x2 x3 y0 y1 y2 y3
        have TPq := Lib.hid (TP.out.drewN nq)
        obtain ⟨wq, hwq⟩ : ∃ wq, wq = wC.drewN nq := ⟨_, rfl⟩
        rw [← hwq] at TPq ⊢
        clear hwq TP ha hb hc
        have hn0 : pre = [] ↔ n = 0 := by rw [← HN.out]; exact List.length_eq_zero_iff.symm
        have hm0 : pre' = [] ↔ m = 0 := by rw [← HM.out]; exact List.length_eq_zero_iff.symm
        by_cases hn : n = 0
        · by_cases hm : m = 0
          · have hbn : ((n : Int) == 0) = true := by rw [hn]; rfl
            have hbm : ((m : Int) == 0) = true := by rw [hm]; rfl
            have hT : T = 0 := by
              rw [HTT.out]; unfold preC
              rw [if_pos (hn0.2 hn), if_pos (hm0.2 hm)]
            have HTF := Lib.hid hT
            clear hT hn hm hn0 hm0
            go_wp2
            go_ret
            exact ⟨ret_int HTF.out.symm, TPq.out.bl⟩
          · have hbn : ((n : Int) == 0) = true := by rw [hn]; rfl
            have hbm : ((m : Int) == 0) = false := by rw [beq_eq_false_iff_ne]; omega
            have hT : T = 1 := by
              rw [HTT.out]; unfold preC
              rw [if_pos (hn0.2 hn), if_neg (fun h => hm (hm0.1 h))]
            have HTF := Lib.hid hT
            clear hT hn hm hn0 hm0
            go_wp2
            go_ret
            exact ⟨ret_int HTF.out.symm, TPq.out.bl⟩
        · by_cases hm : m = 0
          · have hbn : ((n : Int) == 0) = false := by rw [beq_eq_false_iff_ne]; omega
            have hbm : ((m : Int) == 0) = true := by rw [hm]; rfl
            have hT : T = -1 := by
              rw [HTT.out]; unfold preC
              rw [if_neg (fun h => hn (hn0.1 h)), if_pos (hm0.2 hm)]
            have HTF := Lib.hid hT
            clear hT hn hm hn0 hm0
            go_wp2
            go_ret
            exact ⟨ret_int HTF.out.symm, TPq.out.bl⟩
          · have hbn : ((n : Int) == 0) = false := by rw [beq_eq_false_iff_ne]; omega
            have hbm : ((m : Int) == 0) = false := by rw [beq_eq_false_iff_ne]; omega
            have hT : lexI wordC pre pre' = T := by
              rw [HTT.out]; unfold preC
              rw [if_neg (fun h => hn (hn0.1 h)), if_neg (fun h => hm (hm0.1 h))]
            have HTF := Lib.hid hT
            clear hT hn hm hn0 hm0
            go_wp2
            go_loopw [14] (fun i wr => ∃ k : Nat, k ≤ n ∧ k ≤ m ∧ i = .int .i64 k ∧ Hid (lexI wordC (pre.drop k) (pre'.drop k) = T) ∧ Hid (TwoPre w wr g5 g7 a1 a2 c1 c2 n m pre pre')) (fun i _ => n - (intOf i).toNat)
            case atStart => exact ⟨0, Nat.zero_le _, Nat.zero_le _, rfl, Lib.hid (by rw [List.drop_zero, List.drop_zero]; exact HTF.out), TPq⟩
            case round =>
              obtain ⟨k, hkn, hkm, rfl, H, TR⟩ := hrel
              clear hbn hbm
              by_cases hln : k < n
              · by_cases hlm : k < m
                · have hln' : k < pre.length := by rw [HN.out]; exact hln
                  have hlm' : k < pre'.length := by rw [HM.out]; exact hlm
                  have x3 := TR.out.x5
                  have y3 := TR.out.x7
                  obtain ⟨ba, oa, rfl, _, hc1⟩ := strs_at TR.out.s1 k hln'
                  obtain ⟨bb, ob, rfl, _, hc2⟩ := strs_at TR.out.s2 k hlm'
                  have hst := lexI_step wordC pre pre' k hln' hlm'
                  have Z1 : Hid ((pre.getD k []).length ≤ 1000000000) := Lib.hid (L5.out _ (mem_getD hln'))
                  have Z2 : Hid ((pre'.getD k []).length ≤ 1000000000) := Lib.hid (K5.out _ (mem_getD hlm'))
                  obtain ⟨x, hx⟩ : ∃ x, pre.getD k [] = x := ⟨_, rfl⟩
                  obtain ⟨y, hy⟩ : ∃ y, pre'.getD k [] = y := ⟨_, rfl⟩
                  rw [hx] at hc1 Z1 hst; rw [hy] at hc2 Z2 hst
                  have hvv := wordC_vals x y
                  obtain ⟨z, hz⟩ : ∃ z, wordC x y = z := ⟨_, rfl⟩
                  rw [hz] at hst hvv
                  have HST := Lib.hid hst; have HZ := Lib.hid hz
                  have CW : Hid (∀ W, Calls Try.prog 51 #[.string (mkB x), .string (mkB y)] W fun e w' => e = .returned (.int .i64 z) ∧ ∃ n, w' = W.drewN n) := Lib.hid fun W => by rw [← HZ.out]; exact refwords_any x y W Z1.out Z2.out
                  clear hst hz hx hy hln' hlm'
                  obtain ⟨hv1, hv2⟩ := hvv
                  have j1 : (0 : Int) ≤ (k : Int) := by omega
                  have j2 : (k : Int) < (n : Int) := by omega
                  have j3 : (k : Int) < (m : Int) := by omega
                  by_cases z0 : z = 0
                  · have hb0 : (z != 0) = false := by simpa using z0
                    have Z0 := Lib.hid z0; clear z0
                    go_wp2
                    go_quiet ((go_at_call 51; exact Calls.quiet_of (CW.out _)))
                    go_wp2
                    go_roundw
                    case rel => exact ⟨k + 1, by omega, by omega, by go_num, Lib.hid (by rw [← H.out, HST.out, if_neg (by have := Z0.out; omega)]), Lib.hid (TR.out.drewN _)⟩
                    case measure => simp [intOf]; omega
                  · have hb0 : (z != 0) = true := by simpa using z0
                    have Z0 := Lib.hid z0; clear z0
                    go_wp2
                    go_quiet ((go_at_call 51; exact Calls.quiet_of (CW.out _)))
                    go_wp2
                    go_ret
                    exact ⟨ret_int (by rw [← H.out, HST.out, if_pos Z0.out]), (TR.out.drewN _).bl⟩
                · have hle := lexI_long wordC pre pre' k (by rw [HN.out]; exact hln) (by rw [HM.out]; omega)
                  have HE : Hid (T = 1) := Lib.hid (by rw [← H.out, hle])
                  have j4 : m < n := by omega
                  clear hle
                  go_wp2
                  go_ret
                  exact ⟨ret_int HE.out.symm, TR.out.bl⟩
              · have hle := lexI_end wordC pre pre' k (by rw [HN.out]; omega)
                by_cases hlm : k < m
                · have HE : Hid (T = -1) := Lib.hid (by rw [← H.out, hle, if_pos (by rw [HM.out]; exact hlm)])
                  have j4 : n < m := by omega
                  clear hle
                  go_wp2
                  go_ret
                  exact ⟨ret_int HE.out.symm, TR.out.bl⟩
                · have HE : Hid (T = 0) := Lib.hid (by rw [← H.out, hle, if_neg (by rw [HM.out]; exact hlm)])
                  have j4 : ¬ n < m := by omega
                  have j5 : ¬ m < n := by omega
                  clear hle
                  go_wp2
                  go_ret
                  exact ⟨ret_int HE.out.symm, TR.out.bl⟩
      · have hc : (C != 0) = true := by simpa using c0
        have hTT : T = C := by rw [HT.out]; simp [a0, b0, c0]
        have HTT := Lib.hid hTT
        clear a0 b0 c0 hTT HT
        go_wp2_with (go_at_call 50; refine (refcmp2_any _ _ _ (by first | exact L1.out | exact L2.out | exact L3.out) (by first | exact K1.out | exact K2.out | exact K3.out) (by rw [mkB_list]; first | exact P1.out | exact P2.out | exact P3.out) (by rw [mkB_list]; first | exact Q1.out | exact Q2.out | exact Q3.out)).mono ?_; rintro e w' ⟨rfl, rfl⟩; rw [mkB_list, mkB_list]; first | rw [HA.out] | rw [HB.out] | rw [HC.out])
        go_ret
        exact ⟨ret_int HTT.out.symm, TP.out.bl⟩
    · have hb : (B != 0) = true := by simpa using b0
      have hTT : T = B := by rw [HT.out]; simp [a0, b0]
      have HTT := Lib.hid hTT
      clear a0 b0 hTT HT
      go_wp2_with (go_at_call 50; refine (refcmp2_any _ _ _ (by first | exact L1.out | exact L2.out | exact L3.out) (by first | exact K1.out | exact K2.out | exact K3.out) (by rw [mkB_list]; first | exact P1.out | exact P2.out | exact P3.out) (by rw [mkB_list]; first | exact Q1.out | exact Q2.out | exact Q3.out)).mono ?_; rintro e w' ⟨rfl, rfl⟩; rw [mkB_list, mkB_list]; first | rw [HA.out] | rw [HB.out] | rw [HC.out])
      go_ret
      exact ⟨ret_int HTT.out.symm, TP.out.bl⟩
  · have ha : (A != 0) = true := by simpa using a0
    have hTT : T = A := by rw [HT.out]; simp [a0]
    have HTT := Lib.hid hTT
    clear a0 hTT HT
    go_wp2_with (go_at_call 50; refine (refcmp2_any _ _ _ (by first | exact L1.out | exact L2.out | exact L3.out) (by first | exact K1.out | exact K2.out | exact K3.out) (by rw [mkB_list]; first | exact P1.out | exact P2.out | exact P3.out) (by rw [mkB_list]; first | exact Q1.out | exact Q2.out | exact Q3.out)).mono ?_; rintro e w' ⟨rfl, rfl⟩; rw [mkB_list, mkB_list]; first | rw [HA.out] | rw [HB.out] | rw [HC.out])
    go_ret
    exact ⟨ret_int HTT.out.symm, TP.out.bl⟩
end Go.Proofs.Ytdefphacdcbljaa
