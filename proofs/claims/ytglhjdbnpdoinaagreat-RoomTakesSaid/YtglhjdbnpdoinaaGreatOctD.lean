/- THE TEXTS OF OctC OctB OctD: Common beginnings and the order of two texts, of the program and of the document. The document's own class of an octet is the table's. Is an octet of one of some classes; are all of a text: of the program and of the document. -/
import Derived.Test.YtglhjdbnpdoinaaGreatOctA
import Derived.Lib.Bytealg
import Derived.Deep.QuietTactic
import Derived.BigQuiet
namespace Go.Proofs.YtglhjdbnpdoinaaGreat
open Go.RowKit
set_option maxRecDepth 100000

theorem drop_at (a : ByteArray) (k : Nat) (h : k < a.size) : a.data.toList.drop k = a[k] :: a.data.toList.drop (k + 1) := by
  rw [List.drop_eq_getElem_cons (by simpa using h)]; rfl
theorem drop_end (a : ByteArray) (k : Nat) (h : a.size ≤ k) : a.data.toList.drop k = [] := List.drop_eq_nil_of_le (by simpa using h)
theorem u8_ne_iff (x y : UInt8) : (x = y) ↔ ((x.toNat : Int) = (y.toNat : Int)) := by rw [← UInt8.toNat_inj]; omega
theorem u8_lt_iff (x y : UInt8) : (x < y) ↔ (x.toNat < y.toNat) := UInt8.lt_iff_toNat_lt

theorem drew2 (w : World) (n m : Nat) : ∃ q, (w.drewN n).drewN m = w.drewN q := ⟨n + m, World.drewN_drewN _ _ _⟩

/-- How many octets two lists begin with together. -/
def comL : List UInt8 → List UInt8 → Nat
  | x :: xs, y :: ys => if x = y then comL xs ys + 1 else 0
  | _, _ => 0

set_option maxHeartbeats 400000 in
theorem cmpstring_any (a b : ByteArray) (w : World) :
    Calls Tryz.prog 99 #[.string a, .string b] w fun e w' => e = .returned (.int .i64 (Lib.compareBytes a.data.toList b.data.toList)) ∧ w = w' := by
  go_enter Tryz.func99, Tryz.ntmps99
  go_wp2
  rw [run_callFunc_extern Tryz.func120 (by kernel_rfl) (by kernel_rfl) (by kernel_rfl) (e := Extern.BytealgCompare.compare) (by kernel_rfl), Lib.run_compareString]
  simp only [Result.andThen]
  rw [Oper.upon_value]
  go_wp2
  go_ret
  exact ⟨rfl, rfl⟩

set_option maxHeartbeats 400000 in
theorem strcmp_any (a b : ByteArray) (w : World) :
    Calls Tryz.prog 88 #[.string a, .string b] w fun e w' => e = .returned (.int .i64 (Lib.compareBytes a.data.toList b.data.toList)) ∧ w = w' := by
  go_enter Tryz.func88, Tryz.ntmps88
  go_wp2_with (go_at_call 99; refine (cmpstring_any _ _ _).mono ?_; rintro e w' ⟨rfl, rfl⟩)
  go_ret
  exact ⟨rfl, rfl⟩

set_option maxHeartbeats 400000 in
theorem cmp_any (a b : ByteArray) (w : World) :
    Calls Tryz.prog 76 #[.string a, .string b] w fun e w' => e = .returned (.int .i64 (Lib.compareBytes a.data.toList b.data.toList)) ∧ w = w' := by
  go_enter Tryz.func76, Tryz.ntmps76
  go_wp2_with (go_at_call 88; refine (strcmp_any _ _ _).mono ?_; rintro e w' ⟨rfl, rfl⟩)
  go_ret
  exact ⟨rfl, rfl⟩

theorem comL_step (a b : ByteArray) (k : Nat) (ha : k < a.size) (hb : k < b.size) (he : (a[k].toNat : Int) = b[k].toNat) :
    comL (a.data.toList.drop k) (b.data.toList.drop k) = comL (a.data.toList.drop (k + 1)) (b.data.toList.drop (k + 1)) + 1 := by
  rw [drop_at a k ha, drop_at b k hb, comL, if_pos ((u8_ne_iff _ _).2 he)]
theorem comL_stop (a b : ByteArray) (k : Nat) (ha : k < a.size) (hb : k < b.size) (he : ¬ (a[k].toNat : Int) = b[k].toNat) :
    comL (a.data.toList.drop k) (b.data.toList.drop k) = 0 := by
  rw [drop_at a k ha, drop_at b k hb, comL, if_neg (fun h => he ((u8_ne_iff _ _).1 h))]
theorem comL_end (a b : ByteArray) (k : Nat) (h : a.size ≤ k ∨ b.size ≤ k) : comL (a.data.toList.drop k) (b.data.toList.drop k) = 0 := by
  rcases h with h | h
  · rw [drop_end a k h]; simp [comL]
  · rw [drop_end b k h]; cases List.drop k a.data.toList <;> simp [comL]

theorem cmpB_lt (a b : ByteArray) (k : Nat) (ha : k < a.size) (hb : k < b.size) (he : a[k].toNat < b[k].toNat) :
    Lib.compareBytes (a.data.toList.drop k) (b.data.toList.drop k) = -1 := by
  rw [drop_at a k ha, drop_at b k hb, Lib.compareBytes, if_pos ((u8_lt_iff _ _).2 he)]
theorem cmpB_gt (a b : ByteArray) (k : Nat) (ha : k < a.size) (hb : k < b.size) (he : b[k].toNat < a[k].toNat) :
    Lib.compareBytes (a.data.toList.drop k) (b.data.toList.drop k) = 1 := by
  rw [drop_at a k ha, drop_at b k hb, Lib.compareBytes, if_neg (fun h => by have := (u8_lt_iff _ _).1 h; omega), if_pos ((u8_lt_iff _ _).2 he)]
theorem cmpB_eq (a b : ByteArray) (k : Nat) (ha : k < a.size) (hb : k < b.size) (h1 : ¬ a[k].toNat < b[k].toNat) (h2 : ¬ b[k].toNat < a[k].toNat) :
    Lib.compareBytes (a.data.toList.drop k) (b.data.toList.drop k) = Lib.compareBytes (a.data.toList.drop (k + 1)) (b.data.toList.drop (k + 1)) := by
  rw [drop_at a k ha, drop_at b k hb, Lib.compareBytes, if_neg (fun h => h1 ((u8_lt_iff _ _).1 h)), if_neg (fun h => h2 ((u8_lt_iff _ _).1 h))]
theorem cmpB_end (a b : ByteArray) (k : Nat) (ha : k ≤ a.size) (_hb : k ≤ b.size) (h : a.size ≤ k ∨ b.size ≤ k) :
    Lib.compareBytes (a.data.toList.drop k) (b.data.toList.drop k) = if a.size < b.size then -1 else if b.size < a.size then 1 else 0 := by
  rcases Nat.lt_or_ge k a.size with h1 | h1
  · rw [drop_at a k h1, drop_end b k (by omega), Lib.compareBytes, if_neg (by omega), if_pos (by omega)]
  · rw [drop_end a k h1]
    rcases Nat.lt_or_ge k b.size with h2 | h2
    · rw [drop_at b k h2, Lib.compareBytes, if_pos (by omega)]
    · rw [drop_end b k h2, Lib.compareBytes, if_neg (by omega), if_neg (by omega)]

set_option maxHeartbeats 400000 in
theorem refcmp_any (a b : ByteArray) (w : World) (ha : a.size ≤ maxLen) (_hb : b.size ≤ maxLen) :
    Calls Tryz.prog 63 #[.string a, .string b] w fun e w' => e = .returned (.int .i64 (Lib.compareBytes a.data.toList b.data.toList)) ∧ ∃ n, w' = w.drewN n := by
  unfold maxLen at ha
  go_enter Tryz.func63, Tryz.ntmps63
  go_wp2
  go_loopw [5] (fun i wr => ∃ k : Nat, k ≤ a.size ∧ k ≤ b.size ∧ i = .int .i64 k ∧ Hid (Lib.compareBytes (a.data.toList.drop k) (b.data.toList.drop k) = Lib.compareBytes a.data.toList b.data.toList) ∧ ∃ n, wr = w.drewN n) (fun i _ => a.size - (intOf i).toNat)
  case atStart => exact ⟨0, Nat.zero_le _, Nat.zero_le _, rfl, Lib.hid (by simp), 0, rfl⟩
  case round =>
    obtain ⟨k, hk1, hk2, rfl, H, n, rfl⟩ := hrel
    by_cases hla : k < a.size
    · by_cases hlb : k < b.size
      · go_wp2
        go_quiet (fail)
        go_wp2
        · go_ret
          have h1 : a[k].toNat < b[k].toNat := by assumption
          exact ⟨ret_int (by rw [← H.out, cmpB_lt a b k hla hlb h1]), drew2 _ _ _⟩
        · go_quiet (fail)
          go_wp2
          · go_ret
            have h1 : b[k].toNat < a[k].toNat := by assumption
            exact ⟨ret_int (by rw [← H.out, cmpB_gt a b k hla hlb h1]), by simp only [World.drewN_drewN]; exact ⟨_, rfl⟩⟩
          · have h1 : ¬ a[k].toNat < b[k].toNat := by assumption
            have h2 : ¬ b[k].toNat < a[k].toNat := by assumption
            have hc := cmpB_eq a b k hla hlb h1 h2
            have h0 := H.out
            rw [hc] at h0
            have H0 := Lib.hid h0
            clear h0 hc
            go_roundw
            case rel => exact ⟨k + 1, by omega, by omega, by go_num, H0, _, rfl⟩
            case measure => simp [intOf]; omega
      · have hc := cmpB_end a b k hk1 hk2 (by omega)
        rw [if_neg (by omega), if_pos (by omega)] at hc
        have HC := Lib.hid hc; clear hc
        go_wp2
        go_ret
        exact ⟨ret_int (by rw [← H.out, HC.out]), _, rfl⟩
    · have hc := cmpB_end a b k hk1 hk2 (by omega)
      have HC := Lib.hid hc; clear hc
      go_wp2
      · go_ret
        have h1 : a.size < b.size := by assumption
        exact ⟨ret_int (by rw [← H.out, HC.out, if_pos h1]), _, rfl⟩
      · go_ret
        have h1 : ¬ a.size < b.size := by assumption
        exact ⟨ret_int (by rw [← H.out, HC.out, if_neg h1, if_neg (by omega)]), _, rfl⟩
end Go.Proofs.YtglhjdbnpdoinaaGreat

namespace Go.Proofs.YtglhjdbnpdoinaaGreat
open Go.RowKit
set_option maxRecDepth 100000

/-- The document's own class, as the tests of its text have it. -/
def refcls (c : Int) : Int :=
  if 48 ≤ c ∧ c ≤ 57 then 1 else if (65 ≤ c ∧ c ≤ 90) ∨ (97 ≤ c ∧ c ≤ 122) then 2 else if c = 45 ∨ c = 46 ∨ c = 95 ∨ c = 126 then 3
  else if c = 47 then 4 else if c = 32 ∨ c = 9 then 5 else if c = 10 then 6 else if c = 34 then 7 else if c = 40 then 8 else if c = 41 then 9 else 0

theorem refcls_eq (c : Int) (h0 : 0 ≤ c) (h1 : c < 256) : refcls c = clsI c := by
  have h : ∀ n : Fin 256, refcls (n.1 : Int) = clsI (n.1 : Int) := by decide +kernel
  have := h ⟨c.toNat, by omega⟩
  rwa [show ((c.toNat : Nat) : Int) = c from by omega] at this

set_option maxHeartbeats 1000000 in
theorem refclass_any (c : Int) (h0 : 0 ≤ c) (h1 : c < 256) (w : World) :
    Calls Tryz.prog 67 #[.int .u8 c] w fun e w' => e = .returned (.int .i64 (clsI c)) ∧ w = w' := by
  rw [← refcls_eq c h0 h1]
  go_enter Tryz.func67, Tryz.ntmps67
  go_wp2
  all_goals
    go_ret
    refine ⟨ret_int ?_, rfl⟩
    try simp only [beq_iff_eq, beq_eq_false_iff_ne, ne_eq] at *
    first | (decide; done) | (unfold refcls; repeat (first | omega | split))
end Go.Proofs.YtglhjdbnpdoinaaGreat

namespace Go.Proofs.YtglhjdbnpdoinaaGreat
open Go.RowKit
set_option maxRecDepth 100000

/-- A slice of numbers, in memory: nil, empty, or cells that hold them. -/
structure Ints (w : World) (v : Value) (zs : List Int) : Prop where
  ex : ∃ a c, v = .slice a zs.length c ∧ zs.length ≤ c ∧ c ≤ maxLen ∧ (a = none → c = 0) ∧ (0 < zs.length → ∃ b off, a = some ⟨b, off, none⟩ ∧ b < w.heap.size ∧ ∀ j, j < zs.length → w.cell? ⟨b, off + j, none⟩ = some (.int .i64 (zs.getD j 0)))

theorem Ints.below {w w' : World} {v : Value} {zs : List Int} (h : Ints w v zs) (hb : Bel w.heap.size w w') : Ints w' v zs := by
  obtain ⟨a, c, hv, h1, h2, hn, h3⟩ := h.ex
  refine ⟨a, c, hv, h1, h2, hn, fun hp => ?_⟩
  obtain ⟨b, off, ha, hlt, hc⟩ := h3 hp
  exact ⟨b, off, ha, Nat.lt_of_lt_of_le hlt hb.size, fun j hj => by rw [hb.cell (by exact hlt)]; exact hc j hj⟩
theorem Ints.drewN {w : World} {v : Value} {zs : List Int} (n : Nat) (h : Ints w v zs) : Ints (w.drewN n) v zs := by
  obtain ⟨a, c, hv, h1, h2, hn, h3⟩ := h.ex
  refine ⟨a, c, hv, h1, h2, hn, fun hp => ?_⟩
  obtain ⟨b, off, ha, hlt, hc⟩ := h3 hp
  exact ⟨b, off, ha, by simpa using hlt, fun j hj => by have := hc j hj; simpa using this⟩

def hasB (zs : List Int) (x : Int) : Bool := decide (x ∈ zs)

theorem hasB_drop (zs : List Int) (k : Nat) (x : Int) (h : k < zs.length) : hasB (zs.drop k) x = (decide (zs.getD k 0 = x) || hasB (zs.drop (k + 1)) x) := by
  unfold hasB
  have e : zs.getD k 0 = zs[k] := by simp [List.getD_eq_getElem?_getD, List.getElem?_eq_getElem h]
  rw [e, List.drop_eq_getElem_cons h]
  simp only [List.mem_cons]
  by_cases hx : zs[k] = x
  · simp [hx]
  · have hx' : ¬ x = zs[k] := fun e => hx e.symm
    simp only [hx, hx', false_or, decide_false, Bool.false_or]
theorem hasB_end (zs : List Int) (k : Nat) (x : Int) (h : zs.length ≤ k) : hasB (zs.drop k) x = false := by
  unfold hasB; rw [List.drop_eq_nil_of_le h]; simp

set_option maxHeartbeats 400000 in
theorem index_any (v : Value) (zs : List Int) (x : Int) (w : World) (h : Ints w v zs) :
    Calls Tryz.prog 142 #[v, .int .i64 x] w fun e w' => (∃ i : Int, e = .returned (.int .i64 i) ∧ decide (0 ≤ i) = hasB zs x) ∧ w = w' := by
  obtain ⟨a, c, rfl, h1, h2, _, h3⟩ := h.ex
  clear h
  unfold maxLen at h2
  have H3 := Lib.hid h3; clear h3
  go_enter Tryz.func142, Tryz.ntmps142
  go_wp2
  go_loop [8] (fun i => ∃ k : Nat, k ≤ zs.length ∧ i = .int .i64 k ∧ Hid (hasB (zs.drop k) x = hasB zs x)) (fun i => zs.length - (intOf i).toNat)
  case atStart => exact ⟨0, Nat.zero_le _, rfl, Lib.hid (by simp)⟩
  case round =>
    obtain ⟨k, hk, rfl, H⟩ := hrel
    by_cases hlt : k < zs.length
    · obtain ⟨b, off, rfl, _, hc⟩ := H3.out (by omega)
      have hcell := hc k hlt
      clear hc
      obtain ⟨y, hy⟩ : ∃ y, y = zs.getD k 0 := ⟨_, rfl⟩
      rw [← hy] at hcell
      have HY := Lib.hid hy; clear hy
      have hd := hasB_drop zs k x hlt
      rw [← HY.out] at hd
      have HD := Lib.hid hd; clear hd
      by_cases hyx : y = x
      · have hb : (x == y) = true := by simpa using hyx.symm
        have HE := Lib.hid hyx; clear hyx
        go_wp2
        go_ret
        exact ⟨⟨k, rfl, by rw [← H.out, HD.out]; simp [HE.out]⟩, rfl⟩
      · have hb : (x == y) = false := by simp; exact fun e => hyx e.symm
        have h5 : hasB (zs.drop (k + 1)) x = hasB zs x := by rw [← H.out, HD.out]; simp [hyx]
        have H5 := Lib.hid h5; clear h5 HD HY hyx
        go_wp2
        go_round
        case rel => exact ⟨k + 1, by omega, by go_num, H5⟩
        case measure => simp [intOf]; omega
    · go_wp2
      go_ret
      exact ⟨⟨-1, rfl, by rw [← H.out, hasB_end zs k x (by omega)]; rfl⟩, rfl⟩

set_option maxHeartbeats 400000 in
theorem contains_any (v : Value) (zs : List Int) (x : Int) (w : World) (h : Ints w v zs) :
    Calls Tryz.prog 133 #[v, .int .i64 x] w fun e w' => e = .returned (.bool (hasB zs x)) ∧ w = w' := by
  go_enter Tryz.func133, Tryz.ntmps133
  go_wp2_with (go_at_call 142; refine (index_any _ _ _ _ h).mono ?_; rintro e w' ⟨⟨i, rfl, hi⟩, rfl⟩)
  go_ret
  exact ⟨rfl, rfl⟩

set_option maxHeartbeats 400000 in
theorem in_any (c : Int) (h0 : 0 ≤ c) (h1 : c < 256) (v : Value) (zs : List Int) (w : World) (h : Ints w v zs) :
    Calls Tryz.prog 123 #[.int .u8 c, v] w fun e w' => e = .returned (.bool (hasB zs (clsI c))) ∧ Bel w.heap.size w w' := by
  go_enter Tryz.func123, Tryz.ntmps123
  go_wp2_with (first
    | (go_at_call 134; refine (class_any c h0 h1 _).mono ?_; rintro e w1 ⟨rfl, hb1⟩)
    | (go_at_call 133; refine (contains_any _ zs _ _ (h.below (by assumption))).mono ?_; rintro e w2 ⟨rfl, rfl⟩))
  go_ret
  exact ⟨rfl, by assumption⟩
end Go.Proofs.YtglhjdbnpdoinaaGreat
