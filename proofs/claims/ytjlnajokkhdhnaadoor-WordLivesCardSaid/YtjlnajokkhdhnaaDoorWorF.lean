/- The contracts of word's walk, Live and Whole. -/
import Derived.Test.YtjlnajokkhdhnaaDoorWorE
import Derived.Test.YtjlnajokkhdhnaaDoorPatF
import Derived.Test.YtjlnajokkhdhnaaDoorVerI
namespace Go.Proofs.YtjlnajokkhdhnaaDoor
open Go.RowKit
set_option maxRecDepth 100000

def liveI (k : Int) : Nat → List UInt8 → Nat
  | _, [] => 0
  | a, c :: l => match stepI k a c.toNat with
    | none => 0
    | some b => liveI k b l + 1
def lastI (k : Int) : Nat → List UInt8 → Nat
  | a, [] => a
  | a, c :: l => match stepI k a c.toNat with
    | none => a
    | some b => lastI k b l
theorem liveI_none {k : Int} {a : Nat} {c : UInt8} (l : List UInt8) (h : stepI k a c.toNat = none) : liveI k a (c :: l) = 0 ∧ lastI k a (c :: l) = a := by
  rw [liveI, lastI, h]; exact ⟨rfl, rfl⟩
theorem liveI_some {k : Int} {a b : Nat} {c : UInt8} (l : List UInt8) (h : stepI k a c.toNat = some b) : liveI k a (c :: l) = liveI k b l + 1 ∧ lastI k a (c :: l) = lastI k b l := by
  rw [liveI, lastI, h]; exact ⟨rfl, rfl⟩
theorem live_le (k : Int) : ∀ (l : List UInt8) (a : Nat), liveI k a l ≤ l.length
  | [], _ => by simp [liveI]
  | c :: l, a => by
    cases h : stepI k a c.toNat with
    | none => rw [(liveI_none l h).1]; omega
    | some b => rw [(liveI_some l h).1, List.length_cons]; have := live_le k l b; omega

set_option maxHeartbeats 1600000 in
theorem walk_any (k : Int) (s : ByteArray) (w : World) (hs : s.size ≤ 1000000000) :
    Calls Tryd.prog 21 #[.int .i64 k, .string s] w fun e w' => e = .returned (.tuple #[.int .i64 (lastI k 0 s.data.toList : Nat), .int .i64 (liveI k 0 s.data.toList : Nat)]) ∧ Below w.heap.size w w' := by
  have HZ := Lib.hid (Lib.size_eq s)
  have B0 := Below.refl w.heap.size w
  go_enter Tryd.func21, Tryd.ntmps21
  go_wp2
  go_loopw [6, 12] (fun t i wr => ∃ a j : Nat, j ≤ s.size ∧ t = .int .i64 (a : Int) ∧ i = .int .i64 (j : Int) ∧ Hid (liveI k a (s.data.toList.drop j) + j = liveI k 0 s.data.toList ∧ lastI k a (s.data.toList.drop j) = lastI k 0 s.data.toList) ∧ Below w.heap.size w wr) (fun _ i _ => s.size - (intOf i).toNat)
  case atStart => exact ⟨0, 0, Nat.zero_le _, rfl, rfl, Lib.hid ⟨by simp, by simp⟩, B0⟩
  case round =>
    obtain ⟨a, j, hj, rfl, rfl, H, hbel⟩ := hrel
    by_cases hlt : j < s.size
    · have hc8 : s[j].toNat < 256 := UInt8.toNat_lt _
      cases ho : stepI k a s[j].toNat with
      | none =>
        have h1 := liveI_none (s.data.toList.drop (j + 1)) ho
        rw [← drop_at s j hlt] at h1
        have HO := Lib.hid ho; have H1 := Lib.hid h1; clear ho h1
        go_wp2_with (go_at_call 17; refine (step_any k a _ hc8 _).mono ?_; rintro e w1 ⟨rfl, hb1⟩; rw [HO.out]; have B := below_step hbel hb1; clear hb1; unfold stepE)
        go_ret2
        have hl := H.out.1; have hla := H.out.2; rw [H1.out.1] at hl; rw [H1.out.2] at hla
        exact ⟨by rw [← hl, ← hla]; simp, B⟩
      | some b =>
        have h1 := liveI_some (s.data.toList.drop (j + 1)) ho
        rw [← drop_at s j hlt] at h1
        have HO := Lib.hid ho; have H1 := Lib.hid h1; clear ho h1
        go_wp2_with (go_at_call 17; refine (step_any k a _ hc8 _).mono ?_; rintro e w1 ⟨rfl, hb1⟩; rw [HO.out]; have B := below_step hbel hb1; clear hb1; unfold stepE)
        go_roundw
        case rel =>
          have hl := H.out.1; have hla := H.out.2; rw [H1.out.1] at hl; rw [H1.out.2] at hla
          exact ⟨b, j + 1, by omega, rfl, by go_num, Lib.hid ⟨by omega, hla⟩, B⟩
        case measure => simp [intOf]; omega
    · have hje : s.data.toList.drop j = [] := drop_end s j (by omega)
      have hl := H.out.1; have hla := H.out.2
      rw [hje] at hl hla
      have HL := Lib.hid hl; have HLA := Lib.hid hla
      clear hl hla hje
      go_wp2
      go_ret2
      have hl := HL.out; have hla := HLA.out
      simp only [liveI, lastI] at hl hla
      have e1 : liveI k 0 s.data.toList = s.size := by omega
      exact ⟨by rw [e1, ← hla]; rfl, hbel⟩

theorem live_nat (k : Nat) (hk : k < 3) : ∀ (l : List UInt8) (a : Nat), inK k a → liveI (k : Int) a l = liveN k a l ∧ lastI (k : Int) a l = lastN k a l
  | [], _, _ => ⟨rfl, rfl⟩
  | c :: l, a, h => by
    have e := stepI_nat k a c.toNat hk h.1
    rw [liveI, lastI, liveN, lastN, e]
    cases hs : stepO k a c.toNat with
    | none => exact ⟨rfl, rfl⟩
    | some b =>
      obtain ⟨h1, h2⟩ := live_nat k hk l b (inK_step hk h hs)
      exact ⟨by simp only [h1], h2⟩
/-- How much of a text lives, of whatever kind. -/
def liveZ (k : Int) (l : List UInt8) : Int := if 0 ≤ k ∧ k < 3 then (liveN k.toNat 0 l : Int) else -1
def wholeZ (k : Int) (l : List UInt8) : Bool := if 0 ≤ k ∧ k < 3 then wholeO k.toNat l else false
theorem tagI_zero {k : Int} (h : 0 ≤ k ∧ k < 3) : ∃ t, tagI k 0 = some t := by
  obtain ⟨k', rfl⟩ : ∃ k' : Nat, k = k' := ⟨k.toNat, by omega⟩
  have := (inK_zero (k := k') (by omega)).2
  obtain ⟨t, ht⟩ := Option.isSome_iff_exists.1 this
  exact ⟨t, by rw [← ht]; exact tagI_nat k' 0 (by omega) (by omega)⟩
theorem tagI_kind {k : Int} (h : ¬ (0 ≤ k ∧ k < 3)) (a : Int) : tagI k a = none := tagI_no (by omega)

set_option maxHeartbeats 800000 in
theorem live_any (k : Int) (s : ByteArray) (w : World) (hs : s.size ≤ 1000000000) :
    Calls Tryd.prog 10 #[.int .i64 k, .string s] w fun e w' => e = .returned (.int .i64 (liveZ k s.data.toList)) ∧ Below w.heap.size w w' := by
  by_cases hk : 0 ≤ k ∧ k < 3
  · obtain ⟨t, ht⟩ := tagI_zero hk
    obtain ⟨v, hv⟩ : ∃ v, tagV (some t) = .func (.func v) #[] #[] := ⟨_, rfl⟩
    have hq := tag_eql t
    rw [hv] at hq
    have E : liveZ k s.data.toList = (liveI k 0 s.data.toList : Nat) := by
      unfold liveZ; rw [if_pos hk]
      obtain ⟨k', rfl⟩ : ∃ k' : Nat, k = k' := ⟨k.toNat, by omega⟩
      rw [(live_nat k' (by omega) s.data.toList 0 (inK_zero (by omega))).1]; rfl
    have HT := Lib.hid ht; have HV := Lib.hid hv; have HE := Lib.hid E
    clear ht hv E
    go_enter Tryd.func10, Tryd.ntmps10
    go_wp2_with (first
      | (go_at_call 20; refine (find_any _ _ _).mono ?_; rintro e w1 ⟨rfl, hb1⟩; rw [HT.out, HV.out]; have B := Lib.hid hb1; clear hb1)
      | (go_at_call 21; refine (walk_any _ _ _ hs).mono ?_; rintro e w2 ⟨rfl, hb2⟩; have B2 := Lib.hid (below_step B.out hb2); clear hb2))
    go_ret
    exact ⟨by rw [HE.out]; rfl, B2.out⟩
  · have E : liveZ k s.data.toList = -1 := by unfold liveZ; rw [if_neg hk]
    have ht := tagI_kind hk 0
    have hq := nil_eql
    have HE := Lib.hid E; have HT := Lib.hid ht
    clear E ht
    go_enter Tryd.func10, Tryd.ntmps10
    go_wp2_with (go_at_call 20; refine (find_any _ _ _).mono ?_; rintro e w1 ⟨rfl, hb1⟩; rw [HT.out]; unfold tagV)
    go_ret
    exact ⟨by rw [HE.out]; rfl, hb1⟩

theorem run_last (k : Nat) : ∀ (l : List UInt8) (a : Nat), (liveN k a l = l.length → runO k a l = some (lastN k a l)) ∧ (liveN k a l ≠ l.length → runO k a l = none) ∧ liveN k a l ≤ l.length
  | [], a => ⟨fun _ => rfl, fun h => absurd rfl h, Nat.le_refl _⟩
  | c :: l, a => by
    rw [liveN, lastN, runO]
    cases hs : stepO k a c.toNat with
    | none => exact ⟨fun h => by simp at h, fun _ => rfl, by simp⟩
    | some b =>
      obtain ⟨h1, h2, h3⟩ := run_last k l b
      simp only [List.length_cons]
      exact ⟨fun h => h1 (by omega), fun h => h2 (by omega), by omega⟩
theorem inK_last {k : Nat} (hk : k < 3) : ∀ (l : List UInt8) {a : Nat}, inK k a → inK k (lastN k a l)
  | [], a, h => h
  | c :: l, a, h => by
    rw [lastN]
    cases hs : stepO k a c.toNat with
    | none => exact h
    | some b => exact inK_last hk l (inK_step hk h hs)
theorem whole_walk {k : Nat} (hk : k < 3) (l : List UInt8) : wholeO k l = (decide (liveN k 0 l = l.length) && endsO k (lastN k 0 l)) := by
  obtain ⟨h1, h2, _⟩ := run_last k l 0
  rw [whole_acc k hk]; unfold accO
  by_cases h : liveN k 0 l = l.length
  · rw [h1 h, decide_eq_true h]; rfl
  · rw [h2 h, decide_eq_false h]; rfl

set_option maxHeartbeats 800000 in
theorem whole_any (k : Int) (s : ByteArray) (w : World) (hs : s.size ≤ 1000000000) (hR : RestIs w) :
    Calls Tryd.prog 11 #[.int .i64 k, .string s] w fun e w' => e = .returned (.bool (wholeZ k s.data.toList)) ∧ Below w.heap.size w w' := by
  by_cases h0 : k = 0
  · subst h0
    have HE := Lib.hid (show wholeZ 0 s.data.toList = pathB s.data.toList from rfl)
    go_enter Tryd.func11, Tryd.ntmps11
    go_wp2_with (go_at_call 22; refine (pmay_any _ _ hs).mono ?_; rintro e w1 ⟨rfl, hb1⟩)
    go_ret
    exact ⟨by rw [HE.out]; rfl, hb1⟩
  by_cases h1 : k = 1
  · subst h1
    have HE := Lib.hid (show wholeZ 1 s.data.toList = okV s.data.toList from rfl)
    go_enter Tryd.func11, Tryd.ntmps11
    go_wp2_with (go_at_call 23; refine (vmay_any _ _ hs).mono ?_; rintro e w1 ⟨rfl, hb1⟩)
    go_ret
    exact ⟨by rw [HE.out]; rfl, hb1⟩
  have hE : wholeZ k s.data.toList = (decide (liveI k 0 s.data.toList = s.size) && endsI k (lastI k 0 s.data.toList : Nat)) := by
    rw [Lib.size_eq]
    unfold wholeZ
    by_cases hk : 0 ≤ k ∧ k < 3
    · obtain ⟨k', rfl⟩ : ∃ k' : Nat, k = k' := ⟨k.toNat, by omega⟩
      rw [if_pos hk]
      obtain ⟨e1, e2⟩ := live_nat k' (by omega) s.data.toList 0 (inK_zero (by omega))
      have hi := inK_last (k := k') (by omega) s.data.toList (inK_zero (by omega))
      rw [e1, e2, endsI_nat k' _ (by omega) hi.1, ← whole_walk (by omega)]; rfl
    · rw [if_neg hk]
      have : endsI k (lastI k 0 s.data.toList : Nat) = false := by unfold endsI; rw [tagI_kind hk]
      rw [this, Bool.and_false]
  have hle := live_le k s.data.toList 0
  have HZ := Lib.hid (Lib.size_eq s)
  obtain ⟨n, hn⟩ : ∃ n, liveI k 0 s.data.toList = n := ⟨_, rfl⟩
  obtain ⟨a, ha⟩ : ∃ a, lastI k 0 s.data.toList = a := ⟨_, rfl⟩
  obtain ⟨b, hb⟩ : ∃ b, endsI k (a : Nat) = b := ⟨_, rfl⟩
  rw [hn, ha, hb] at hE
  rw [hn] at hle
  have HE := Lib.hid hE; have HN := Lib.hid hn; have HA := Lib.hid ha; have HB := Lib.hid hb
  clear hE hn ha hb hle
  by_cases hq : n = s.size
  · have hq' : (n : Int) = s.size := by omega
    have HQ := Lib.hid hq
    go_enter Tryd.func11, Tryd.ntmps11
    go_wp2_with (first
      | (go_at_call 21; refine (walk_any _ _ _ hs).mono ?_; rintro e w1 ⟨rfl, hb1⟩; rw [HN.out, HA.out])
      | (go_at_call 16; refine (ends_any _ _ _ (hR.below hb1)).mono ?_; rintro e w2 ⟨rfl, hb2⟩; rw [HB.out]; have B2 := below_step hb1 hb2))
    go_ret
    exact ⟨by rw [HE.out, decide_eq_true HQ.out]; rfl, B2⟩
  · have hq' : ¬ (n : Int) = s.size := by omega
    have HQ := Lib.hid hq
    go_enter Tryd.func11, Tryd.ntmps11
    go_wp2_with (go_at_call 21; refine (walk_any _ _ _ hs).mono ?_; rintro e w1 ⟨rfl, hb1⟩; rw [HN.out, HA.out])
    go_ret
    exact ⟨by rw [HE.out, decide_eq_false HQ.out]; rfl, hb1⟩
end Go.Proofs.YtjlnajokkhdhnaaDoor
