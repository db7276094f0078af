/- The contracts of word's Ends and Rest. -/
import Derived.Test.YtjlnajokkhdhnaaDoorWorC
import Derived.Test.YtjlnajokkhdhnaaDoorWorD
namespace Go.Proofs.YtjlnajokkhdhnaaDoor
open Go.RowKit
set_option maxRecDepth 100000

def restI (k a : Int) : List UInt8 := match tagI k a with
  | none => []
  | some _ => restO k.toNat a.toNat
def endsI (k a : Int) : Bool := match tagI k a with
  | none => false
  | some _ => decide (restO k.toNat a.toNat = [])
theorem mkB_empty (l : List UInt8) : decide (mkB l = ByteArray.empty) = decide (l = []) := by
  rw [show ByteArray.empty = mkB [] from rfl, decide_eq_decide]
  exact ⟨mkB_inj, fun h => by rw [h]⟩
theorem nil_eql (w : World) : Sem.run Tryd.prog (binOp .eql 36 .nilFunc .nilFunc) w = .ok (.bool true) w := by kernel_rfl
theorem nil_neq (w : World) : Sem.run Tryd.prog (binOp .neq 36 .nilFunc .nilFunc) w = .ok (.bool false) w := by kernel_rfl
theorem tag_eql (t : Tag) (w : World) : Sem.run Tryd.prog (binOp .eql 36 (tagV (some t)) .nilFunc) w = .ok (.bool false) w := by cases t <;> kernel_rfl
theorem tag_neq (t : Tag) (w : World) : Sem.run Tryd.prog (binOp .neq 36 (tagV (some t)) .nilFunc) w = .ok (.bool true) w := by cases t <;> kernel_rfl

set_option maxHeartbeats 800000 in
theorem rest_any (k a : Int) (w : World) (hR : RestIs w) :
    Calls Tryd.prog 15 #[.int .i64 k, .int .i64 a] w fun e w' => e = .returned (.string (mkB (restI k a))) ∧ Below w.heap.size w w' := by
  cases ht : tagI k a with
  | none =>
    have E : restI k a = [] := by unfold restI; rw [ht]
    have hq := nil_eql
    go_enter Tryd.func15, Tryd.ntmps15
    go_wp2_with (go_at_call 20; refine (find_any k a _).mono ?_; rintro e w1 ⟨rfl, hb1⟩; rw [ht]; unfold tagV)
    go_ret
    exact ⟨by rw [E]; rfl, hb1⟩
  | some t =>
    obtain ⟨k', a', rfl, rfl, hk, ha, hn⟩ := tagI_bd ht
    have E : restI k' a' = restO k' a' := by unfold restI; rw [ht]; rfl
    obtain ⟨v, hv⟩ : ∃ v, tagV (some t) = .func (.func v) #[] #[] := ⟨_, rfl⟩
    have hq := tag_eql t
    rw [hv] at hq
    have HT := Lib.hid ht; have HV := Lib.hid hv; have HE := Lib.hid E
    clear ht hv E hn
    go_enter Tryd.func15, Tryd.ntmps15
    go_wp2_with (go_at_call 20; refine (find_any _ _ _).mono ?_; rintro e w1 ⟨rfl, hb1⟩; rw [HT.out, HV.out]; have hc := (hR.below hb1).cell k' a' hk ha)
    go_ret
    exact ⟨by rw [HE.out]; rfl, hb1⟩

set_option maxHeartbeats 800000 in
theorem ends_any (k a : Int) (w : World) (hR : RestIs w) :
    Calls Tryd.prog 16 #[.int .i64 k, .int .i64 a] w fun e w' => e = .returned (.bool (endsI k a)) ∧ Below w.heap.size w w' := by
  cases ht : tagI k a with
  | none =>
    have E : endsI k a = false := by unfold endsI; rw [ht]
    have hq := nil_neq
    go_enter Tryd.func16, Tryd.ntmps16
    go_wp2_with (go_at_call 20; refine (find_any k a _).mono ?_; rintro e w1 ⟨rfl, hb1⟩; rw [ht]; unfold tagV)
    go_ret
    exact ⟨ret_bool E.symm, hb1⟩
  | some t =>
    obtain ⟨k', a', rfl, rfl, hk, ha, hn⟩ := tagI_bd ht
    have E : endsI k' a' = decide (restO k' a' = []) := by unfold endsI; rw [ht]; rfl
    obtain ⟨v, hv⟩ : ∃ v, tagV (some t) = .func (.func v) #[] #[] := ⟨_, rfl⟩
    have hq := tag_neq t
    rw [hv] at hq
    obtain ⟨l, hl⟩ : ∃ l, restO k' a' = l := ⟨_, rfl⟩
    rw [hl] at E
    have hE := empty_iff (mkB l)
    have HT := Lib.hid ht; have HV := Lib.hid hv; have HE := Lib.hid E; have HL := Lib.hid hl
    clear ht hv E hn hl
    go_enter Tryd.func16, Tryd.ntmps16
    go_wp2_with (go_at_call 20; refine (find_any _ _ _).mono ?_; rintro e w1 ⟨rfl, hb1⟩; rw [HT.out, HV.out]; have hc := (hR.below hb1).cell k' a' hk ha; rw [HL.out] at hc)
    go_ret
    exact ⟨ret_bool (by rw [HE.out]; exact mkB_empty l), hb1⟩
theorem restI_nat (k a : Nat) (hk : k < 3) (h : inK k a) : restI (k : Int) (a : Int) = restO k a := by
  obtain ⟨t, ht⟩ := Option.isSome_iff_exists.1 h.2
  unfold restI; rw [tagI_nat k a hk h.1, ht]; rfl
theorem endsI_nat (k a : Nat) (hk : k < 3) (ha : a < 14) : endsI (k : Int) (a : Int) = endsO k a := by
  unfold endsI endsO; rw [tagI_nat k a hk ha]
  cases tagAt k a <;> simp
end Go.Proofs.YtjlnajokkhdhnaaDoor
