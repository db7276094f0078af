/- Of every two texts that are numbers the one with more digits is more; of as many digits it is told by the first one that differs; no condition. -/
import Derived.Test.YtflaopmlmecdcaaRows
import Derived.Test.YtflaopmlmecdcaaNumH
import Derived.Deep.QuietTactic
import Derived.BigQuiet
import Derived.Deep.RegionWith
import Derived.ProofKit
import Derived.OpenShut
import Derived.ShutString
import Derived.ChangeOld
namespace Go.Proofs.Ytflaopmlmecdcaa.numberLong
open Go.ChangeShapes Go.WideShapes Go.ChangeAt Go.RowKit
open Go.ChangeMaps (open_string shut_string)
set_option linter.unusedVariables false

theorem long_lt (a b : List UInt8) (h : mayL a = true) (k : mayL b = true) : (cmpN a b < 0 ↔ a.length < b.length) ∨ a.length = b.length := by
  unfold cmpN
  rcases Nat.lt_trichotomy a.length b.length with h1 | h1 | h1
  · rw [if_pos h1]; left; omega
  · exact .inr h1
  · rw [if_neg (by omega), if_pos h1]; left; omega
theorem cb_first : ∀ (a b : List UInt8) (k : Nat) (_ha : k < a.length) (_hb : k < b.length), a.take k = b.take k → ¬ a.getD k 0 = b.getD k 0 →
    (Lib.compareBytes a b = -1 ∧ (a.getD k 0).toNat < (b.getD k 0).toNat) ∨ (Lib.compareBytes a b = 1 ∧ (b.getD k 0).toNat < (a.getD k 0).toNat)
  | [], _, _, h, _, _, _ => by simp at h
  | _ :: _, [], _, _, h, _, _ => by simp at h
  | x :: a, y :: b, 0, _, _, _, hne => by
    have e1 : (x :: a).getD 0 0 = x := rfl
    have e2 : (y :: b).getD 0 0 = y := rfl
    rw [e1, e2] at hne ⊢
    rw [Lib.compareBytes]
    by_cases h1 : x < y
    · rw [if_pos h1]; exact .inl ⟨rfl, UInt8.lt_iff_toNat_lt.1 h1⟩
    · rw [if_neg h1]
      by_cases h2 : y < x
      · rw [if_pos h2]; exact .inr ⟨rfl, UInt8.lt_iff_toNat_lt.1 h2⟩
      · exact absurd (UInt8.le_antisymm (UInt8.not_lt.1 h2) (UInt8.not_lt.1 h1)) hne
  | x :: a, y :: b, k + 1, ha, hb, ht, hne => by
    have e1 : (x :: a).getD (k + 1) 0 = a.getD k 0 := rfl
    have e2 : (y :: b).getD (k + 1) 0 = b.getD k 0 := rfl
    rw [e1, e2] at hne ⊢
    simp only [List.take_succ_cons, List.cons.injEq] at ht
    obtain ⟨rfl, ht⟩ := ht
    rw [Lib.compareBytes, if_neg (UInt8.lt_irrefl x), if_neg (UInt8.lt_irrefl x)]
    exact cb_first a b k (by simpa using ha) (by simpa using hb) ht hne

set_option maxRecDepth 100000 in
set_option maxHeartbeats 6400000 in
theorem walk (a b : ByteArray) (w : World) (ha : a.size ≤ maxLen) (hb : b.size ≤ maxLen) :
    Calls Try.prog 5 #[.string a, .string b] w fun e w' => e = .returned (.bool true) ∧ Below w.heap.size w w' := by
  have HA := Lib.hid ha; have HB := Lib.hid hb; clear ha hb
  have h1 := fewB_size a
  have h2 := fewB_size b
  obtain ⟨x, hx⟩ : ∃ x, x = fewB a := ⟨_, rfl⟩
  obtain ⟨y, hy⟩ : ∃ y, y = fewB b := ⟨_, rfl⟩
  rw [← hx] at h1; rw [← hy] at h2
  have HX := Lib.hid hx; have HY := Lib.hid hy; clear hx hy
  have HXM : Hid (x.size ≤ maxLen) := Lib.hid (by unfold maxLen; omega)
  have HYM : Hid (y.size ≤ maxLen) := Lib.hid (by unfold maxLen; omega)
  have lx := Lib.size_eq x
  have ly := Lib.size_eq y
  have B0 := Below.refl w.heap.size w
  rcases cmpE_cases x.data.toList y.data.toList with ⟨g1, g2, g3, g4⟩ | ⟨g1, _⟩
  · obtain ⟨p, hp⟩ : ∃ p, cmpN x.data.toList y.data.toList = p := ⟨_, rfl⟩
    have hE : cmpE x.data.toList y.data.toList = (p, 0) := by rw [cmpE_ok g2 g3, hp]
    have hbd := cmpN_bd x.data.toList y.data.toList
    rw [hp] at hbd
    obtain ⟨hb1, hb2⟩ := hbd
    have HE := Lib.hid hE; have HP := Lib.hid hp; clear hE hp g1 g4
    rcases Nat.lt_trichotomy x.size y.size with hlt | hlt | hlt
    · have hp : p = -1 := by rw [← HP.out]; unfold cmpN; rw [if_pos (by omega)]
      have hneg : p < 0 := by omega
      have hn0 : (p != 0) = true := by rw [hp]; decide
      clear hp lx ly
      go_enter Try.func5, Try.ntmps5
      go_wp2_with (first
        | (go_at_call 6; refine (few_any _ _ (by first | exact HA.out | exact HB.out)).mono ?_; rintro e w' ⟨rfl, rfl⟩; first | rw [← HX.out] | rw [← HY.out])
        | (go_at_call 7; refine (cmpnum_any _ _ _ HXM.out HYM.out).mono ?_; rintro e w1 ⟨rfl, hb1⟩; have B1 := below_step (by assumption) hb1; clear hb1; rw [HE.out])
        | (go_at_call 9; refine (awake2_any _).mono ?_; rintro e w6 ⟨rfl, hb6⟩; have B6 := below_step (by assumption) hb6))
      all_goals
        go_ret
        exact ⟨rfl, by assumption⟩
    · have hc : Lib.compareBytes x.data.toList y.data.toList = p := by rw [← HP.out]; unfold cmpN; rw [if_neg (by omega), if_neg (by omega)]
      have HC := Lib.hid hc; clear hc
      have LX := Lib.hid lx; have LY := Lib.hid ly; have G2 := Lib.hid g2; have G3 := Lib.hid g3; clear lx ly g2 g3
      have HL := Lib.hid hlt
      have hne : ((x.size : Int) != (y.size : Int)) = false := by rw [hlt]; simp
      go_enter Try.func5, Try.ntmps5
      go_wp2_with (first
        | (go_at_call 6; refine (few_any _ _ (by first | exact HA.out | exact HB.out)).mono ?_; rintro e w' ⟨rfl, rfl⟩; first | rw [← HX.out] | rw [← HY.out])
        | (go_at_call 7; refine (cmpnum_any _ _ _ HXM.out HYM.out).mono ?_; rintro e w1 ⟨rfl, hb1⟩; have B1 := below_step (by assumption) hb1; clear hb1; rw [HE.out]))
      clear hne
      go_loopw [7] (fun i wr => ∃ k : Nat, k ≤ x.size ∧ i = .int .i64 k ∧ Hid (x.data.toList.take k = y.data.toList.take k) ∧ Below w.heap.size w wr) (fun i _ => x.size - (intOf i).toNat)
      case atStart => exact ⟨0, Nat.zero_le _, rfl, Lib.hid (by simp), by assumption⟩
      case round =>
        obtain ⟨k, hk, rfl, H, hbel⟩ := hrel
        by_cases hlk : k < x.size
        · have hly : k < y.size := by omega
          have ex : x.data.toList.getD k 0 = x[k] := by
            rw [List.getD_eq_getElem?_getD, List.getElem?_eq_getElem (by simpa using hlk)]; rfl
          have ey : y.data.toList.getD k 0 = y[k] := by
            rw [List.getD_eq_getElem?_getD, List.getElem?_eq_getElem (by simpa using hly)]; rfl
          by_cases he : (x[k].toNat : Int) = y[k].toNat
          · have hb : ((x[k].toNat : Int) != y[k].toNat) = false := by simpa using he
            have hn : x.data.toList.take (k + 1) = y.data.toList.take (k + 1) := by
              have e1 : x.data.toList[k]'(by simpa using hlk) = x[k] := rfl
              have e2 : y.data.toList[k]'(by simpa using hly) = y[k] := rfl
              rw [List.take_succ_eq_append_getElem (by simpa using hlk), List.take_succ_eq_append_getElem (by simpa using hly), H.out, e1, e2, (u8_ne_iff _ _).2 he]
            have HN := Lib.hid hn; clear hn he ex ey
            go_wp2
            go_quiet (fail)
            go_wp2
            go_roundw
            case rel => exact ⟨k + 1, by omega, by go_num, HN, below_step hbel (below_q ⟨_, rfl⟩)⟩
            case measure => simp [intOf]; omega
          · have hb : ((x[k].toNat : Int) != y[k].toNat) = true := by simpa using he
            have hf := cb_first _ _ k (by rw [← LX.out]; exact hlk) (by rw [← LY.out]; exact hly) H.out (by rw [ex, ey]; exact fun e => he ((u8_ne_iff _ _).1 e))
            rw [HC.out, ex, ey] at hf
            clear ex ey he
            have hn0 : (p != 0) = true := by rcases hf with ⟨f1, _⟩ | ⟨f1, _⟩ <;> rw [f1] <;> decide
            have hd : (decide (p < 0) == decide ((x[k].toNat : Int) < y[k].toNat)) = true := by
              rcases hf with ⟨f1, f2⟩ | ⟨f1, f2⟩
              · rw [f1]; simp; omega
              · rw [f1]; simp; omega
            rcases hf with ⟨f1, f2⟩ | ⟨f1, f2⟩
            · have hneg : decide (p < 0) = true := by rw [f1]; decide
              have hlt2 : decide (x[k].toNat < y[k].toNat) = true := by simpa using f2
              clear f1 f2 hd hb1 hb2
              go_wp2
              go_quiet (fail)
              go_wp2
              go_region_with (go_at_call 9; refine (awake2_any _).mono ?_; rintro e w6 ⟨rfl, hb6⟩; have B6 := hb6)
              all_goals
                have B7 := below_step (below_step hbel (below_q ⟨_, rfl⟩)) hb6
                go_wp2
                go_ret
                exact ⟨rfl, B7⟩
            · have hneg : decide (p < 0) = false := by rw [f1]; decide
              have hlt2 : decide (x[k].toNat < y[k].toNat) = false := by simp; omega
              clear f1 f2 hd hb1 hb2
              go_wp2
              go_quiet (fail)
              go_wp2
              go_region_with (go_at_call 9; refine (awake2_any _).mono ?_; rintro e w6 ⟨rfl, hb6⟩; have B6 := hb6)
              all_goals
                have B7 := below_step (below_step hbel (below_q ⟨_, rfl⟩)) hb6
                go_wp2
                go_ret
                exact ⟨rfl, B7⟩
        · have hxy : x.data.toList = y.data.toList := by
            have h5 := H.out
            rw [List.take_of_length_le (by rw [← LX.out]; omega), List.take_of_length_le (by rw [← LY.out]; omega)] at h5
            exact h5
          have hp0 : p = 0 := by rw [← HC.out, hxy]; exact cb_self _
          have hp1 : (p == 0) = true := by rw [hp0]; rfl
          clear hp0 hxy
          go_wp2_with (go_at_call 9; refine (awake2_any _).mono ?_; rintro e w6 ⟨rfl, hb6⟩; have B6 := below_step hbel hb6)
          go_ret
          exact ⟨rfl, by assumption⟩
    · have hp : p = 1 := by rw [← HP.out]; unfold cmpN; rw [if_neg (by omega), if_pos (by omega)]
      have hneg : ¬ p < 0 := by omega
      have hpos : 0 < p := by omega
      have hn0 : (p != 0) = true := by rw [hp]; decide
      clear hp lx ly
      go_enter Try.func5, Try.ntmps5
      go_wp2_with (first
        | (go_at_call 6; refine (few_any _ _ (by first | exact HA.out | exact HB.out)).mono ?_; rintro e w' ⟨rfl, rfl⟩; first | rw [← HX.out] | rw [← HY.out])
        | (go_at_call 7; refine (cmpnum_any _ _ _ HXM.out HYM.out).mono ?_; rintro e w1 ⟨rfl, hb1⟩; have B1 := below_step (by assumption) hb1; clear hb1; rw [HE.out])
        | (go_at_call 9; refine (awake2_any _).mono ?_; rintro e w6 ⟨rfl, hb6⟩; have B6 := below_step (by assumption) hb6))
      all_goals
        go_ret
        exact ⟨rfl, by assumption⟩
  · have HE := Lib.hid g1; clear g1
    go_enter Try.func5, Try.ntmps5
    go_wp2_with (first
      | (go_at_call 6; refine (few_any _ _ (by first | exact HA.out | exact HB.out)).mono ?_; rintro e w' ⟨rfl, rfl⟩; first | rw [← HX.out] | rw [← HY.out])
      | (go_at_call 7; refine (cmpnum_any _ _ _ HXM.out HYM.out).mono ?_; rintro e w1 ⟨rfl, hb1⟩; have B1 := below_step (by assumption) hb1; clear hb1; rw [HE.out])
      | (go_at_call 9; refine (awake2_any _).mono ?_; rintro e w6 ⟨rfl, hb6⟩; have B6 := below_step (by assumption) hb6))
    go_ret
    exact ⟨rfl, by assumption⟩

theorem own : ownKnob Try.prog.godebug = none := by kernel_rfl
theorem laidOut : laidOutB Try.prog = true := by kernel_rfl

set_option maxRecDepth 100000 in
theorem lifted (os : Os) (started : os.Started) (H : Type) (enc : TypeId × Value → H) :
    ReturnsInHanded {} Try.checked os 5 .any (Rows.numberLongSpec.pre6 enc Try.prog Try.f5 Rows.numberLongRow.domain false) (Rows.numberLongSpec.post enc Try.prog Try.f5 false true false false) := by
  refine returnsInHanded_of_change (C := Try.checked) own started (by kernel_rfl) Try.func5
    (ChangeSpec.witness6 (enc := enc) (C := Try.checked) false ⟨#[], #[.string ByteArray.empty, .string ByteArray.empty], []⟩ 8 (by kernel_rfl) (by kernel_rfl) (by kernel_rfl) (by kernel_rfl)) ?_
  intro W base args ds gs before hval0 hW hcnd _
  have hval : ∀ (j : Nat) t v, Try.f5.params[j]? = some t → args[j]? = some v → Value.okWide Try.prog W .any base t v := hval0
  have hW' := hW
  obtain ⟨p, q, hA0, hV, rfl, hfz, hnd⟩ := hW
  have hA : DataW.TrodAll enc Try.prog W 0 (fun _ => true) true Try.f5.params.toList args.toList ds p := hA0
  rw [Try.params5] at hA hval
  obtain ⟨v0, vs0, d0, ds0, p0, q0, hargs, rfl, rfl, h0, r0⟩ := trodAll_cons hA
  obtain ⟨v1, vs1, d1, ds1, p1, q1, rfl, rfl, rfl, h1, r1⟩ := trodAll_cons r0
  obtain ⟨rfl, rfl, rfl⟩ := trodAll_nil r1
  obtain rfl : args = #[v0, v1] := by cases args; simp_all
  obtain ⟨rfl, rfl⟩ := trodVars_none hV
  obtain ⟨a0, rfl, rfl, rfl, w0⟩ := open_string Try.underlying9 (hval 0 9 v0 rfl rfl) h0
  obtain ⟨a1, rfl, rfl, rfl, w1⟩ := open_string Try.underlying9 (hval 1 9 v1 rfl rfl) h1
  clear hA0 hval0
  refine (walk a0 a1 W w0 w1).mono fun e W' ⟨he, bel⟩ => ?_
  subst he
  exact ⟨_, rfl, _, _, _, [], _, [], hW', trodAll_mk1 (shut_bool Try.underlying4 _), (trodAll_cons_mk (shut_string Try.underlying9 w0) (trodAll_cons_mk (shut_string Try.underlying9 w1) trodAll_mk0)), rfl, bel.frame _, fun h => by cases h⟩

-- the given statement
theorem proved : Rows.NumberLongSaid :=
  OpenClaim.holds_of_wide 5 Try.f5 rfl rfl rfl rfl rfl rfl rfl ⟨rfl, rfl, rfl, rfl, rfl⟩ rfl rfl rfl rfl rfl (by kernel_rfl) Try.func5 (by kernel_rfl)
    (of_decide_eq_true (by kernel_rfl)) (by unfold Func.isWrapper; first | (rw [if_pos (by decide +kernel)]; kernel_rfl) | (rw [if_neg (by decide +kernel)]; exact ⟨rfl, rfl⟩))
    (fun os started H enc _ => lifted os started H enc)
end Go.Proofs.Ytflaopmlmecdcaa.numberLong
