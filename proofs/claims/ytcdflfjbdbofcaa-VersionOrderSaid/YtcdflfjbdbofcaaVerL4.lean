/- Of every three texts: version's order of them, turned about, is the other one; it goes one way; two are the same just if their texts are; no condition. -/
import Derived.Test.YtcdflfjbdbofcaaRows
import Derived.Test.YtcdflfjbdbofcaaVerR
import Derived.Test.YtcdflfjbdbofcaaVerT
import Derived.Deep.CutRange
import Derived.Deep.DeepCutAuto
import Derived.ProofKit
import Derived.OpenShut
import Derived.ShutString
import Derived.ChangeOld
namespace Go.Proofs.Ytcdflfjbdbofcaa.versionOrder
open Go.ChangeShapes Go.WideShapes Go.ChangeAt Go.RowKit
open Go.ChangeMaps (open_string shut_string)
set_option linter.unusedVariables false

theorem ver_three (p q r : Int) (vp : p = -1 ∨ p = 0 ∨ p = 1) (vq : q = -1 ∨ q = 0 ∨ q = 1) (vr : r = -1 ∨ r = 0 ∨ r = 1) (h1 : p ≤ 0 → q ≤ 0 → r ≤ 0 ∧ (p < 0 ∨ q < 0 → r < 0)) (h2 : 0 ≤ p → 0 ≤ q → 0 ≤ r ∧ (0 < p ∨ 0 < q → 0 < r)) :
    (p = -1 ∧ q = -1 ∧ r = -1) ∨ (p = -1 ∧ q = 0 ∧ r = -1) ∨ (p = -1 ∧ q = 1 ∧ r = -1) ∨ (p = -1 ∧ q = 1 ∧ r = 0) ∨ (p = -1 ∧ q = 1 ∧ r = 1) ∨ (p = 0 ∧ q = -1 ∧ r = -1) ∨ (p = 0 ∧ q = 0 ∧ r = 0) ∨ (p = 0 ∧ q = 1 ∧ r = 1) ∨ (p = 1 ∧ q = -1 ∧ r = -1) ∨ (p = 1 ∧ q = -1 ∧ r = 0) ∨ (p = 1 ∧ q = -1 ∧ r = 1) ∨ (p = 1 ∧ q = 0 ∧ r = 1) ∨ (p = 1 ∧ q = 1 ∧ r = 1) := by
  rcases vp with rfl | rfl | rfl <;> rcases vq with rfl | rfl | rfl <;> rcases vr with rfl | rfl | rfl <;> first | decide | (exfalso; simp at h1 h2; done)
set_option maxRecDepth 100000 in
set_option maxHeartbeats 12800000 in
theorem walk (a b c : ByteArray) (w : World) (ha : a.size ≤ maxLen) (hb : b.size ≤ maxLen) (hc : c.size ≤ maxLen) :
    Calls Try.prog 6 #[.string a, .string b, .string c] w fun e w' => e = .returned (.bool true) ∧ Below w.heap.size w w' := by
  have HA := Lib.hid ha; have HB := Lib.hid hb; have HC := Lib.hid hc; clear ha hb hc
  obtain ⟨x, hx⟩ : ∃ x, fewL a.data.toList = x := ⟨_, rfl⟩
  obtain ⟨y, hy⟩ : ∃ y, fewL b.data.toList = y := ⟨_, rfl⟩
  obtain ⟨z, hz⟩ : ∃ z, fewL c.data.toList = z := ⟨_, rfl⟩
  have SX : Hid ((mkB x).size ≤ 1000000000) := Lib.hid (by rw [mkB_size, ← hx]; have := fewL_le a.data.toList; omega)
  have SY : Hid ((mkB y).size ≤ 1000000000) := Lib.hid (by rw [mkB_size, ← hy]; have := fewL_le b.data.toList; omega)
  have SZ : Hid ((mkB z).size ≤ 1000000000) := Lib.hid (by rw [mkB_size, ← hz]; have := fewL_le c.data.toList; omega)
  have HX := Lib.hid hx; have HY := Lib.hid hy; have HZ := Lib.hid hz; clear hx hy hz
  have B0 := Below.refl w.heap.size w
  have heq := mk_beq x y
  obtain ⟨ox, hox⟩ : ∃ o, okV x = o := ⟨_, rfl⟩
  obtain ⟨oy, hoy⟩ : ∃ o, okV y = o := ⟨_, rfl⟩
  obtain ⟨oz, hoz⟩ : ∃ o, okV z = o := ⟨_, rfl⟩
  by_cases hall : ox = true ∧ oy = true ∧ oz = true
  · obtain ⟨rfl, rfl, rfl⟩ := hall
    obtain ⟨p, hp⟩ : ∃ p, cmpT x y = p := ⟨_, rfl⟩
    obtain ⟨q, hq⟩ : ∃ q, cmpT y z = q := ⟨_, rfl⟩
    obtain ⟨r, hr⟩ : ∃ r, cmpT x z = r := ⟨_, rfl⟩
    have vp := ord_V.vals (verOf x) (verOf y); have vq := ord_V.vals (verOf y) (verOf z); have vr := ord_V.vals (verOf x) (verOf z)
    have h1 := ord_V.trans (verOf x) (verOf y) (verOf z)
    have h2 := ord_V.trans (verOf z) (verOf y) (verOf x)
    rw [ord_V.swap (verOf y) (verOf z), ord_V.swap (verOf x) (verOf y), ord_V.swap (verOf x) (verOf z)] at h2
    have hz0 := ord_V.zero (verOf x) (verOf y)
    change cmpT x y = _ ∨ cmpT x y = _ ∨ cmpT x y = _ at vp
    change cmpT y z = _ ∨ cmpT y z = _ ∨ cmpT y z = _ at vq
    change cmpT x z = _ ∨ cmpT x z = _ ∨ cmpT x z = _ at vr
    change cmpT x y ≤ 0 → cmpT y z ≤ 0 → cmpT x z ≤ 0 ∧ (cmpT x y < 0 ∨ cmpT y z < 0 → cmpT x z < 0) at h1
    change -cmpT y z ≤ 0 → -cmpT x y ≤ 0 → -cmpT x z ≤ 0 ∧ (-cmpT y z < 0 ∨ -cmpT x y < 0 → -cmpT x z < 0) at h2
    change cmpT x y = 0 ↔ verOf x = verOf y at hz0
    have hxy : vcmpE x y = (p, 0) := by unfold vcmpE; rw [if_pos ⟨hox, hoy⟩, hp]
    have hyx : vcmpE y x = (-p, 0) := by unfold vcmpE; rw [if_pos ⟨hoy, hox⟩, cmpT_swap x y, hp]
    have hyz : vcmpE y z = (q, 0) := by unfold vcmpE; rw [if_pos ⟨hoy, hoz⟩, hq]
    have hxz : vcmpE x z = (r, 0) := by unfold vcmpE; rw [if_pos ⟨hox, hoz⟩, hr]
    have heq2 : decide (x = y) = decide (p = 0) := by
      rw [decide_eq_decide, ← hp, hz0]
      exact ⟨fun h => by rw [h], fun h => ver_inj hox hoy h⟩
    rw [heq2] at heq
    rw [hp] at vp h1 h2; rw [hq] at vq h1 h2; rw [hr] at vr h1 h2
    have h3 := ver_three p q r vp vq vr h1 (fun a b => by have := h2 (by omega) (by omega); omega)
    have OX := Lib.hid hox; have OY := Lib.hid hoy; have OZ := Lib.hid hoz
    clear hox hoy hoz hp hq hr vp vq vr h1 h2 hz0 heq2
    rcases h3 with h3 | h3 | h3 | h3 | h3 | h3 | h3 | h3 | h3 | h3 | h3 | h3 | h3
    all_goals
      obtain ⟨rfl, rfl, rfl⟩ := h3
      have HXY := Lib.hid hxy; have HYX := Lib.hid hyx; have HYZ := Lib.hid hyz; have HXZ := Lib.hid hxz
      clear hxy hyx hyz hxz
      first | (replace heq : ((mkB x).toList == (mkB y).toList) = true := heq) | (replace heq : ((mkB x).toList == (mkB y).toList) = false := heq)
      go_enter Try.func6, Try.ntmps6
      go_wp2_with (first
        | (go_at_call 10; refine (few_ml _ _ (by first | exact HA.out | exact HB.out | exact HC.out)).mono ?_; rintro e w' ⟨rfl, rfl⟩; first | rw [HX.out] | rw [HY.out] | rw [HZ.out])
        | (go_at_call 19; refine (vcmp_any _ _ _ (by first | exact SX.out | exact SY.out | exact SZ.out) (by first | exact SX.out | exact SY.out | exact SZ.out)).mono ?_; rintro e w1 ⟨rfl, hb1⟩; have B1 := below_step (by assumption) hb1; clear hb1; rw [mkB_list, mkB_list]; first | rw [HXY.out] | rw [HYX.out] | rw [HYZ.out] | rw [HXZ.out])
        | (go_at_call 16; refine (vmay_any _ _ (by first | exact SX.out | exact SY.out | exact SZ.out)).mono ?_; rintro e w1 ⟨rfl, hb1⟩; have B1 := below_step (by assumption) hb1; clear hb1; rw [mkB_list]; first | rw [OX.out] | rw [OY.out] | rw [OZ.out])
        | (go_at_call 18; refine (awake3_any _).mono ?_; rintro e w1 ⟨rfl, hb1⟩; have B1 := below_step (by assumption) hb1; clear hb1))
      all_goals
        go_ret
        exact ⟨rfl, by assumption⟩
  · have no : ∀ {u v : List UInt8} {s t : Bool}, okV u = s → okV v = t → ¬ (s = true ∧ t = true) → vcmpE u v = (0, 1) := fun hu hv h => by unfold vcmpE; rw [hu, hv, if_neg h]
    have yes : ∀ {u v : List UInt8} {s t : Bool}, okV u = s → okV v = t → s = true ∧ t = true → ∃ i : Int, vcmpE u v = (i, 0) := fun hu hv h => ⟨_, by unfold vcmpE; rw [hu, hv, if_pos h]⟩
    cases ox
    · cases oy
      · cases oz
        · have hh1 := no hox hoy (by simp)
          have hh2 := no hoy hox (by simp)
          have hh3 := no hoy hoz (by simp)
          have hh4 := no hox hoz (by simp)
          have HXY := Lib.hid hh1; have HYX := Lib.hid hh2; have HYZ := Lib.hid hh3; have HXZ := Lib.hid hh4; have OX := Lib.hid hox; have OY := Lib.hid hoy; have OZ := Lib.hid hoz
          clear hh1 hh2 hh3 hh4 hox hoy hoz no yes hall heq
          go_enter Try.func6, Try.ntmps6
          go_wp2_with (first
            | (go_at_call 10; refine (few_ml _ _ (by first | exact HA.out | exact HB.out | exact HC.out)).mono ?_; rintro e w' ⟨rfl, rfl⟩; first | rw [HX.out] | rw [HY.out] | rw [HZ.out])
            | (go_at_call 19; refine (vcmp_any _ _ _ (by first | exact SX.out | exact SY.out | exact SZ.out) (by first | exact SX.out | exact SY.out | exact SZ.out)).mono ?_; rintro e w1 ⟨rfl, hb1⟩; have B1 := below_step (by assumption) hb1; clear hb1; rw [mkB_list, mkB_list]; first | rw [HXY.out] | rw [HYX.out] | rw [HYZ.out] | rw [HXZ.out])
            | (go_at_call 16; refine (vmay_any _ _ (by first | exact SX.out | exact SY.out | exact SZ.out)).mono ?_; rintro e w1 ⟨rfl, hb1⟩; have B1 := below_step (by assumption) hb1; clear hb1; rw [mkB_list]; first | rw [OX.out] | rw [OY.out] | rw [OZ.out])
            | (go_at_call 18; refine (awake3_any _).mono ?_; rintro e w1 ⟨rfl, hb1⟩; have B1 := below_step (by assumption) hb1; clear hb1))
          all_goals
            go_ret
            exact ⟨rfl, by assumption⟩
        · have hh1 := no hox hoy (by simp)
          have hh2 := no hoy hox (by simp)
          have hh3 := no hoy hoz (by simp)
          have hh4 := no hox hoz (by simp)
          have HXY := Lib.hid hh1; have HYX := Lib.hid hh2; have HYZ := Lib.hid hh3; have HXZ := Lib.hid hh4; have OX := Lib.hid hox; have OY := Lib.hid hoy; have OZ := Lib.hid hoz
          clear hh1 hh2 hh3 hh4 hox hoy hoz no yes hall heq
          go_enter Try.func6, Try.ntmps6
          go_wp2_with (first
            | (go_at_call 10; refine (few_ml _ _ (by first | exact HA.out | exact HB.out | exact HC.out)).mono ?_; rintro e w' ⟨rfl, rfl⟩; first | rw [HX.out] | rw [HY.out] | rw [HZ.out])
            | (go_at_call 19; refine (vcmp_any _ _ _ (by first | exact SX.out | exact SY.out | exact SZ.out) (by first | exact SX.out | exact SY.out | exact SZ.out)).mono ?_; rintro e w1 ⟨rfl, hb1⟩; have B1 := below_step (by assumption) hb1; clear hb1; rw [mkB_list, mkB_list]; first | rw [HXY.out] | rw [HYX.out] | rw [HYZ.out] | rw [HXZ.out])
            | (go_at_call 16; refine (vmay_any _ _ (by first | exact SX.out | exact SY.out | exact SZ.out)).mono ?_; rintro e w1 ⟨rfl, hb1⟩; have B1 := below_step (by assumption) hb1; clear hb1; rw [mkB_list]; first | rw [OX.out] | rw [OY.out] | rw [OZ.out])
            | (go_at_call 18; refine (awake3_any _).mono ?_; rintro e w1 ⟨rfl, hb1⟩; have B1 := below_step (by assumption) hb1; clear hb1))
          all_goals
            go_ret
            exact ⟨rfl, by assumption⟩
      · cases oz
        · have hh1 := no hox hoy (by simp)
          have hh2 := no hoy hox (by simp)
          have hh3 := no hoy hoz (by simp)
          have hh4 := no hox hoz (by simp)
          have HXY := Lib.hid hh1; have HYX := Lib.hid hh2; have HYZ := Lib.hid hh3; have HXZ := Lib.hid hh4; have OX := Lib.hid hox; have OY := Lib.hid hoy; have OZ := Lib.hid hoz
          clear hh1 hh2 hh3 hh4 hox hoy hoz no yes hall heq
          go_enter Try.func6, Try.ntmps6
          go_wp2_with (first
            | (go_at_call 10; refine (few_ml _ _ (by first | exact HA.out | exact HB.out | exact HC.out)).mono ?_; rintro e w' ⟨rfl, rfl⟩; first | rw [HX.out] | rw [HY.out] | rw [HZ.out])
            | (go_at_call 19; refine (vcmp_any _ _ _ (by first | exact SX.out | exact SY.out | exact SZ.out) (by first | exact SX.out | exact SY.out | exact SZ.out)).mono ?_; rintro e w1 ⟨rfl, hb1⟩; have B1 := below_step (by assumption) hb1; clear hb1; rw [mkB_list, mkB_list]; first | rw [HXY.out] | rw [HYX.out] | rw [HYZ.out] | rw [HXZ.out])
            | (go_at_call 16; refine (vmay_any _ _ (by first | exact SX.out | exact SY.out | exact SZ.out)).mono ?_; rintro e w1 ⟨rfl, hb1⟩; have B1 := below_step (by assumption) hb1; clear hb1; rw [mkB_list]; first | rw [OX.out] | rw [OY.out] | rw [OZ.out])
            | (go_at_call 18; refine (awake3_any _).mono ?_; rintro e w1 ⟨rfl, hb1⟩; have B1 := below_step (by assumption) hb1; clear hb1))
          all_goals
            go_ret
            exact ⟨rfl, by assumption⟩
        · have hh1 := no hox hoy (by simp)
          have hh2 := no hoy hox (by simp)
          obtain ⟨i3, hh3⟩ := yes hoy hoz ⟨rfl, rfl⟩
          have hh4 := no hox hoz (by simp)
          have HXY := Lib.hid hh1; have HYX := Lib.hid hh2; have HYZ := Lib.hid hh3; have HXZ := Lib.hid hh4; have OX := Lib.hid hox; have OY := Lib.hid hoy; have OZ := Lib.hid hoz
          clear hh1 hh2 hh3 hh4 hox hoy hoz no yes hall heq
          go_enter Try.func6, Try.ntmps6
          go_wp2_with (first
            | (go_at_call 10; refine (few_ml _ _ (by first | exact HA.out | exact HB.out | exact HC.out)).mono ?_; rintro e w' ⟨rfl, rfl⟩; first | rw [HX.out] | rw [HY.out] | rw [HZ.out])
            | (go_at_call 19; refine (vcmp_any _ _ _ (by first | exact SX.out | exact SY.out | exact SZ.out) (by first | exact SX.out | exact SY.out | exact SZ.out)).mono ?_; rintro e w1 ⟨rfl, hb1⟩; have B1 := below_step (by assumption) hb1; clear hb1; rw [mkB_list, mkB_list]; first | rw [HXY.out] | rw [HYX.out] | rw [HYZ.out] | rw [HXZ.out])
            | (go_at_call 16; refine (vmay_any _ _ (by first | exact SX.out | exact SY.out | exact SZ.out)).mono ?_; rintro e w1 ⟨rfl, hb1⟩; have B1 := below_step (by assumption) hb1; clear hb1; rw [mkB_list]; first | rw [OX.out] | rw [OY.out] | rw [OZ.out])
            | (go_at_call 18; refine (awake3_any _).mono ?_; rintro e w1 ⟨rfl, hb1⟩; have B1 := below_step (by assumption) hb1; clear hb1))
          all_goals
            go_ret
            exact ⟨rfl, by assumption⟩
    · cases oy
      · cases oz
        · have hh1 := no hox hoy (by simp)
          have hh2 := no hoy hox (by simp)
          have hh3 := no hoy hoz (by simp)
          have hh4 := no hox hoz (by simp)
          have HXY := Lib.hid hh1; have HYX := Lib.hid hh2; have HYZ := Lib.hid hh3; have HXZ := Lib.hid hh4; have OX := Lib.hid hox; have OY := Lib.hid hoy; have OZ := Lib.hid hoz
          clear hh1 hh2 hh3 hh4 hox hoy hoz no yes hall heq
          go_enter Try.func6, Try.ntmps6
          go_wp2_with (first
            | (go_at_call 10; refine (few_ml _ _ (by first | exact HA.out | exact HB.out | exact HC.out)).mono ?_; rintro e w' ⟨rfl, rfl⟩; first | rw [HX.out] | rw [HY.out] | rw [HZ.out])
            | (go_at_call 19; refine (vcmp_any _ _ _ (by first | exact SX.out | exact SY.out | exact SZ.out) (by first | exact SX.out | exact SY.out | exact SZ.out)).mono ?_; rintro e w1 ⟨rfl, hb1⟩; have B1 := below_step (by assumption) hb1; clear hb1; rw [mkB_list, mkB_list]; first | rw [HXY.out] | rw [HYX.out] | rw [HYZ.out] | rw [HXZ.out])
            | (go_at_call 16; refine (vmay_any _ _ (by first | exact SX.out | exact SY.out | exact SZ.out)).mono ?_; rintro e w1 ⟨rfl, hb1⟩; have B1 := below_step (by assumption) hb1; clear hb1; rw [mkB_list]; first | rw [OX.out] | rw [OY.out] | rw [OZ.out])
            | (go_at_call 18; refine (awake3_any _).mono ?_; rintro e w1 ⟨rfl, hb1⟩; have B1 := below_step (by assumption) hb1; clear hb1))
          all_goals
            go_ret
            exact ⟨rfl, by assumption⟩
        · have hh1 := no hox hoy (by simp)
          have hh2 := no hoy hox (by simp)
          have hh3 := no hoy hoz (by simp)
          obtain ⟨i4, hh4⟩ := yes hox hoz ⟨rfl, rfl⟩
          have HXY := Lib.hid hh1; have HYX := Lib.hid hh2; have HYZ := Lib.hid hh3; have HXZ := Lib.hid hh4; have OX := Lib.hid hox; have OY := Lib.hid hoy; have OZ := Lib.hid hoz
          clear hh1 hh2 hh3 hh4 hox hoy hoz no yes hall heq
          go_enter Try.func6, Try.ntmps6
          go_wp2_with (first
            | (go_at_call 10; refine (few_ml _ _ (by first | exact HA.out | exact HB.out | exact HC.out)).mono ?_; rintro e w' ⟨rfl, rfl⟩; first | rw [HX.out] | rw [HY.out] | rw [HZ.out])
            | (go_at_call 19; refine (vcmp_any _ _ _ (by first | exact SX.out | exact SY.out | exact SZ.out) (by first | exact SX.out | exact SY.out | exact SZ.out)).mono ?_; rintro e w1 ⟨rfl, hb1⟩; have B1 := below_step (by assumption) hb1; clear hb1; rw [mkB_list, mkB_list]; first | rw [HXY.out] | rw [HYX.out] | rw [HYZ.out] | rw [HXZ.out])
            | (go_at_call 16; refine (vmay_any _ _ (by first | exact SX.out | exact SY.out | exact SZ.out)).mono ?_; rintro e w1 ⟨rfl, hb1⟩; have B1 := below_step (by assumption) hb1; clear hb1; rw [mkB_list]; first | rw [OX.out] | rw [OY.out] | rw [OZ.out])
            | (go_at_call 18; refine (awake3_any _).mono ?_; rintro e w1 ⟨rfl, hb1⟩; have B1 := below_step (by assumption) hb1; clear hb1))
          all_goals
            go_ret
            exact ⟨rfl, by assumption⟩
      · cases oz
        · obtain ⟨i1, hh1⟩ := yes hox hoy ⟨rfl, rfl⟩
          obtain ⟨i2, hh2⟩ := yes hoy hox ⟨rfl, rfl⟩
          have hh3 := no hoy hoz (by simp)
          have hh4 := no hox hoz (by simp)
          have HXY := Lib.hid hh1; have HYX := Lib.hid hh2; have HYZ := Lib.hid hh3; have HXZ := Lib.hid hh4; have OX := Lib.hid hox; have OY := Lib.hid hoy; have OZ := Lib.hid hoz
          clear hh1 hh2 hh3 hh4 hox hoy hoz no yes hall heq
          go_enter Try.func6, Try.ntmps6
          go_wp2_with (first
            | (go_at_call 10; refine (few_ml _ _ (by first | exact HA.out | exact HB.out | exact HC.out)).mono ?_; rintro e w' ⟨rfl, rfl⟩; first | rw [HX.out] | rw [HY.out] | rw [HZ.out])
            | (go_at_call 19; refine (vcmp_any _ _ _ (by first | exact SX.out | exact SY.out | exact SZ.out) (by first | exact SX.out | exact SY.out | exact SZ.out)).mono ?_; rintro e w1 ⟨rfl, hb1⟩; have B1 := below_step (by assumption) hb1; clear hb1; rw [mkB_list, mkB_list]; first | rw [HXY.out] | rw [HYX.out] | rw [HYZ.out] | rw [HXZ.out])
            | (go_at_call 16; refine (vmay_any _ _ (by first | exact SX.out | exact SY.out | exact SZ.out)).mono ?_; rintro e w1 ⟨rfl, hb1⟩; have B1 := below_step (by assumption) hb1; clear hb1; rw [mkB_list]; first | rw [OX.out] | rw [OY.out] | rw [OZ.out])
            | (go_at_call 18; refine (awake3_any _).mono ?_; rintro e w1 ⟨rfl, hb1⟩; have B1 := below_step (by assumption) hb1; clear hb1))
          all_goals
            go_ret
            exact ⟨rfl, by assumption⟩
        · exact absurd ⟨rfl, rfl, rfl⟩ hall

theorem own : ownKnob Try.prog.godebug = none := by kernel_rfl
theorem laidOut : laidOutB Try.prog = true := by kernel_rfl

set_option maxRecDepth 100000 in
theorem lifted (os : Os) (started : os.Started) (H : Type) (enc : TypeId × Value → H) :
    ReturnsInHanded {} Try.checked os 6 .any (Rows.versionOrderSpec.pre6 enc Try.prog Try.f6 Rows.versionOrderRow.domain false) (Rows.versionOrderSpec.post enc Try.prog Try.f6 false true false false) := by
  refine returnsInHanded_of_change (C := Try.checked) own started (by kernel_rfl) Try.func6
    (ChangeSpec.witness6 (enc := enc) (C := Try.checked) false ⟨#[], #[.string ByteArray.empty, .string ByteArray.empty, .string ByteArray.empty], []⟩ 8 (by kernel_rfl) (by kernel_rfl) (by kernel_rfl) (by kernel_rfl)) ?_
  intro W base args ds gs before hval0 hW hcnd _
  have hval : ∀ (j : Nat) t v, Try.f6.params[j]? = some t → args[j]? = some v → Value.okWide Try.prog W .any base t v := hval0
  have hW' := hW
  obtain ⟨p, q, hA0, hV, rfl, hfz, hnd⟩ := hW
  have hA : DataW.TrodAll enc Try.prog W 0 (fun _ => true) true Try.f6.params.toList args.toList ds p := hA0
  rw [Try.params6] at hA hval
  obtain ⟨v0, vs0, d0, ds0, p0, q0, hargs, rfl, rfl, h0, r0⟩ := trodAll_cons hA
  obtain ⟨v1, vs1, d1, ds1, p1, q1, rfl, rfl, rfl, h1, r1⟩ := trodAll_cons r0
  obtain ⟨v2, vs2, d2, ds2, p2, q2, rfl, rfl, rfl, h2, r2⟩ := trodAll_cons r1
  obtain ⟨rfl, rfl, rfl⟩ := trodAll_nil r2
  obtain rfl : args = #[v0, v1, v2] := by cases args; simp_all
  obtain ⟨rfl, rfl⟩ := trodVars_none hV
  obtain ⟨a0, rfl, rfl, rfl, w0⟩ := open_string Try.underlying9 (hval 0 9 v0 rfl rfl) h0
  obtain ⟨a1, rfl, rfl, rfl, w1⟩ := open_string Try.underlying9 (hval 1 9 v1 rfl rfl) h1
  obtain ⟨a2, rfl, rfl, rfl, w2⟩ := open_string Try.underlying9 (hval 2 9 v2 rfl rfl) h2
  clear hA0 hval0
  refine (walk a0 a1 a2 W w0 w1 w2).mono fun e W' ⟨he, bel⟩ => ?_
  subst he
  exact ⟨_, rfl, _, _, _, [], _, [], hW', trodAll_mk1 (shut_bool Try.underlying4 _), (trodAll_cons_mk (shut_string Try.underlying9 w0) (trodAll_cons_mk (shut_string Try.underlying9 w1) (trodAll_cons_mk (shut_string Try.underlying9 w2) trodAll_mk0))), rfl, bel.frame _, fun h => by cases h⟩

-- the given statement
theorem proved : Rows.VersionOrderSaid :=
  OpenClaim.holds_of_wide 6 Try.f6 rfl rfl rfl rfl rfl rfl rfl ⟨rfl, rfl, rfl, rfl, rfl⟩ rfl rfl rfl rfl rfl (by kernel_rfl) Try.func6 (by kernel_rfl)
    (of_decide_eq_true (by kernel_rfl)) (by unfold Func.isWrapper; first | (rw [if_pos (by decide +kernel)]; kernel_rfl) | (rw [if_neg (by decide +kernel)]; exact ⟨rfl, rfl⟩))
    (fun os started H enc _ => lifted os started H enc)
end Go.Proofs.Ytcdflfjbdbofcaa.versionOrder
