/- For every two texts: the elements of a path are put together to it; it is within itself, and within one with an element more, which is not within it; no condition. -/
import Derived.Test.YtekdgjllnlkfmaaRows
import Derived.Test.YtekdgjllnlkfmaaPatN
import Derived.ProofKit
import Derived.OpenShut
import Derived.ShutString
import Derived.ChangeOld
namespace Go.Proofs.Ytekdgjllnlkfmaa.pathBack
open Go.ChangeShapes Go.WideShapes Go.ChangeAt Go.RowKit
open Go.ChangeMaps (open_string shut_string)
set_option linter.unusedVariables false

set_option maxHeartbeats 1600000 in
set_option maxRecDepth 100000 in
theorem walk (a b : ByteArray) (w : World) (ha : a.size ≤ maxLen) (hb : b.size ≤ maxLen) :
    Calls Try.prog 5 #[.string a, .string b] w fun e w' => e = .returned (.bool true) ∧ Below w.heap.size w w' := by
  have HA := Lib.hid ha; clear ha
  have hlx := fewL_le a.data.toList
  obtain ⟨x, hx⟩ : ∃ x, fewL a.data.toList = x := ⟨_, rfl⟩
  rw [hx] at hlx
  have SX : Hid (x.length ≤ 1000000000) := Lib.hid (by omega)
  have HX := Lib.hid hx; clear hx
  have HB := Lib.hid hb; clear hb
  have hly := fewL_le b.data.toList
  obtain ⟨y, hy⟩ : ∃ y, fewL b.data.toList = y := ⟨_, rfl⟩
  rw [hy] at hly
  have SY : Hid (y.length ≤ 1000000000) := Lib.hid (by omega)
  have HY := Lib.hid hy; clear hy
  have B := Lib.hid (Below.refl w.heap.size w)
  have bx : (mkB x).size ≤ 400 := by rw [mkB_size]; omega
  have by' : (mkB y).size ≤ 400 := by rw [mkB_size]; omega
  cases hp : pathB x
  · have he := elsL_no hp
    have hk := pathE_no hp
    have HE := Lib.hid he; have HK := Lib.hid hk; have HP := Lib.hid hp; clear hp he hk
    go_enter Try.func5, Try.ntmps5
    go_wp2_with (first
      | (go_at_call 9; refine (few_ml _ _ (by first | exact HA.out | exact HB.out)).mono ?_; rintro e w' ⟨rfl, rfl⟩; first | rw [HX.out] | rw [HY.out])
      | (go_at_call 10; refine (elements_m x _ SX.out).mono ?_; rintro e w1 ⟨a1, c1, rfl, hst, hb1⟩; rw [HE.out, HK.out]; clear hst; replace B := Lib.hid (below_step B.out hb1); clear hb1)
      | (go_at_call 11; refine (pmay_m x _ SX.out).mono ?_; rintro e w1 ⟨rfl, hb1⟩; rw [HP.out]; replace B := Lib.hid (below_step B.out hb1); clear hb1)
      | (go_at_call 15; refine (awake4_any _).mono ?_; rintro e w1 ⟨rfl, hb1⟩; replace B := Lib.hid (below_step B.out hb1); clear hb1))
    go_ret
    exact ⟨rfl, B.out⟩
  · have he := elsL_ok hp
    have hk := pathE_ok hp
    have hl1 := splitL_len 47 x
    have hle := split_le 47 x
    have hj1 := joinP_split hp
    have hj2 : elemB y = true → joinP (splitL 47 x ++ [y]) = (x ++ 47 :: y, 0) := joinP_snoc_ok hp
    have hj3 : elemB y = false → joinP (splitL 47 x ++ [y]) = ([], 1) := joinP_snoc_no x
    have hjx := jn_split 47 47 (by decide) x
    have hjn := jn_snoc 47 _ (splitL_ne 47 x) y
    rw [hjx] at hjn
    obtain ⟨es, hes⟩ : ∃ l, splitL 47 x = l := ⟨_, rfl⟩
    rw [hes] at he hl1 hle hj1 hj2 hj3 hjx hjn
    obtain ⟨n, hn⟩ : ∃ n, es.length = n := ⟨_, rfl⟩
    rw [hn] at hl1
    have L1 : Hid (∀ l ∈ es, l.length ≤ 1000000000) := Lib.hid fun l hl => by have := hle l hl; omega
    have L2 : Hid (∀ l ∈ es ++ [y], l.length ≤ 1000000000) := Lib.hid fun l hl => by
      rcases List.mem_append.1 hl with h | h
      · exact L1.out l h
      · rw [List.mem_singleton.1 h]; omega
    have N1 : Hid (es.length ≤ 1000000000) := Lib.hid (by omega)
    have N2 : Hid ((es ++ [y]).length ≤ 1000000000) := Lib.hid (by rw [List.length_append, hn]; simp; omega)
    have Q1 : Hid ((jn 47 es).length ≤ 1000000000) := Lib.hid (by rw [hjx]; omega)
    have Q2 : Hid ((jn 47 (es ++ [y])).length ≤ 1000000000) := Lib.hid (by rw [hjn]; simp; omega)
    have W1 := Lib.hid (within_self hp)
    have W2 : Hid (elemB y = true → withinB x (x ++ 47 :: y) = true ∧ withinB (x ++ 47 :: y) x = false ∧ pathB (x ++ 47 :: y) = true) := Lib.hid fun h => ⟨within_slash hp (path_elem h), slash_within x y, by rw [path_slash, hp, path_elem h]; rfl⟩
    have SZ : Hid ((x ++ 47 :: y).length ≤ 1000000000) := Lib.hid (by simp; omega)
    have T1 := Lib.hid (slash_txt x y)
    obtain ⟨z, hz⟩ : ∃ z, x ++ 47 :: y = z := ⟨_, rfl⟩
    rw [hz] at SZ T1 W2 hj2
    have q1 : ((mkB x).toList == (mkB x).toList) = true := by simp
    have q2 : ((mkB z).toList == (mkB x ++ (⟨#[47]⟩ : ByteArray) ++ mkB y).toList) = true := by rw [T1.out]; simp
    have HE := Lib.hid he; have HK := Lib.hid hk; have HP := Lib.hid hp; have J1 := Lib.hid hj1; have J2 := Lib.hid hj2; have J3 := Lib.hid hj3; have HN := Lib.hid hn
    clear he hk hp hj1 hj2 hj3 hle hjx hjn hes hn hz
    cases hel : elemB y
    · have J := Lib.hid (J3.out hel); clear hel
      go_enter Try.func5, Try.ntmps5
      go_wp2_with (first
        | (go_at_call 9; refine (few_ml _ _ (by first | exact HA.out | exact HB.out)).mono ?_; rintro e w' ⟨rfl, rfl⟩; first | rw [HX.out] | rw [HY.out]))
      refine (elements_m x _ SX.out).mono ?_
      rintro e w1 ⟨a1, c1, rfl, hst, hb1⟩
      rw [HE.out, HN.out] at hst
      rw [HE.out, HK.out, HN.out]
      have ST := Lib.hid hst; clear hst
      replace B := Lib.hid (below_step B.out hb1); clear hb1
      go_wp2_with fail
      refine (pjoin_any _ es _ ST.out L1.out N1.out Q1.out).mono ?_
      rintro e w2 ⟨rfl, hb1⟩
      rw [J1.out]
      replace B := Lib.hid (below_step B.out hb1); replace ST := Lib.hid (ST.out.below hb1); clear hb1
      have e0 : Below w2.heap.size w2 (w2.alloc (.cells #[] 9)) := (Below.refl _ _).alloc (Nat.le_refl _) _
      have E0 := Lib.hid e0
      have SRC1 := Lib.hid (ST.out.below e0).src2; clear e0
      have OW0 := Lib.hid (World.ownsRow_lit (base := w2.heap.size) (e := 9) (size := 1) w2 #[] 0 (Nat.le_refl _) (by decide) rfl)
      go_wp2_with (first
        | (at_builtin; refine wpList_append_src rfl (.tmp 34) (.tmp 35) 23 rfl w2.heap.size 9 (.string ByteArray.empty) 1 16 Try.underlying23 Try.info_str rfl (by decide) _ 0 [] rfl OW0.out _ n c1 (es.map strV) rfl (by rw [List.length_map, HN.out, Nat.mul_one]) SRC1.out.1 SRC1.out.2 (strs_one _) (by omega) (by unfold maxLen; omega) (by simp) ?_; intro v4 w4 ho4 hb4; rw [List.nil_append, Nat.zero_add] at ho4; have O4 := Lib.hid ho4; clear ho4; have E4 := Lib.hid (E0.out.trans hb4); clear hb4)
        | (at_builtin; refine wpList_append_new rfl (.tmp 36) (.tmp 38) 23 rfl w2.heap.size 9 (.string ByteArray.empty) 1 16 Try.underlying23 Try.info_str rfl (by decide) _ n (es.map strV) rfl O4.out [.string (mkB y)] rfl rfl rfl (by omega) (by unfold maxLen; omega) E4.out.size ?_; intro v5 w5 ho5 hb5; have E5 := Lib.hid (E4.out.trans hb5); have S5 : Hid (Strs w5 v5 (es ++ [y])) := Lib.hid (Strs.owned (by rw [List.map_append, List.length_append, HN.out]; exact ho5)); clear hb5 ho5; replace B := Lib.hid (below_step B.out E5.out)))
      refine (pjoin_any _ (es ++ [y]) _ S5.out L2.out N2.out Q2.out).mono ?_
      rintro e w6 ⟨rfl, hb1⟩
      rw [J.out]
      replace B := Lib.hid (below_step B.out hb1); clear hb1
      go_wp2_with (first
        | (go_at_call 13; refine (within_m x x _ SX.out SX.out).mono ?_; rintro e w1 ⟨rfl, hb1⟩; rw [W1.out]; replace B := Lib.hid (below_step B.out hb1); clear hb1)
        | (go_at_call 15; refine (awake4_any _).mono ?_; rintro e w1 ⟨rfl, hb1⟩; replace B := Lib.hid (below_step B.out hb1); clear hb1))
      go_ret
      exact ⟨rfl, B.out⟩
    · have J := Lib.hid (J2.out hel); obtain ⟨w1', w2', w3'⟩ := W2.out hel; have W3 := Lib.hid w1'; have W4 := Lib.hid w2'; have W5 := Lib.hid w3'; clear hel w1' w2' w3'
      go_enter Try.func5, Try.ntmps5
      go_wp2_with (first
        | (go_at_call 9; refine (few_ml _ _ (by first | exact HA.out | exact HB.out)).mono ?_; rintro e w' ⟨rfl, rfl⟩; first | rw [HX.out] | rw [HY.out]))
      refine (elements_m x _ SX.out).mono ?_
      rintro e w1 ⟨a1, c1, rfl, hst, hb1⟩
      rw [HE.out, HN.out] at hst
      rw [HE.out, HK.out, HN.out]
      have ST := Lib.hid hst; clear hst
      replace B := Lib.hid (below_step B.out hb1); clear hb1
      go_wp2_with fail
      refine (pjoin_any _ es _ ST.out L1.out N1.out Q1.out).mono ?_
      rintro e w2 ⟨rfl, hb1⟩
      rw [J1.out]
      replace B := Lib.hid (below_step B.out hb1); replace ST := Lib.hid (ST.out.below hb1); clear hb1
      have e0 : Below w2.heap.size w2 (w2.alloc (.cells #[] 9)) := (Below.refl _ _).alloc (Nat.le_refl _) _
      have E0 := Lib.hid e0
      have SRC1 := Lib.hid (ST.out.below e0).src2; clear e0
      have OW0 := Lib.hid (World.ownsRow_lit (base := w2.heap.size) (e := 9) (size := 1) w2 #[] 0 (Nat.le_refl _) (by decide) rfl)
      go_wp2_with (first
        | (at_builtin; refine wpList_append_src rfl (.tmp 34) (.tmp 35) 23 rfl w2.heap.size 9 (.string ByteArray.empty) 1 16 Try.underlying23 Try.info_str rfl (by decide) _ 0 [] rfl OW0.out _ n c1 (es.map strV) rfl (by rw [List.length_map, HN.out, Nat.mul_one]) SRC1.out.1 SRC1.out.2 (strs_one _) (by omega) (by unfold maxLen; omega) (by simp) ?_; intro v4 w4 ho4 hb4; rw [List.nil_append, Nat.zero_add] at ho4; have O4 := Lib.hid ho4; clear ho4; have E4 := Lib.hid (E0.out.trans hb4); clear hb4)
        | (at_builtin; refine wpList_append_new rfl (.tmp 36) (.tmp 38) 23 rfl w2.heap.size 9 (.string ByteArray.empty) 1 16 Try.underlying23 Try.info_str rfl (by decide) _ n (es.map strV) rfl O4.out [.string (mkB y)] rfl rfl rfl (by omega) (by unfold maxLen; omega) E4.out.size ?_; intro v5 w5 ho5 hb5; have E5 := Lib.hid (E4.out.trans hb5); have S5 : Hid (Strs w5 v5 (es ++ [y])) := Lib.hid (Strs.owned (by rw [List.map_append, List.length_append, HN.out]; exact ho5)); clear hb5 ho5; replace B := Lib.hid (below_step B.out E5.out)))
      refine (pjoin_any _ (es ++ [y]) _ S5.out L2.out N2.out Q2.out).mono ?_
      rintro e w6 ⟨rfl, hb1⟩
      rw [J.out]
      replace B := Lib.hid (below_step B.out hb1); clear hb1
      go_wp2_with fail
      refine (within_m x x _ SX.out SX.out).mono ?_
      rintro e w7 ⟨rfl, hb1⟩
      rw [W1.out]
      replace B := Lib.hid (below_step B.out hb1); clear hb1
      go_wp2_with fail
      refine (pmay_m z _ SZ.out).mono ?_
      rintro e w8 ⟨rfl, hb1⟩
      rw [W5.out]
      replace B := Lib.hid (below_step B.out hb1); clear hb1
      go_wp2_with fail
      refine (within_m x z _ SX.out SZ.out).mono ?_
      rintro e w9 ⟨rfl, hb1⟩
      rw [W3.out]
      replace B := Lib.hid (below_step B.out hb1); clear hb1
      go_wp2_with fail
      refine (within_m z x _ SZ.out SX.out).mono ?_
      rintro e w10 ⟨rfl, hb1⟩
      rw [W4.out]
      replace B := Lib.hid (below_step B.out hb1); clear hb1
      go_wp2_with (first
        | (go_at_call 15; refine (awake4_any _).mono ?_; rintro e w1 ⟨rfl, hb1⟩; replace B := Lib.hid (below_step B.out hb1); clear hb1))
      go_ret
      exact ⟨rfl, B.out⟩

theorem own : ownKnob Try.prog.godebug = none := by kernel_rfl
theorem laidOut : laidOutB Try.prog = true := by kernel_rfl

set_option maxRecDepth 100000 in
theorem lifted (os : Os) (started : os.Started) (H : Type) (enc : TypeId × Value → H) :
    ReturnsInHanded {} Try.checked os 5 .any (Rows.pathBackSpec.pre6 enc Try.prog Try.f5 Rows.pathBackRow.domain false) (Rows.pathBackSpec.post enc Try.prog Try.f5 false true false false) := by
  refine returnsInHanded_of_change (C := Try.checked) own started (by kernel_rfl) Try.func5
    (ChangeSpec.witness6 (enc := enc) (C := Try.checked) false ⟨#[], #[.string ByteArray.empty, .string ByteArray.empty], []⟩ 8 (by kernel_rfl) (by kernel_rfl) (by kernel_rfl) (by kernel_rfl)) ?_
  intro W base args ds gs before hval0 hW hcnd _
  have hval : ∀ (j : Nat) t v, Try.f5.params[j]? = some t → args[j]? = some v → Value.okWide Try.prog W .any base t v := hval0
  have hW' := hW
  obtain ⟨p, q, hA0, hV, rfl, hfz, hnd⟩ := hW
  have hA : DataW.TrodAll enc Try.prog W 0 (fun _ => true) true Try.f5.params.toList args.toList ds p := hA0
  rw [Try.params5] at hA hval
  obtain ⟨v0, vs0, d0, ds0, p0, q0, hargs, rfl, rfl, h0, r0⟩ := trodAll_cons hA
  obtain ⟨v1, vs1, d1, ds1, p1, q1, rfl, rfl, rfl, h1, r1⟩ := trodAll_cons r0
  obtain ⟨rfl, rfl, rfl⟩ := trodAll_nil r1
  obtain rfl : args = #[v0, v1] := by cases args; simp_all
  obtain ⟨rfl, rfl⟩ := trodVars_none hV
  obtain ⟨a0, rfl, rfl, rfl, w0⟩ := open_string Try.underlying9 (hval 0 9 v0 rfl rfl) h0
  obtain ⟨a1, rfl, rfl, rfl, w1⟩ := open_string Try.underlying9 (hval 1 9 v1 rfl rfl) h1
  clear hA0 hval0
  refine (walk a0 a1 W w0 w1).mono fun e W' ⟨he, bel⟩ => ?_
  subst he
  exact ⟨_, rfl, _, _, _, [], _, [], hW', trodAll_mk1 (shut_bool Try.underlying4 _), (trodAll_cons_mk (shut_string Try.underlying9 w0) (trodAll_cons_mk (shut_string Try.underlying9 w1) trodAll_mk0)), rfl, bel.frame _, fun h => by cases h⟩

-- the given statement
theorem proved : Rows.PathBackSaid :=
  OpenClaim.holds_of_wide 5 Try.f5 rfl rfl rfl rfl rfl rfl rfl ⟨rfl, rfl, rfl, rfl, rfl⟩ rfl rfl rfl rfl rfl (by kernel_rfl) Try.func5 (by kernel_rfl)
    (of_decide_eq_true (by kernel_rfl)) (by unfold Func.isWrapper; first | (rw [if_pos (by decide +kernel)]; kernel_rfl) | (rw [if_neg (by decide +kernel)]; exact ⟨rfl, rfl⟩))
    (fun os started H enc _ => lifted os started H enc)
end Go.Proofs.Ytekdgjllnlkfmaa.pathBack
