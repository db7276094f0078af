/- For every list of texts (no longer than is looked at): what is put together, or that one is no element, or there is none, is the document's; no condition. -/
import Derived.Test.YtekdgjllnlkfmaaRows
import Derived.Test.YtekdgjllnlkfmaaPatN
import Derived.Test.YtekdgjllnlkfmaaOctR
import Derived.ProofKit
import Derived.OpenShut
import Derived.ShutString
import Derived.ChangeOld
namespace Go.Proofs.Ytekdgjllnlkfmaa.pathJoins
open Go.ChangeShapes Go.WideShapes Go.ChangeAt Go.RowKit
open Go.ChangeMaps (open_string shut_string)
set_option linter.unusedVariables false

set_option maxHeartbeats 3200000 in
set_option maxRecDepth 100000 in
theorem walk (V : Value) (zs : List (List UInt8)) (w : World) (hl : Strs w V zs ∧ ∀ l ∈ zs, l.length ≤ maxLen) :
    Calls Try.prog 4 #[V] w fun e w' => e = .returned (.bool true) ∧ Below w.heap.size w w' := by
  obtain ⟨hst, hs5⟩ := hl
  obtain ⟨al, cl, rfl, _, hcl, _, _⟩ := hst.ex
  obtain ⟨n, hn⟩ : ∃ n, zs.length = n := ⟨_, rfl⟩
  have hnm : n ≤ 9223372036854775807 := by
    obtain ⟨a', c', hv, h1, h2, _⟩ := hst.ex
    injection hv with _ h3 _
    unfold maxLen at h2
    omega
  rw [hn] at hst ⊢
  have hlen := someL_len 8 zs
  have hle := someL_le 8 zs
  have htk : ∀ k, k < 8 → k < n → (someL 8 zs).take (k + 1) = (someL 8 zs).take k ++ [fewL (zs.getD k [])] := fun k h1 h2 => someL_take h1 (by omega)
  obtain ⟨ls, hls⟩ : ∃ ls, someL 8 zs = ls := ⟨_, rfl⟩
  rw [hls] at hlen hle htk
  rw [hn] at hlen
  have hjl : ∀ k, (jn 47 (ls.take k)).length ≤ 8 * 401 := fun k => by
    have h1 := jn_len 47 400 (ls.take k) fun l hl => hle l (List.mem_of_mem_take hl)
    have h2 : (ls.take k).length ≤ 8 := by rw [List.length_take]; omega
    have h3 : (ls.take k).length * 401 ≤ 8 * 401 := Nat.mul_le_mul_right _ h2
    omega
  have L1 : Hid (∀ l ∈ ls, l.length ≤ 1000000000) := Lib.hid fun l hl => by have := hle l hl; omega
  have L4 : Hid (∀ l ∈ ls, l.length ≤ 400) := Lib.hid hle
  have hkj : okJ ls = (decide (0 < n) && ls.all elemB) := by
    unfold okJ
    congr 1
    rw [decide_eq_decide, hlen]; omega
  have HLEN := Lib.hid hlen; have TK := Lib.hid htk; have JL := Lib.hid hjl; have HST := Lib.hid hst; have S5 := Lib.hid hs5; have HN := Lib.hid hn; have KJ := Lib.hid hkj
  clear hlen hle htk hjl hst hs5 hn hkj hcl hls
  have BL := Lib.hid (Below.refl w.heap.size w)
  obtain ⟨pos, hpos⟩ : ∃ b, decide (0 < n) = b := ⟨_, rfl⟩
  rw [hpos] at KJ
  have hpos' : decide ((0 : Int) < (n : Int)) = pos := by rw [← hpos, decide_eq_decide]; omega
  go_enter Try.func4, Try.ntmps4
  go_wp2
  go_loopw [3, 4, 5, 6] (fun v ok want i wr => ∃ k : Nat, k ≤ n ∧ k ≤ 8 ∧ i = .int .i64 k ∧ wr.ownsRow w.heap.size 9 1 v k ((ls.take k).map strV) ∧ ok = .bool (pos && (ls.take k).all elemB) ∧ want = .string (mkB (jn 47 (ls.take k))) ∧ Hid (Below w.heap.size w wr)) (fun _ _ _ i _ => n - (intOf i).toNat)
  case atStart => exact ⟨0, Nat.zero_le _, Nat.zero_le _, rfl, World.ownsRow_nil _ _ _ _, by simp, rfl, Lib.hid (Below.refl _ _)⟩
  case round =>
    obtain ⟨k, hkn, hk8, rfl, hown, rfl, rfl, HBR⟩ := hrel
    by_cases hh : k < n ∧ k < 8
    · obtain ⟨hlt, h8⟩ := hh
      have hlt' : k < zs.length := by rw [HN.out]; exact hlt
      obtain ⟨b1, off1, ha1, hbl, hc⟩ := strs_at HST.out k hlt'
      subst ha1
      have hcell := (HBR.out.cell (p := ⟨b1, off1 + k, none⟩) hbl).trans hc
      have HQ : Hid ((zs.getD k []).length ≤ maxLen) := Lib.hid (S5.out _ (mem_getD hlt'))
      have htk := TK.out k h8 hlt
      have hkl : k < ls.length := by rw [HLEN.out]; omega
      have hjn := jn_take_succ 47 htk hkl
      have hjl := JL.out k
      obtain ⟨q, hq⟩ : ∃ q, zs.getD k [] = q := ⟨_, rfl⟩
      rw [hq] at hcell HQ htk hjn
      obtain ⟨y, hy⟩ : ∃ y, fewL q = y := ⟨_, rfl⟩
      rw [hy] at htk hjn
      have hyl : y.length ≤ 400 := by rw [← hy]; exact fewL_le q
      have hall : (ls.take (k + 1)).all elemB = ((ls.take k).all elemB && elemB y) := by rw [htk, List.all_append, List.all_cons]; simp
      obtain ⟨wk, hwk⟩ : ∃ l, jn 47 (ls.take k) = l := ⟨_, rfl⟩
      obtain ⟨wn, hwn⟩ : ∃ l, jn 47 (ls.take (k + 1)) = l := ⟨_, rfl⟩
      rw [hwk] at hjl
      rw [hwn, hwk] at hjn
      rw [hwk]
      obtain ⟨al1, hal1⟩ : ∃ b, (ls.take k).all elemB = b := ⟨_, rfl⟩
      rw [hal1] at hall ⊢
      obtain ⟨ey, hey⟩ : ∃ b, elemB y = b := ⟨_, rfl⟩
      rw [hey] at hall
      obtain ⟨ok, hok⟩ : ∃ b, (pos && al1) = b := ⟨_, rfl⟩
      rw [hok]
      have hokn : (pos && (ls.take (k + 1)).all elemB) = (ok && ey) := by rw [hall, ← hok, Bool.and_assoc]
      have bw : (mkB wk).size ≤ 8 * 401 := by rw [mkB_size]; exact hjl
      have bY : (mkB y).size ≤ 400 := by rw [mkB_size]; exact hyl
      have SYL : Hid (y.length ≤ 1000000000) := Lib.hid (by omega)
      have TKL : Hid ((ls.take k).length = k) := Lib.hid (by rw [List.length_take]; omega)
      have T0 := Lib.hid (cat_txt wk y)
      have T1 := Lib.hid (slash_txt wk y)
      have HOWN := Lib.hid hown; have HTK := Lib.hid htk; have HY := Lib.hid hy; have HEY := Lib.hid hey; have HOKN := Lib.hid hokn; have HJN := Lib.hid hjn; have HWN := Lib.hid hwn; have HWK := Lib.hid hwk
      clear hc hbl hq hlt' htk hown hy hyl hall hwk hwn hjn hjl hal1 hey hok hokn hkl
      by_cases hk0 : k = 0
      · have hd0 : decide (0 < k) = false := by rw [decide_eq_false_iff_not]; omega
        have hjn := HJN.out
        rw [if_pos hk0] at hjn
        have hjn' : wn = wk ++ y := by rw [hjn, ← HWK.out, hk0]; simp [jn]
        have HK0 := Lib.hid hk0; have HJ := Lib.hid hjn'; clear hjn hjn' hk0
        cases ok
        all_goals
          go_wp2_with (first
            | (go_at_call 9; refine (few_l _ _ HQ.out).mono ?_; rintro e w' ⟨rfl, rfl⟩; rw [HY.out])
            | (at_builtin; refine wpList_append_new rfl _ _ 23 rfl w.heap.size 9 (.string ByteArray.empty) 1 16 Try.underlying23 Try.info_str rfl (by decide) _ _ _ rfl HOWN.out [.string (mkB y)] rfl rfl rfl (by omega) (by unfold maxLen; omega) HBR.out.size ?_; intro v' w' hown' hb'; have O2 : Hid (w'.ownsRow w.heap.size 9 1 v' (k + 1) ((ls.take k ++ [y]).map strV)) := Lib.hid (by rw [List.map_append]; exact hown'); clear hown'; have HB2 := Lib.hid (HBR.out.trans hb'); clear hb'; obtain ⟨g, cap, rfl⟩ := Joins.ownsRow_form O2.out (by omega); have hcl : w'.cell? ⟨g, k, none⟩ = some (.string (mkB y)) := own_last O2.out TKL.out rfl)
            | (go_at_call 18; refine (elementm_any y _ SYL.out).mono ?_; rintro e w' ⟨rfl, rfl⟩; rw [HEY.out]))
          go_roundw
          case rel => exact ⟨k + 1, by omega, by omega, by go_num, by rw [HTK.out]; exact O2.out, by rw [HOKN.out]; first | rfl | (simp; done), by rw [HWN.out, HJ.out, T0.out], HB2⟩
          case measure => simp [intOf]; omega
      · have hd0 : 0 < k := by omega
        have hjn := HJN.out
        rw [if_neg hk0] at hjn
        have HJ := Lib.hid hjn; clear hjn hk0
        cases ok
        all_goals
          go_wp2_with (first
            | (go_at_call 9; refine (few_l _ _ HQ.out).mono ?_; rintro e w' ⟨rfl, rfl⟩; rw [HY.out])
            | (at_builtin; refine wpList_append_new rfl _ _ 23 rfl w.heap.size 9 (.string ByteArray.empty) 1 16 Try.underlying23 Try.info_str rfl (by decide) _ _ _ rfl HOWN.out [.string (mkB y)] rfl rfl rfl (by omega) (by unfold maxLen; omega) HBR.out.size ?_; intro v' w' hown' hb'; have O2 : Hid (w'.ownsRow w.heap.size 9 1 v' (k + 1) ((ls.take k ++ [y]).map strV)) := Lib.hid (by rw [List.map_append]; exact hown'); clear hown'; have HB2 := Lib.hid (HBR.out.trans hb'); clear hb'; obtain ⟨g, cap, rfl⟩ := Joins.ownsRow_form O2.out (by omega); have hcl : w'.cell? ⟨g, k, none⟩ = some (.string (mkB y)) := own_last O2.out TKL.out rfl)
            | (go_at_call 18; refine (elementm_any y _ SYL.out).mono ?_; rintro e w' ⟨rfl, rfl⟩; rw [HEY.out]))
          go_roundw
          case rel => exact ⟨k + 1, by omega, by omega, by go_num, by rw [HTK.out]; exact O2.out, by rw [HOKN.out]; first | rfl | (simp; done), by rw [HWN.out, HJ.out, T1.out], HB2⟩
          case measure => simp [intOf]; omega
    · have hkl : k = ls.length := by rw [HLEN.out]; omega
      have htk : ls.take k = ls := List.take_of_length_le (by omega)
      rw [htk] at hown ⊢
      rw [hkl] at hown
      have hso := Strs.owned hown
      obtain ⟨ao, co, rfl, _⟩ := hso.ex
      rw [← KJ.out]
      rw [← hkl] at hso ⊢
      have Q1 : Hid ((jn 47 ls).length ≤ 1000000000) := Lib.hid (by have := JL.out k; rw [htk] at this; omega)
      have N1 : Hid (ls.length ≤ 1000000000) := Lib.hid (by omega)
      have ST := Lib.hid hso
      obtain ⟨wk, hwk⟩ : ∃ l, jn 47 ls = l := ⟨_, rfl⟩
      rw [hwk]
      have hj1 : okJ ls = true → joinP ls = (wk, 0) := fun h => by rw [joinP_ok h, hwk]
      have hj0 : okJ ls = false → joinP ls = ([], 1) := joinP_no
      have J1 := Lib.hid hj1; have J0 := Lib.hid hj0; have HBW := Lib.hid (below_step BL.out HBR.out)
      have hq : ((mkB wk).toList == (mkB wk).toList) = true := by simp
      clear hkl htk hown hso hwk hj1 hj0
      cases hok : okJ ls
      · have J := Lib.hid (J0.out hok); clear hok
        have he : (mkB []).toList.isEmpty = true := by rw [Lib.toList_data, mkB_list]; rfl
        by_cases hlt : k < n
        all_goals
          go_wp2_with (first
            | (go_at_call 19; refine (pjoin_any _ ls _ ST.out L1.out N1.out Q1.out).mono ?_; rintro e w1 ⟨rfl, hb1⟩; rw [J.out]; replace HBW := Lib.hid (below_step HBW.out hb1); clear hb1)
            | (go_at_call 15; refine (awake4_any _).mono ?_; rintro e w1 ⟨rfl, hb1⟩; replace HBW := Lib.hid (below_step HBW.out hb1); clear hb1))
          go_ret
          exact ⟨rfl, HBW.out⟩
      · have J := Lib.hid (J1.out hok); clear hok
        by_cases hlt : k < n
        all_goals
          go_wp2_with (first
            | (go_at_call 19; refine (pjoin_any _ ls _ ST.out L1.out N1.out Q1.out).mono ?_; rintro e w1 ⟨rfl, hb1⟩; rw [J.out]; replace HBW := Lib.hid (below_step HBW.out hb1); clear hb1)
            | (go_at_call 15; refine (awake4_any _).mono ?_; rintro e w1 ⟨rfl, hb1⟩; replace HBW := Lib.hid (below_step HBW.out hb1); clear hb1))
          go_ret
          exact ⟨rfl, HBW.out⟩

theorem own : ownKnob Try.prog.godebug = none := by kernel_rfl
theorem laidOut : laidOutB Try.prog = true := by kernel_rfl

set_option maxRecDepth 100000 in
theorem lifted (os : Os) (started : os.Started) (H : Type) (enc : TypeId × Value → H) :
    ReturnsInHanded {} Try.checked os 4 .any (Rows.pathJoinsSpec.pre6 enc Try.prog Try.f4 Rows.pathJoinsRow.domain false) (Rows.pathJoinsSpec.post enc Try.prog Try.f4 false true false false) := by
  refine returnsInHanded_of_change (C := Try.checked) own started (by kernel_rfl) Try.func4
    (ChangeSpec.witness6 (enc := enc) (C := Try.checked) false ⟨#[], #[.slice none 0 0], []⟩ 8 (by kernel_rfl) (by kernel_rfl) (by kernel_rfl) (by kernel_rfl)) ?_
  intro W base args ds gs before hval0 hW hcnd _
  have hval : ∀ (j : Nat) t v, Try.f4.params[j]? = some t → args[j]? = some v → Value.okWide Try.prog W .any base t v := hval0
  have hW' := hW
  obtain ⟨p, q, hA0, hV, rfl, hfz, hnd⟩ := hW
  have hA : DataW.TrodAll enc Try.prog W 0 (fun _ => true) true Try.f4.params.toList args.toList ds p := hA0
  rw [Try.params4] at hA hval
  obtain ⟨v0, vs0, d0, ds0, p0, q0, hargs, rfl, rfl, h0, r0⟩ := trodAll_cons hA
  obtain ⟨rfl, rfl, rfl⟩ := trodAll_nil r0
  obtain rfl : args = #[v0] := by cases args; simp_all
  obtain ⟨rfl, rfl⟩ := trodVars_none hV
  obtain ⟨a0, len0, cap0, rfl⟩ := okWide_slice Try.underlying23 (hval 0 23 v0 rfl rfl)
  have k0 := h0
  have lt0 : ∀ x ∈ p0, x.block < W.heap.size := by obtain ⟨m, hm⟩ := k0; exact DataW.trod_lt m _ _ _ hm
  obtain ⟨z0, w0⟩ : ∃ zs, Strs W (.slice a0 len0 cap0) zs ∧ ∀ l ∈ zs, l.length ≤ maxLen := by
    obtain ⟨fuel, hf⟩ := h0
    exact strs_open (by simpa [Value.cells] using hf)
  clear hA0 hval0
  refine (walk _ z0 W w0).mono fun e W' ⟨he, bel⟩ => ?_
  subst he
  exact ⟨_, rfl, _, _, _, [], _, [], hW', trodAll_mk1 (shut_bool Try.underlying4 _), (trodAll_cons_mk (Below.trod laidOut (by kernel_rfl) (of_decide_eq_true (by kernel_rfl)) k0 bel lt0) trodAll_mk0), rfl, bel.frame _, fun h => by cases h⟩

-- the given statement
theorem proved : Rows.PathJoinsSaid :=
  OpenClaim.holds_of_wide 4 Try.f4 rfl rfl rfl rfl rfl rfl rfl ⟨rfl, rfl, rfl, rfl, rfl⟩ rfl rfl rfl rfl rfl (by kernel_rfl) Try.func4 (by kernel_rfl)
    (of_decide_eq_true (by kernel_rfl)) (by unfold Func.isWrapper; first | (rw [if_pos (by decide +kernel)]; kernel_rfl) | (rw [if_neg (by decide +kernel)]; exact ⟨rfl, rfl⟩))
    (fun os started H enc _ => lifted os started H enc)
end Go.Proofs.Ytekdgjllnlkfmaa.pathJoins
