/- For every text and octet: its parts, put together with the octet between them, are the text; none holds the octet; there is one more than of these; no condition. -/
import Derived.Test.YtonmifohcgddoaaRows
import Derived.Test.YtonmifohcgddoaaOctN
import Derived.ProofKit
import Derived.OpenShut
import Derived.ShutString
import Derived.ChangeOld
namespace Go.Proofs.Ytonmifohcgddoaa.octetParts
open Go.ChangeShapes Go.WideShapes Go.ChangeAt Go.RowKit
open Go.ChangeMaps (open_string shut_string)
set_option linter.unusedVariables false

set_option maxRecDepth 100000 in
set_option maxHeartbeats 1600000 in
theorem walk (a : ByteArray) (c : Int) (w : World) (ha : a.size ≤ maxLen) (w0 : (Lit.int .u8 c).wf = true) :
    Calls Try.prog 5 #[.string a, .int .u8 c] w fun e w' => e = .returned (.bool true) ∧ Below w.heap.size w w' := by
  have HA := Lib.hid ha; clear ha
  obtain ⟨hc0, hc1⟩ := bounds_u8 w0
  clear w0
  have h1 := fewB_size a
  obtain ⟨x, hx⟩ : ∃ x, x = fewB a := ⟨_, rfl⟩
  rw [← hx] at h1
  have HX := Lib.hid hx; clear hx
  obtain ⟨e1, e2⟩ := byteS_at c hc0 hc1
  have hj := jn_split c _ e2 x.data.toList
  have hnone := split_none c x.data.toList
  have hcnt := split_cnt c x.data.toList
  have hlx := splitL_len c x.data.toList
  rw [← Lib.size_eq] at hlx
  have hjle := fun k => jn_le (UInt8.ofNat c.toNat) (splitL c x.data.toList) k
  rw [hj, ← Lib.size_eq] at hjle
  have hn0 : 0 < (splitL c x.data.toList).length := by omega
  obtain ⟨ls, hls⟩ : ∃ ls, ls = splitL c x.data.toList := ⟨_, rfl⟩
  rw [← hls] at hj hnone hcnt hlx hjle hn0
  have hsz : (byteS c).size = 1 := rfl
  have hconv := one_byte c
  have HLS := Lib.hid hls; have HJ := Lib.hid hj; have HNONE := Lib.hid hnone; have HCNT := Lib.hid hcnt; have HJLE := Lib.hid hjle; have E1 := Lib.hid e1
  clear hls hj hnone hcnt hjle e1 e2
  go_enter Try.func5, Try.ntmps5
  go_wp2_with (go_at_call 10; refine (few_any _ _ HA.out).mono ?_; rintro e w' ⟨rfl, rfl⟩; rw [← HX.out])
  refine (parts_any x c _ (by omega)).mono ?_
  rintro e w1 ⟨v1, rfl, ho1, B1⟩
  rw [← HLS.out] at ho1
  obtain ⟨g, cap, rfl⟩ := Joins.ownsRow_form ho1 hn0
  have hg := (ho1.lt g rfl).2
  have hcells : ∀ j, j < ls.length → w1.cell? ⟨g, j, none⟩ = some (strV (ls.getD j [])) := by
    intro j hj
    rw [ho1.cellAt j (by omega), List.getElem?_map, List.getD_eq_getElem?_getD, List.getElem?_eq_getElem hj]
    rfl
  have HC := Lib.hid hcells; clear hcells ho1
  obtain ⟨n, hn⟩ : ∃ n, n = ls.length := ⟨_, rfl⟩
  rw [← hn] at hn0 hlx ⊢
  have HN := Lib.hid hn; clear hn
  go_wp2_with fail
  go_loopw [6, 8] (fun o i wr => ∃ (k : Nat) (ob : ByteArray), k ≤ n ∧ i = .int .i64 k ∧ o = .string ob ∧ Hid (ob.data.toList = jn (UInt8.ofNat c.toNat) (ls.take k)) ∧ Below w1.heap.size w1 wr) (fun _ i _ => n - (intOf i).toNat)
  case atStart => exact ⟨0, _, Nat.zero_le _, rfl, rfl, Lib.hid (by simp [jn]), Below.refl _ _⟩
  case round =>
    obtain ⟨k, ob, hk, rfl, rfl, HOB, B2⟩ := hrel
    by_cases hlt : k < n
    · have hc2 : wr.cell? ⟨g, k, none⟩ = some (strV (ls.getD k [])) := by rw [B2.cell (by exact hg)]; exact HC.out k (by rw [← HN.out]; exact hlt)
      unfold strV at hc2
      obtain ⟨p, hp⟩ : ∃ p : ByteArray, p = ⟨(ls.getD k []).toArray⟩ := ⟨_, rfl⟩
      rw [← hp] at hc2
      have hob : ob.size ≤ 400 := by
        have := HJLE.out k
        rw [Lib.size_eq, HOB.out]
        omega
      have hkl : k < ls.length := by rw [← HN.out]; exact hlt
      have hmem : ls.getD k [] ∈ ls := by
        rw [List.getD_eq_getElem?_getD, List.getElem?_eq_getElem hkl]
        exact List.getElem_mem hkl
      have hgr : g < wr.heap.size := Nat.lt_of_lt_of_le hg B2.size
      have hc3 : ∀ o, (wr.alloc o).cell? ⟨g, k, none⟩ = some (.string p) := fun o => (((Below.refl wr.heap.size wr).alloc (Nat.le_refl _) o).cell (p := ⟨g, k, none⟩) hgr).trans hc2
      have hpe : p.data.toList = ls.getD k [] := by rw [hp]
      rw [← hpe] at hmem
      have HP := Lib.hid hp; have HMEM := Lib.hid hmem; clear hp hmem
      by_cases hk0 : k = 0
      · subst hk0
        have hnew : (ob ++ p).data.toList = jn (UInt8.ofNat c.toNat) (ls.take 1) := by
          rw [cat_list, jn_zero _ _ (by omega), hpe, HOB.out]; rfl
        have hps : p.size ≤ 400 := by
          have := HJLE.out 1
          rw [← hnew, ← Lib.size_eq, cat_size] at this
          omega
        have HNEW := Lib.hid hnew; clear hnew hpe
        go_wp2_with fail
        go_loop [9] (fun j => ∃ m : Nat, m ≤ p.size ∧ j = .int .i64 m) (fun j => p.size - (intOf j).toNat)
        case atStart => exact ⟨0, Nat.zero_le _, rfl⟩
        case round =>
          obtain ⟨m, hm, rfl⟩ := hrel
          by_cases hml : m < p.size
          · have hne : ((p[m].toNat : Int) == c) = false := by
              rw [beq_eq_false_iff_ne]
              have hmem : p[m] ∈ p.data.toList := Array.mem_toList_iff.2 (Array.getElem_mem _)
              exact HNONE.out _ HMEM.out _ hmem
            go_wp2
            go_round
            case rel => exact ⟨m + 1, by omega, by go_num⟩
            case measure => simp [intOf]; omega
          · go_wp2
            go_roundw
            case rel => exact ⟨1, _, by omega, by go_num, rfl, HNEW, B2⟩
            case measure => simp [intOf]; omega
      · have hkp : 0 < k := by omega
        have hnew : (ob ++ byteS c ++ p).data.toList = jn (UInt8.ofNat c.toNat) (ls.take (k + 1)) := by
          rw [cat_list, cat_list, jn_succ _ _ _ hkp hkl, hpe, HOB.out, E1.out]; simp
        have hps : p.size ≤ 400 := by
          have := HJLE.out (k + 1)
          rw [← hnew, ← Lib.size_eq, cat_size] at this
          omega
        have HNEW := Lib.hid hnew; clear hnew hpe hk0
        go_wp2_with fail
        go_loop [9] (fun j => ∃ m : Nat, m ≤ p.size ∧ j = .int .i64 m) (fun j => p.size - (intOf j).toNat)
        case atStart => exact ⟨0, Nat.zero_le _, rfl⟩
        case round =>
          obtain ⟨m, hm, rfl⟩ := hrel
          by_cases hml : m < p.size
          · have hne : ((p[m].toNat : Int) == c) = false := by
              rw [beq_eq_false_iff_ne]
              have hmem : p[m] ∈ p.data.toList := Array.mem_toList_iff.2 (Array.getElem_mem _)
              exact HNONE.out _ HMEM.out _ hmem
            go_wp2
            go_round
            case rel => exact ⟨m + 1, by omega, by go_num⟩
            case measure => simp [intOf]; omega
          · go_wp2
            go_roundw
            case rel => exact ⟨k + 1, _, by omega, by go_num, rfl, HNEW, (B2.alloc B2.size _)⟩
            case measure => simp [intOf]; omega
    · have hkn : k = n := by omega
      have hob : ob.toList = x.toList := by
        rw [Lib.toList_data, Lib.toList_data, HOB.out, List.take_of_length_le (by rw [← HN.out]; omega), HJ.out]
      have HEQ := Lib.hid hob; clear hob
      have HK := Lib.hid hkn; clear hkn
      go_wp2
      go_loop [7, 10] (fun m i => ∃ t : Nat, t ≤ x.size ∧ i = .int .i64 t ∧ ∃ q : Nat, q ≤ t ∧ m = .int .i64 q ∧ Hid (q + cntL c (x.data.toList.drop t) = cntL c x.data.toList)) (fun _ i => x.size - (intOf i).toNat)
      case atStart => exact ⟨0, Nat.zero_le _, rfl, 0, Nat.le_refl _, rfl, Lib.hid (by simp)⟩
      case round =>
        obtain ⟨t, ht, rfl, q, hq, rfl, H⟩ := hrel
        by_cases htl : t < x.size
        · have hd := drop_at x t htl
          by_cases hc : (x[t].toNat : Int) = c
          · have hb : ((x[t].toNat : Int) == c) = true := by simpa using hc
            have hs : q + 1 + cntL c (x.data.toList.drop (t + 1)) = cntL c x.data.toList := by
              rw [← H.out, hd, cntL, if_pos hc]; omega
            have HS := Lib.hid hs; clear hs hd hc
            go_wp2
            go_round
            case rel => exact ⟨t + 1, by omega, by go_num, q + 1, by omega, by go_num, HS⟩
            case measure => simp [intOf]; omega
          · have hb : ((x[t].toNat : Int) == c) = false := by simpa using hc
            have hs : q + cntL c (x.data.toList.drop (t + 1)) = cntL c x.data.toList := by
              rw [← H.out, hd, cntL, if_neg hc]; omega
            have HS := Lib.hid hs; clear hs hd hc
            go_wp2
            go_round
            case rel => exact ⟨t + 1, by omega, by go_num, q, by omega, rfl, HS⟩
            case measure => simp [intOf]; omega
        · have hq2 : ((n : Int) == (q : Int) + 1) = true := by
            have h5 := H.out
            rw [drop_end x t (by omega)] at h5
            have h6 := HCNT.out
            have h7 := HN.out
            simp only [cntL] at h5
            rw [beq_iff_eq]
            omega
          have hob : (ob.toList == x.toList) = true := by rw [HEQ.out]; simp
          go_wp2_with (go_at_call 17; refine (awake_any _).mono ?_; rintro e w9 ⟨rfl, hb9⟩)
          go_ret
          exact ⟨rfl, below_step B1 (below_step B2 hb9)⟩

theorem own : ownKnob Try.prog.godebug = none := by kernel_rfl
theorem laidOut : laidOutB Try.prog = true := by kernel_rfl

set_option maxRecDepth 100000 in
theorem lifted (os : Os) (started : os.Started) (H : Type) (enc : TypeId × Value → H) :
    ReturnsInHanded {} Try.checked os 5 .any (Rows.octetPartsSpec.pre6 enc Try.prog Try.f5 Rows.octetPartsRow.domain false) (Rows.octetPartsSpec.post enc Try.prog Try.f5 false true false false) := by
  refine returnsInHanded_of_change (C := Try.checked) own started (by kernel_rfl) Try.func5
    (ChangeSpec.witness6 (enc := enc) (C := Try.checked) false ⟨#[], #[.string ByteArray.empty, .int .u8 0], []⟩ 8 (by kernel_rfl) (by kernel_rfl) (by kernel_rfl) (by kernel_rfl)) ?_
  intro W base args ds gs before hval0 hW hcnd _
  have hval : ∀ (j : Nat) t v, Try.f5.params[j]? = some t → args[j]? = some v → Value.okWide Try.prog W .any base t v := hval0
  have hW' := hW
  obtain ⟨p, q, hA0, hV, rfl, hfz, hnd⟩ := hW
  have hA : DataW.TrodAll enc Try.prog W 0 (fun _ => true) true Try.f5.params.toList args.toList ds p := hA0
  rw [Try.params5] at hA hval
  obtain ⟨v0, vs0, d0, ds0, p0, q0, hargs, rfl, rfl, h0, r0⟩ := trodAll_cons hA
  obtain ⟨v1, vs1, d1, ds1, p1, q1, rfl, rfl, rfl, h1, r1⟩ := trodAll_cons r0
  obtain ⟨rfl, rfl, rfl⟩ := trodAll_nil r1
  obtain rfl : args = #[v0, v1] := by cases args; simp_all
  obtain ⟨rfl, rfl⟩ := trodVars_none hV
  obtain ⟨a0, rfl, rfl, rfl, w0⟩ := open_string Try.underlying9 (hval 0 9 v0 rfl rfl) h0
  obtain ⟨a1, rfl, rfl, rfl, w1⟩ := open_int Try.underlying5 (hval 1 5 v1 rfl rfl) h1
  clear hA0 hval0
  refine (walk a0 a1 W w0 w1).mono fun e W' ⟨he, bel⟩ => ?_
  subst he
  exact ⟨_, rfl, _, _, _, [], _, [], hW', trodAll_mk1 (shut_bool Try.underlying4 _), (trodAll_cons_mk (shut_string Try.underlying9 w0) (trodAll_cons_mk (shut_int Try.underlying5 w1) trodAll_mk0)), rfl, bel.frame _, fun h => by cases h⟩

-- the given statement
theorem proved : Rows.OctetPartsSaid :=
  OpenClaim.holds_of_wide 5 Try.f5 rfl rfl rfl rfl rfl rfl rfl ⟨rfl, rfl, rfl, rfl, rfl⟩ rfl rfl rfl rfl rfl (by kernel_rfl) Try.func5 (by kernel_rfl)
    (of_decide_eq_true (by kernel_rfl)) (by unfold Func.isWrapper; first | (rw [if_pos (by decide +kernel)]; kernel_rfl) | (rw [if_neg (by decide +kernel)]; exact ⟨rfl, rfl⟩))
    (fun os started H enc _ => lifted os started H enc)
end Go.Proofs.Ytonmifohcgddoaa.octetParts
