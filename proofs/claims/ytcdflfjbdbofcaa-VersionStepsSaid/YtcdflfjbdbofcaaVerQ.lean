/- A version no longer than is looked at. -/
import Derived.Test.YtcdflfjbdbofcaaVerJ
import Derived.Deep.RegionHeld3
import Derived.StillTailTactics
namespace Go.Proofs.Ytcdflfjbdbofcaa
open Go.RowKit

def fewL (l : List UInt8) : List UInt8 := l.take 400
def fewV (v : Ver) : Ver := (fewL v.1, fewL v.2.1, fewL v.2.2.1, (v.2.2.2.take 8).map fewL)
theorem fewB_mk (l : List UInt8) : fewB (mkB l) = mkB (fewL l) := by
  unfold fewB fewL
  rw [mkB_size]
  split
  · refine mkB_of' ?_
    have := strV_mk (mkB l) 0 400
    rw [this, mkB_list, mkB_list]; simp
  · rw [List.take_of_length_le (by omega)]
theorem few_l (l : List UInt8) (w : World) (hs : l.length ≤ maxLen) :
    Calls Try.prog 10 #[.string (mkB l)] w fun e w' => e = .returned (.string (mkB (fewL l))) ∧ w = w' := by
  have := few_any (mkB l) w (by rw [mkB_size]; exact hs)
  rwa [fewB_mk] at this
theorem few_s (l : List UInt8) (w : World) (hs : l.length ≤ maxLen) :
    Calls Try.prog 10 #[.string (mkB l)] w fun e w' => e = .returned (.string (mkB (fewL l))) ∧ w' = w := (few_l l w hs).mono fun _ _ ⟨h, k⟩ => ⟨h, k.symm⟩
theorem few_mk (s : ByteArray) : fewB s = mkB (fewL s.data.toList) := by
  have h : s = mkB s.data.toList := mkB_of' rfl
  rw [h, fewB_mk, mkB_list]
theorem few_ml (s : ByteArray) (w : World) (hs : s.size ≤ maxLen) :
    Calls Try.prog 10 #[.string s] w fun e w' => e = .returned (.string (mkB (fewL s.data.toList))) ∧ w = w' := by
  have := few_any s w hs
  rwa [few_mk] at this
theorem fewL_le (l : List UInt8) : (fewL l).length ≤ 400 := by unfold fewL; exact List.length_take_le _ _
/-- No part is longer than memory takes. -/
def fitsV (v : Ver) : Prop := v.1.length ≤ maxLen ∧ v.2.1.length ≤ maxLen ∧ v.2.2.1.length ≤ maxLen ∧ ∀ l ∈ v.2.2.2, l.length ≤ maxLen

theorem strsO {w : World} {base : Nat} {e : TypeId} {v : Value} {ls : List (List UInt8)} (h : w.ownsRow base e 1 v ls.length (ls.map strV)) : ∃ a c, v = .slice a ls.length c ∧ Strs w (.slice a ls.length c) ls ∧ ∀ ad, a = some ad → base ≤ ad.block := by
  have hst := Strs.owned h
  obtain ⟨a, c, rfl, _⟩ := hst.ex
  refine ⟨a, c, rfl, hst, fun ad ha => ?_⟩
  rcases Joins.ownsRow_forms h with ⟨he, _⟩ | ⟨g, cap, he⟩
  · injection he with he; rw [ha] at he; cases he
  · have hl := (h.lt g (by rw [he]; rfl)).1
    injection he with he; rw [ha] at he; injection he with he; rw [he]; exact hl

set_option maxHeartbeats 6400000 in
set_option maxRecDepth 100000 in
theorem fewv_any (V : Value) (v : Ver) (w : World) (hV : VerIn w V v) (hs : fitsV v) :
    Calls Try.prog 11 #[V] w fun e w' => ∃ a c, e = .returned (.agg #[.string (mkB (fewV v).1), .string (mkB (fewV v).2.1), .string (mkB (fewV v).2.2.1), .slice a (fewV v).2.2.2.length c]) ∧ Strs w' (.slice a (fewV v).2.2.2.length c) (fewV v).2.2.2 ∧ (∀ ad, a = some ad → w.heap.size ≤ ad.block) ∧ Below w.heap.size w w' := by
  obtain ⟨a, c, rfl, hst⟩ := hV.ex
  obtain ⟨ma, mi, pa, pre⟩ := v
  obtain ⟨s1, s2, s3, s5⟩ := hs
  simp only [fewV] at s1 s2 s3 s5 hst ⊢
  obtain ⟨n, hn⟩ : ∃ n, pre.length = n := ⟨_, rfl⟩
  obtain ⟨out, hout⟩ : ∃ out, (pre.take 8).map fewL = out := ⟨_, rfl⟩
  have hnm : n ≤ 9223372036854775807 := by
    obtain ⟨a', c', hv, h1, h2, _⟩ := hst.ex
    injection hv with _ h3 _
    unfold maxLen at h2
    omega
  rw [hn] at hst ⊢
  rw [hout]
  have HN := Lib.hid hn; have HOUT := Lib.hid hout; have HST := Lib.hid hst; have S1 := Lib.hid s1; have S2 := Lib.hid s2; have S3 := Lib.hid s3; have S5 := Lib.hid s5
  clear hn hout hst s1 s2 s3 s5 hV
  go_enter Try.func11, Try.ntmps11
  go_upto_region 1 with fail
  obtain ⟨wA, hwA⟩ : ∃ wA, wA = (w.alloc (.cells #[.string (mkB ma), .string (mkB mi), .string (mkB pa), .slice a n c] 24)).alloc (.cells zeroV4 24) := ⟨_, rfl⟩
  have r1 : wA.heap[w.heap.size]? = some (.cells #[.string (mkB ma), .string (mkB mi), .string (mkB pa), .slice a n c] 24) := by rw [hwA, Below.heap_alloc _ _ _ (by simp)]; exact heap_alloc_new _ _
  have r2 : wA.heap[w.heap.size + 1]? = some (.cells zeroV4 24) := by
    rw [hwA]; have := heap_alloc_new (w.alloc (.cells #[.string (mkB ma), .string (mkB mi), .string (mkB pa), .slice a n c] 24)) (.cells zeroV4 24); simpa using this
  have bA : Below w.heap.size w wA := by rw [hwA]; exact ((Below.refl _ _).alloc (Nat.le_refl _) _).alloc (by simp) _
  have hwz : wA.heap.size = w.heap.size + 1 + 1 := by rw [hwA]; simp
  change Code.wp _ _ _ _ ((w.alloc (.cells #[.string (mkB ma), .string (mkB mi), .string (mkB pa), .slice a n c] 24)).alloc (.cells zeroV4 24))
  rw [← hwA]
  obtain ⟨p, hp⟩ : ∃ p, w.heap.size = p := ⟨_, rfl⟩
  rw [hp] at r1 r2 hwz ⊢
  have BA := Lib.hid bA; have HP := Lib.hid hp; have R1 := Lib.hid r1; have R2 := Lib.hid r2; have HWZ := Lib.hid hwz
  clear bA hp hwA r1 r2 hwz
  obtain ⟨c0, c1, c2, c3, f0, f1, f2, f3⟩ := row4 R1.out
  go_still_tail 10, (by kernel_rfl)
  still_call (few_s ma _ S1.out)
  repeat still_step
  still_call (few_s mi _ S2.out)
  repeat still_step
  still_call (few_s pa _ S3.out)
  repeat still_step
  refine wpStill_nil ?_
  go_wp2
  obtain ⟨wB, hwB⟩ : ∃ wB, wB = (((wA.setCell ⟨p, 0, none⟩ (.string (mkB (fewL ma)))).setCell ⟨p, 1, none⟩ (.string (mkB (fewL mi)))).setCell ⟨p, 2, none⟩ (.string (mkB (fewL pa)))).drew := ⟨_, rfl⟩
  rw [← hwB]
  have rp : wB.heap[p]? = some (.cells #[.string (mkB (ma.take 400)), .string (mkB (mi.take 400)), .string (mkB (pa.take 400)), .slice a n c] 24) := by rw [hwB]; exact row4_set012 R1.out _ _ _
  have rz : wB.heap[p + 1]? = some (.cells zeroV4 24) := by rw [hwB]; exact row_far (row_far (row_far R2.out (by omega) _) (by omega) _) (by omega) _
  have bb : Below w.heap.size w wB := by rw [hwB]; exact below_step (((BA.out.setCell (Nat.le_of_eq HP.out) _).setCell (Nat.le_of_eq HP.out) _).setCell (Nat.le_of_eq HP.out) _) (below_q ⟨1, rfl⟩)
  have hpB : p + 1 < wB.heap.size := (Array.getElem?_eq_some_iff.1 rz).1
  clear hwB c0 c1 c2 c3 f0 f1 f2 f3
  have RP := Lib.hid rp; have RZ := Lib.hid rz; have BB := Lib.hid bb; have HPB := Lib.hid hpB
  clear rp rz bb hpB
  go_loopw [3, 4] (fun v i wr => ∃ (k : Nat) (acc : List (List UInt8)), k ≤ n ∧ k ≤ 8 ∧ i = .int .i64 k ∧ acc.length = k ∧ Hid (acc = (pre.take k).map fewL) ∧ wr.ownsRow wB.heap.size 9 1 v acc.length (acc.map strV) ∧ Hid (Below wB.heap.size wB wr)) (fun _ i _ => n - (intOf i).toNat)
  case atStart => exact ⟨0, [], Nat.zero_le _, Nat.zero_le _, rfl, rfl, Lib.hid (by simp), World.ownsRow_nil _ _ _ _, Lib.hid (Below.refl _ _)⟩
  case round =>
    obtain ⟨k, acc, hkn, hk8, rfl, hal, HACC, hown, HBR⟩ := hrel
    have cp := (row4 (row_keep RP.out HBR.out)).2.2.2.1
    by_cases hlt : k < n
    · by_cases h8 : k < 8
      · have hlt' : k < pre.length := by rw [HN.out]; exact hlt
        obtain ⟨b, off, ha, hbl, hc⟩ := strs_at HST.out k hlt'
        subst ha
        have hcell := (HBR.out.cell (p := ⟨b, off + k, none⟩) (Nat.lt_of_lt_of_le hbl BB.out.size)).trans ((BB.out.cell (p := ⟨b, off + k, none⟩) hbl).trans hc)
        have HQ : Hid ((pre.getD k []).length ≤ maxLen) := Lib.hid (S5.out _ (mem_getD hlt'))
        have hsucc : (pre.take (k + 1)).map fewL = (pre.take k).map fewL ++ [fewL (pre.getD k [])] := by
          rw [List.take_succ_eq_append_getElem hlt', List.map_append, List.getD_eq_getElem?_getD, List.getElem?_eq_getElem hlt']; rfl
        obtain ⟨q, hq⟩ : ∃ q, pre.getD k [] = q := ⟨_, rfl⟩
        rw [hq] at hcell HQ hsucc
        have HSUCC := Lib.hid hsucc
        have HAL := Lib.hid hal; have HOWN := Lib.hid hown
        clear hc hbl hq hlt' hsucc hal hown
        go_wp2_with (first
          | (go_at_call 10; refine (few_l _ _ HQ.out).mono ?_; rintro e w' ⟨rfl, rfl⟩)
          | (at_builtin; refine wpList_append_new rfl _ _ 22 rfl wB.heap.size 9 (.string ByteArray.empty) 1 16 Try.underlying22 Try.info_str rfl (by decide) _ _ _ rfl HOWN.out [.string (mkB (fewL q))] rfl rfl rfl (by have := HAL.out; omega) (by have := HAL.out; unfold maxLen; omega) HBR.out.size ?_))
        intro v' w' hown' hb'
        have ho2 : w'.ownsRow wB.heap.size 9 1 v' (acc ++ [fewL q]).length ((acc ++ [fewL q]).map strV) := by
          rw [List.length_append, List.map_append]; exact hown'
        have HO := Lib.hid ho2; clear ho2 hown'
        have HB2 := Lib.hid (HBR.out.trans hb')
        clear hb'
        go_wp2
        go_roundw
        case rel => exact ⟨k + 1, acc ++ [fewL q], by omega, by omega, by go_num, by rw [List.length_append, HAL.out]; rfl, Lib.hid (by rw [HSUCC.out, HACC.out]), HO.out, HB2⟩
        case measure => simp [intOf]; omega
      · have hout : acc = out := by
          rw [HACC.out, ← HOUT.out]
          congr 1
          have : k = 8 := by omega
          rw [this]
        obtain ⟨ao, co, rfl, hso, hfo⟩ := strsO hown
        rw [hout] at hso ⊢
        have SO := Lib.hid hso; have FO := Lib.hid hfo
        clear hout hown hal hso hfo
        obtain ⟨d0, d1, d2, d3, e0, e1, e2, e3⟩ := row4 (row_keep RP.out HBR.out)
        obtain ⟨k0, k1, k2, k3, l0, l1, l2, l3⟩ := row4 (row_keep RZ.out HBR.out)
        have FAR1 : Hid (∀ ad, ao = some ad → ad.block ≠ p) := Lib.hid (fun ad ha => by have := FO.out ad ha; have := HPB.out; omega)
        have FAR2 : Hid (∀ ad, ao = some ad → ad.block ≠ p + 1) := Lib.hid (fun ad ha => by have := FO.out ad ha; have := HPB.out; omega)
        have FRESH : Hid (∀ ad, ao = some ad → w.heap.size ≤ ad.block) := Lib.hid (fun ad ha => by have := FO.out ad ha; have := HPB.out; have := HP.out; omega)
        have BF : Hid (Below w.heap.size w wr) := Lib.hid (BB.out.trans (HBR.out.mono BB.out.size))
        have HPL : Hid (w.heap.size ≤ p) := Lib.hid (Nat.le_of_eq HP.out)
        have HPL1 : Hid (w.heap.size ≤ p + 1) := Lib.hid (by have := HP.out; omega)
        go_wp2
        try simp only [Exit.inBlock, Exit.then]
        exact bodyPost_ret (v := .agg #[.string (mkB (fewL ma)), .string (mkB (fewL mi)), .string (mkB (fewL pa)), .slice ao out.length co]) (results_cell_row (fn := Try.f11) (p := 2) (ty := 24) rfl _ _ (p + 1) 24 #[.string (mkB (fewL ma)), .string (mkB (fewL mi)), .string (mkB (fewL pa)), .slice ao out.length co] (0, 0) _ rfl (row4_set (row_far (row_keep RZ.out HBR.out) (by omega) _) _ _ _ _) Try.underlying24 rfl Try.size_ver) rfl
          ⟨ao, co, rfl, ((((SO.out.far FAR1.out).far FAR2.out).far FAR2.out).far FAR2.out).far FAR2.out, FRESH.out, ((((BF.out.setCell HPL.out _).setCell HPL1.out _).setCell HPL1.out _).setCell HPL1.out _).setCell HPL1.out _⟩
    · have hout : acc = out := by
        rw [HACC.out, ← HOUT.out]
        congr 1
        rw [List.take_of_length_le (by rw [HN.out]; omega), List.take_of_length_le (by rw [HN.out]; omega)]
      obtain ⟨ao, co, rfl, hso, hfo⟩ := strsO hown
      rw [hout] at hso ⊢
      have SO := Lib.hid hso; have FO := Lib.hid hfo
      clear hout hown hal hso hfo
      obtain ⟨d0, d1, d2, d3, e0, e1, e2, e3⟩ := row4 (row_keep RP.out HBR.out)
      obtain ⟨k0, k1, k2, k3, l0, l1, l2, l3⟩ := row4 (row_keep RZ.out HBR.out)
      have FAR1 : Hid (∀ ad, ao = some ad → ad.block ≠ p) := Lib.hid (fun ad ha => by have := FO.out ad ha; have := HPB.out; omega)
      have FAR2 : Hid (∀ ad, ao = some ad → ad.block ≠ p + 1) := Lib.hid (fun ad ha => by have := FO.out ad ha; have := HPB.out; omega)
      have FRESH : Hid (∀ ad, ao = some ad → w.heap.size ≤ ad.block) := Lib.hid (fun ad ha => by have := FO.out ad ha; have := HPB.out; have := HP.out; omega)
      have BF : Hid (Below w.heap.size w wr) := Lib.hid (BB.out.trans (HBR.out.mono BB.out.size))
      have HPL : Hid (w.heap.size ≤ p) := Lib.hid (Nat.le_of_eq HP.out)
      have HPL1 : Hid (w.heap.size ≤ p + 1) := Lib.hid (by have := HP.out; omega)
      go_wp2
      try simp only [Exit.inBlock, Exit.then]
      exact bodyPost_ret (v := .agg #[.string (mkB (fewL ma)), .string (mkB (fewL mi)), .string (mkB (fewL pa)), .slice ao out.length co]) (results_cell_row (fn := Try.f11) (p := 2) (ty := 24) rfl _ _ (p + 1) 24 #[.string (mkB (fewL ma)), .string (mkB (fewL mi)), .string (mkB (fewL pa)), .slice ao out.length co] (0, 0) _ rfl (row4_set (row_far (row_keep RZ.out HBR.out) (by omega) _) _ _ _ _) Try.underlying24 rfl Try.size_ver) rfl
        ⟨ao, co, rfl, ((((SO.out.far FAR1.out).far FAR2.out).far FAR2.out).far FAR2.out).far FAR2.out, FRESH.out, ((((BF.out.setCell HPL.out _).setCell HPL1.out _).setCell HPL1.out _).setCell HPL1.out _).setCell HPL1.out _⟩
end Go.Proofs.Ytcdflfjbdbofcaa
