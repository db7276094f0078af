/- The set of a list. -/
import Derived.Test.YtnngfcjfhhfafaaGreatNodJ
namespace Go.Proofs.YtnngfcjfhhfafaaGreat
open Go.RowKit
set_option maxRecDepth 100000

theorem nodup_len : ∀ {s K : List Nd}, s.Nodup → (∀ n ∈ s, n ∈ K) → s.length ≤ K.length
  | [], _, _, _ => Nat.zero_le _
  | x :: s, K, hn, h => by
    have hx := h x (by simp)
    have hi := nodup_len (s := s) (K := K.erase x) (List.nodup_cons.1 hn).2 (fun n hm => (List.mem_erase_of_ne (by intro e; subst e; exact (List.nodup_cons.1 hn).1 hm)).2 (h n (by simp [hm])))
    rw [List.length_erase_of_mem hx] at hi
    have hp := List.length_pos_of_mem hx
    simp only [List.length_cons]; omega
set_option maxHeartbeats 800000 in
theorem nsorted_any (Bm b nn : Nat) (K : List Nd) (w : World) (hBm : Bm < w.heap.size) (hm : w.cell? ⟨Bm, 0, none⟩ = some (.map (some b))) (hown : NMap w b nn K) (hok : ∀ n ∈ K, okN n = true ∧ smallN n) (hnn : nn ≤ 1000000) (hKl : K.length ≤ 1000000) :
    Calls Tryz.prog 66 #[.func (.func 84) #[] #[.pointer (some ⟨Bm, 0, none⟩)], .func (.func 69) #[] #[]] w fun e w' => ∃ v ss, e = .returned v ∧ Rises ss ∧ (∀ n, n ∈ ss ↔ n ∈ K) ∧ w'.ownsRow w.heap.size 24 2 v ss.length (ndsC ss) ∧ Below w.heap.size w w' := by
  have hco := callsIn_wide.1 (collect_in Fence.wide 5 trivial trivial rfl (by decide) 84 #[.pointer (some ⟨Bm, 0, none⟩)] trivial (enters_of Tryz.func84 (by kernel_rfl) rfl) _ nn (by unfold maxLen; omega) (by omega) w (keys_stops Fence.wide (5 - 1 - 1) trivial rfl (by decide) Bm b nn K w hBm hm hown))
  have HOK := Lib.hid hok
  clear hBm hm hown hok
  go_enter Tryz.func66, Tryz.ntmps66
  go_wp2_with (first
    | (go_at_call 82; refine hco.mono ?_; rintro e w1 ⟨v, ss, rfl, ⟨hnd, hmem⟩, hrow, -, hb1⟩; have HR := Lib.hid hrow; have B := Lib.hid hb1; clear hrow hb1 hco)
    | (go_at_call 83; refine (nsort_any _ _ _ ss HR.out (fun n hn => HOK.out n ((hmem n).1 hn)) hnd (Nat.le_trans (nodup_len hnd fun n hn => (hmem n).1 hn) hKl)).mono ?_; rintro e w2 ⟨rfl, ts, hrs, hmt, -, hrow2, hg⟩))
  go_ret
  exact ⟨v, ts, rfl, hrs, fun n => (hmt n).trans (hmem n), hrow2, B.out.grown hg B.out.size (fun k hk => (HR.out.lt k hk).1)⟩

/-! ### The set -/
def allN (l : List Nd) : Bool := l.all okN
def setNE (l : List Nd) : List Nd × Int := if allN l = true then (setN l, 0) else ([], 1)
theorem setNE_yes {l : List Nd} (h : allN l = true) : setNE l = (setN l, 0) := by unfold setNE; rw [if_pos h]
theorem setNE_no {l : List Nd} (h : allN l = false) : setNE l = ([], 1) := by unfold setNE; rw [if_neg (by simp [h])]
theorem allN_ok {l : List Nd} (h : allN l = true) : ∀ n ∈ l, okN n = true := List.all_eq_true.1 h
theorem allN_take {l : List Nd} {k : Nat} (h : k < l.length) (o : okN (l.getD k ([], [])) = true) (ht : allN (l.take k) = true) : allN (l.take (k + 1)) = true := by
  unfold allN at *
  rw [List.take_succ_eq_append_getElem h, List.all_append, ht]
  rw [nd_getD h] at o
  simp [o]
theorem allN_no {l : List Nd} {k : Nat} (h : k < l.length) (o : okN (l.getD k ([], [])) = false) : allN l = false := by
  unfold allN
  rw [List.all_eq_false]
  exact ⟨_, nd_mem h, by rw [o]; simp⟩

set_option maxHeartbeats 1600000 in
theorem nset_any (V : Value) (l : List Nd) (w : World) (hV : Nds w V l) (sl : ∀ n ∈ l, smallN n) (hl : l.length ≤ 1000000) :
    Calls Tryz.prog 51 #[V] w fun e w' => ∃ a c, e = .returned (.tuple #[.slice a (setNE l).1.length c, .int .i64 (setNE l).2]) ∧ Nds w' (.slice a (setNE l).1.length c) (setNE l).1 ∧ Below w.heap.size w w' := by
  obtain ⟨a, c, rfl, h1, h2, -, -⟩ := hV.ex
  unfold maxLen at h2
  obtain ⟨n, hn⟩ : ∃ n, l.length = n := ⟨_, rfl⟩
  rw [hn] at h1 hV hl ⊢
  have SV := Lib.hid hV; have HN := Lib.hid hn; have SL := Lib.hid sl
  obtain ⟨R, hR⟩ : ∃ R, setNE l = R := ⟨_, rfl⟩
  rw [hR]
  obtain ⟨R1, R2⟩ := R
  simp only
  have HR := Lib.hid hR
  clear hV hn sl hR
  go_enter Tryz.func51, Tryz.ntmps51
  go_wp2
  go_loopw [8] (fun i wr => ∃ k : Nat, k ≤ n ∧ i = .int .i64 k ∧ Hid (allN (l.take k) = true) ∧ Hid (Below w.heap.size w wr)) (fun i _ => n - (intOf i).toNat)
  case atStart => exact ⟨0, Nat.zero_le _, rfl, Lib.hid (by simp [allN]), Lib.hid (Below.refl _ _)⟩
  case round =>
    obtain ⟨k, hk, rfl, HA, HB⟩ := hrel
    by_cases hlt : k < n
    · have hkl : k < l.length := by rw [HN.out]; exact hlt
      obtain ⟨b, off, rfl, -, hc0, hc1⟩ := (SV.out.below HB.out).at k hkl
      obtain ⟨y, hy⟩ : ∃ y, y = l.getD k ([], []) := ⟨_, rfl⟩
      have hsy : smallN y := by rw [hy]; exact SL.out _ (nd_mem hkl)
      obtain ⟨o, ho⟩ : ∃ o, okN y = o := ⟨_, rfl⟩
      rw [← hy] at hc0 hc1
      have HY := Lib.hid hy; have HS := Lib.hid hsy; have HO := Lib.hid ho
      clear hy hsy ho
      obtain ⟨y1, y2⟩ := y
      simp only at hc0 hc1
      cases o
      · have he := setNE_no (allN_no hkl (by rw [← HY.out]; exact HO.out))
        rw [HR.out] at he
        obtain ⟨rfl, rfl⟩ := Prod.mk.inj he
        go_upto_region 4 with fail
        obtain ⟨X, q, hX, hq, d0, d1, hxb⟩ := boxB1 wr (.string (mkB y1)) (.string (mkB y2)) 24
        rw [hX, hq]
        have B := Lib.hid (below_step HB.out hxb)
        clear hX hq hc0 hc1 hxb
        go_wp2_with (go_at_call 34; refine (nmay_any _ _ _ HS.out.1 HS.out.2).mono ?_; rintro e w1 ⟨rfl, hb1⟩; rw [HO.out]; replace B := Lib.hid (below_step B.out hb1); clear hb1)
        go_ret2
        exact ⟨none, 0, rfl, nds_none _, B.out⟩
      · have hat := allN_take hkl (by rw [← HY.out]; exact HO.out) HA.out
        have HAT := Lib.hid hat; clear hat
        go_upto_region 4 with fail
        obtain ⟨X, q, hX, hq, d0, d1, hxb⟩ := boxB1 wr (.string (mkB y1)) (.string (mkB y2)) 24
        rw [hX, hq]
        have B := Lib.hid (below_step HB.out hxb)
        clear hX hq hc0 hc1 hxb
        go_wp2_with (go_at_call 34; refine (nmay_any _ _ _ HS.out.1 HS.out.2).mono ?_; rintro e w1 ⟨rfl, hb1⟩; rw [HO.out]; replace B := Lib.hid (below_step B.out hb1); clear hb1)
        go_roundw
        case rel => exact ⟨k + 1, by omega, by go_num, HAT, B⟩
        case measure => simp [intOf]; omega
    · have e : k = n := by omega
      subst e
      have hal := HA.out
      rw [List.take_of_length_le (by rw [HN.out]; exact Nat.le_refl _)] at hal
      have he := setNE_yes hal
      rw [HR.out] at he
      obtain ⟨rfl, rfl⟩ := Prod.mk.inj he
      have HOK := Lib.hid (allN_ok hal)
      clear hal HA HR he
      go_wp2_with (first
        | (go_at_call 68; refine (gather_any _ l _ (SV.out.below HB.out) (fun n hn => fits_small (SL.out n hn))).mono ?_; rintro e w1 ⟨g, rfl, hM, -, hb1⟩; have MP := Lib.hid hM; have B := Lib.hid (below_step HB.out hb1); clear hb1 hM)
        | (go_at_call 67; refine (callsIn_wide.1 (keys_in Fence.wide 5 trivial rfl (some g) _)).mono ?_; rintro e w2 ⟨rfl, rfl⟩; have MP2 := Lib.hid (MP.out.alloc (.cells #[.map (some g)] 88)); have hck := cell_new (X := w1) (cs := #[.map (some g)]) (t := 88) (i := 0) rfl rfl)
        | (go_at_call 66; refine (nsorted_any _ _ _ l _ (by simp) hck MP2.out (fun n hn => ⟨HOK.out n hn, SL.out n hn⟩) (by rw [HN.out]; exact hl) (by rw [HN.out]; exact hl)).mono ?_; rintro e w3 ⟨v, ss, rfl, hrs, hmem, hrow, hb3⟩))
      go_ret2
      have hss := setN_is HOK.out hrs hmem
      subst hss
      obtain ⟨a2, c2, rfl, hnd⟩ := ndsO hrow
      exact ⟨a2, c2, rfl, hnd, below_step (B.out.alloc B.out.size _) hb3⟩
end Go.Proofs.YtnngfcjfhhfafaaGreat
