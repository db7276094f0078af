/- What is in doubt goes, and comes back: doubt. -/
import Derived.Test.YtfkbpkjejnpaiaaReaD
import Derived.Lib.SlKeysI
import Derived.Maps.RangeWalk
namespace Go.Proofs.Ytfkbpkjejnpaiaa
open Go.RowKit Go.Maps
set_option linter.unusedVariables false
set_option maxRecDepth 100000

theorem inv_keyZ (key : Value) (kl : Lit) (h : keyOf Try.prog 3 key = some kl) : ∃ x : Int, key = Value.int .i64 x := by
  obtain ⟨x, rfl, _⟩ := Maps.keyOf_i64 Try.underlying3 h; exact ⟨x, rfl⟩
theorem inv_unitZ (v : Value) (y : DataW Unit × List MemPlace) (h : unitElem v = some y) : ∃ _c : Unit, v = .agg #[] := by
  obtain ⟨rfl, _⟩ := unitElem_inv h; exact ⟨(), rfl⟩
theorem spread_fit {l : List Ed} {n : Int} {D : List Int} (h : Spread l [] n D) (hf : ∀ e ∈ l, fitE e) (hn : fitI n) : ∀ x ∈ D, fitI x := fun x hx => by
  rcases ((spread_none h x).1 hx).last with rfl | ⟨y, -, e, he, -, rfl⟩
  · exact hn
  · exact (hf e he).2.1
theorem back_fit {l : List Ed} {R0 R : List Int} {k : Nat} (h : Back l R0 R k) (hf : ∀ e ∈ l, fitE e) : ∀ x ∈ R, fitI x := fun x hx => by
  rcases (h.way x hx).last with rfl | ⟨y, -, e, he, -, rfl⟩
  · exact ⟨by decide, by decide⟩
  · exact (hf e he).2.1
def numOf : Value → Int
  | .int _ a => a
  | _ => 0
theorem eds_iter {w w' : World} {v : Value} {l : List Ed} {r : Nat} (h : Eds w v l) (hg : w.grownBy w' (some r)) (hr : ∀ p v, w.cell? p = some v → some p.block ≠ some r) : Eds w' v l := by
  obtain ⟨a, c, hv, h1, h2, hn, h3⟩ := h.ex
  refine ⟨a, c, hv, h1, h2, hn, fun hp => ?_⟩
  obtain ⟨k, off, ha, hlt, hc⟩ := h3 hp
  have hk : ∀ j, w'.cell? ⟨k, j, none⟩ = w.cell? ⟨k, j, none⟩ := fun j => World.cell?_of_block (hg.block k hlt (hr _ _ (hc 0 hp).1))
  exact ⟨k, off, ha, Nat.lt_of_lt_of_le hlt hg.size, fun j hj => by rw [hk, hk, hk]; exact hc j hj⟩
theorem iter_grown {w wr w' : World} {b r : Nat} (h : w.grownBy wr (some b)) (hg : wr.grownBy w' (some r)) (hr : w.heap.size ≤ r) : w.grownBy w' (some b) :=
  ⟨hg.os.trans h.os, hg.tape.trans h.tape, hg.output.trans h.output, Nat.le_trans h.size hg.size, fun i hi hne => (hg.block i (Nat.lt_of_lt_of_le hi h.size) (by simp; omega)).trans (h.block i hi hne)⟩
theorem mul_bd {k n : Nat} (h1 : k ≤ n) (h2 : n ≤ 200) : k * (n + 1) ≤ 40200 := by
  calc k * (n + 1) ≤ 200 * 201 := Nat.mul_le_mul (by omega) (by omega)
    _ ≤ 40200 := by omega

set_option maxHeartbeats 3200000 in
theorem doubt_any (V : Value) (l : List Ed) (b nn : Nat) (S : List Int) (z : Int) (w : World) (h : Eds w V l) (hz : ZMap w b nn S) (hok : okE l = true) (hf : ∀ e ∈ l, fitE e) (hfz : fitI z) (hfs : ∀ x ∈ S, fitI x) (hw : ∀ x ∈ S, Way l (-1) x ∨ Way l z x) (h0 : -1 ∈ S) (hz0 : 0 ≤ z) (hl : l.length ≤ 200) (hnn : nn ≤ 1000) :
    Calls Try.prog 46 #[.map (some b), V, .int .i64 z] w fun e w' => e = .returned (.tuple #[]) ∧ (∃ T mm, (∀ x, x ∈ T ↔ Way l (-1) x) ∧ ZMap w' b mm T ∧ mm ≤ 100000) ∧ w.grownBy w' (some b) := by
  obtain ⟨a, c, rfl, h1, h2, -, -⟩ := h.ex
  unfold maxLen at h2
  have ks := fun (x : Int) (bb mm : Nat) (SS : List Int) (V : Value) (w' : World) h hz hx => spread_any V l bb mm SS x w' h hz hok hf hx (by omega)
  obtain ⟨n, hn⟩ : ∃ n, l.length = n := ⟨_, rfl⟩
  rw [hn] at h h1 ks hl ⊢
  have ST := Lib.hid h; have HZ := Lib.hid hz; have HF := Lib.hid hf; have HFZ := Lib.hid hfz; have HFS := Lib.hid hfs; have KS := Lib.hid ks; have HN := Lib.hid hn
  have hbw := hz.lt
  have HW := Lib.hid hw; have H0 := Lib.hid h0; have HDR := Lib.hid (fun D hD => doubt_root hok hz0 (D := D) hD)
  clear h hz hf hfz hfs ks hok hn hw h0 hz0
  go_enter Try.func46, Try.ntmps46
  go_upto_region 2 with (first
    | (go_at_call 30; refine (setof_any _ [] _ (Ints.nil _) (by simp) (by simp)).mono ?_; rintro e w1 ⟨d, rfl, hd, hmd, hb1⟩; have MD := Lib.hid hmd; have HM1 := Lib.hid (HZ.out.below hb1); have ST1 := Lib.hid (ST.out.below hb1); have G1 := Lib.hid (grown_below (row := some b) hb1); clear hb1 hmd)
    | (go_at_call 31; refine (KS.out z d 0 [] _ _ ST1.out MD.out HFZ.out (by omega)).mono ?_; rintro e w2 ⟨rfl, ⟨D, md, hD, hmd2, hmdl⟩, hg2⟩; have HD := Lib.hid hD; have MD2 := Lib.hid hmd2; have HM2 := Lib.hid (HM1.out.grown hg2 (by simp; omega)); have ST2 := Lib.hid (ST1.out.keep MD.out hg2); have G2 := Lib.hid (show w.grownBy w2 (some b) from ⟨hg2.os.trans G1.out.os, hg2.tape.trans G1.out.tape, hg2.output.trans G1.out.output, Nat.le_trans G1.out.size hg2.size, fun i hi hne => (hg2.block i (Nat.lt_of_lt_of_le hi G1.out.size) (by simp; omega)).trans (G1.out.block i hi hne)⟩); clear hg2 hmd2 hD))
  obtain ⟨hnd, D0, hown, hsz, hD0⟩ := MD2.out
  have HD0 := Lib.hid hD0
  have hdl := MD2.out.lt
  clear hD0
  go_upto_region 3 with (at_range; refine wpList_range_own _ rfl _ 56 rfl 3 78 int_key Try.underlying56 unitElem d md D0 rfl hown ?_; intro w3 hrg3 hg3 hs3; have HM3 := Lib.hid (HM2.out.grown hg3 (by simp)); have ST3 := Lib.hid (show Eds w3 _ l from ST2.out.keep HM2.out (hg3.but _)); have G3 := Lib.hid (grown_step G2.out (hg3.but _)))
  obtain ⟨r, hr⟩ : ∃ r, w2.heap.size = r := ⟨_, rfl⟩
  rw [hr] at hrg3 ⊢
  have hwr : w.heap.size ≤ r := by rw [← hr]; exact G2.out.size
  clear hs3 hg3
  have hlt3 := hrg3.lt
  go_frame
  go_loopw [7] (fun _ wr => ∃ (left : Lit → Bool) (cnt : Nat) (ss R : List Int), wr.ranges Try.prog 3 unitElem d r md D0 left cnt ∧ CollectedI D0 left ss ∧ Hid (ZMap wr b nn R) ∧ Hid (∀ x, x ∈ R ↔ x ∈ S ∧ x ∉ ss) ∧ Hid (Eds wr (.slice a n c) l) ∧ Hid (w.grownBy wr (some b))) (fun _ wr => wr.rangeLeft d r)
  case atStart => exact ⟨_, _, [], S, hrg3, CollectedI.start D0, HM3, Lib.hid (fun x => by simp), ST3, G3⟩
  case round =>
    obtain ⟨left, cnt, ss, R, hrg, hC, HM, HR, HE, HG⟩ := hrel
    go_wp2_with (at_next; refine wpList_next_ranges _ rfl _ rfl 3 int_key unitElem (Value.int .i64) (fun _ : Unit => .agg #[]) inv_keyZ inv_unitZ d r md _ _ _ rfl hrg ?_ ?_)
    · intro hc0 hl0
      have hR2 : ∀ x, x ∈ R ↔ x ∈ S ∧ x ∉ D := fun x => by
        rw [HR.out]
        refine and_congr_right fun hx => not_congr ?_
        rw [hC.2 x, hl0, HD0.out x (HFS.out x hx)]; simp
      have hB := Back.first HW.out HD.out hR2
      have hr0 : -1 ∈ R := (hR2 _).2 ⟨H0.out, HDR.out D HD.out⟩
      have HB := Lib.hid hB; have HR0 := Lib.hid hr0
      clear hR2 hB hr0 hC hrg hc0 hl0 hrg3 hown hsz hnd
      go_wp2
      go_loopw [25] (fun i wr => ∃ (k mm : Nat) (T : List Int), k ≤ n ∧ i = .int .i64 k ∧ mm ≤ nn + k * (n + 1) ∧ Hid (Back l R T k) ∧ Hid (ZMap wr b mm T) ∧ Hid (Eds wr (.slice a n c) l) ∧ Hid (w.grownBy wr (some b))) (fun i _ => n - (numOf i).toNat)
      case atStart => exact ⟨0, nn, R, Nat.zero_le _, rfl, by omega, HB, HM, HE, HG⟩
      case round =>
        obtain ⟨k, mm, T, hk, rfl, hmm, HBK, HMK, HEK, HGK⟩ := hrel
        by_cases hlt : k < n
        · have hkl : k < l.length := by rw [HN.out]; exact hlt
          obtain ⟨bb, off, hAe, -, hc0, hc1, hc2⟩ := HEK.out.at k hkl
          subst hAe
          have hfe := HF.out _ (ed_mem hkl)
          have htake := fun T' h1 h2 => HBK.out.take (T := T') hkl h1 h2
          have hskip := fun h => HBK.out.skip (k := k) h
          obtain ⟨y, hy⟩ : ∃ y, y = l.getD k zE := ⟨_, rfl⟩
          rw [← hy] at hc0 hc1 hc2 hfe htake hskip
          obtain ⟨y1, y2, y3⟩ := y
          simp only at hc0 hc1 hc2 htake hskip
          have hf1 : fitI y1 := hfe.1
          have hf2 : fitI y2 := hfe.2.1
          have khas := fun w' h => has_any b mm T y1 w' h hf1
          obtain ⟨o, ho⟩ : ∃ o, hasB T y1 = o := ⟨_, rfl⟩
          rw [ho] at khas
          have hbd := mul_bd hk hl
          have hbs : (k + 1) * (n + 1) = k * (n + 1) + (n + 1) := Nat.succ_mul k (n + 1)
          have hmmb : mm ≤ 1000000 := by omega
          have HT1 := Lib.hid htake; have HT2 := Lib.hid hskip; have HF2 := Lib.hid hf2; have HO := Lib.hid ho; have HBS := Lib.hid hbs
          clear hy hfe htake hskip hf1 hf2 ho hbd hbs
          have hkb : (k : Int) < (n : Int) := by omega
          obtain ⟨X, gx, hX, hgx, e0, e1, e2, hbX⟩ := boxE1 wr (.int .i64 y1) (.int .i64 y2) (.int .i64 y3) 43
          have HMX := Lib.hid (HMK.out.below hbX); have HEX := Lib.hid (HEK.out.below hbX); have HGXX := Lib.hid (grown_step HGK.out (grown_below hbX))
          have HX := Lib.hid hX; have HGX := Lib.hid hgx
          clear hX hgx hbX e2
          cases o
          · have hno : y1 ∉ T := by have := HO.out; simpa [hasB] using this
            have HBK2 := Lib.hid (HT2.out hno)
            clear hno
            go_upto_region 9 with fail
            rw [HX.out, HGX.out]
            clear hc0 hc1 hc2
            go_wp2_with (go_at_call 43; refine (khas _ HMX.out).mono ?_; rintro e w5 ⟨rfl, hb5⟩; have HM5 := Lib.hid (HMX.out.below hb5); have HE5 := Lib.hid (HEX.out.below hb5); have HG5 := Lib.hid (grown_step HGXX.out (grown_below hb5)); clear hb5 khas)
            go_roundw
            case rel => exact ⟨k + 1, mm, T, by omega, by go_num, by have := HBS.out; omega, HBK2, HM5, HE5, HG5⟩
            case measure => simp [numOf]; omega
          · have hyes : y1 ∈ T := by have := HO.out; simpa [hasB] using this
            have HY := Lib.hid hyes
            clear hyes
            go_upto_region 9 with fail
            rw [HX.out, HGX.out]
            clear hc0 hc1 hc2
            go_wp2_with (first
              | (go_at_call 43; refine (khas _ HMX.out).mono ?_; rintro e w5 ⟨rfl, hb5⟩; have HM5 := Lib.hid (HMX.out.below hb5); have HE5 := Lib.hid (HEX.out.below hb5); have HG5 := Lib.hid (grown_step HGXX.out (grown_below hb5)); replace e1 := cell_keep e1 hb5; clear hb5 khas)
              | (go_at_call 31; refine (KS.out y2 b mm T _ _ HE5.out HM5.out HF2.out hmmb).mono ?_; rintro e w6 ⟨rfl, ⟨T2, m2, hS2, hm2, hml2⟩, hg6⟩; have HS2 := Lib.hid hS2; have HM6 := Lib.hid hm2; have HE6 := Lib.hid (HE5.out.keep HM5.out hg6); have HG6 := Lib.hid (grown_step HG5.out hg6); clear hS2 hm2 hg6))
            have HBK2 := Lib.hid (HT1.out T2 HY.out HS2.out)
            go_roundw
            case rel => exact ⟨k + 1, m2, T2, by omega, by go_num, by have := HBS.out; omega, HBK2, HM6, HE6, HG6⟩
            case measure => simp [numOf]; omega
        · have e : k = n := by omega
          subst e
          go_wp2
          go_end0
          exact ⟨rfl, ⟨T, mm, HBK.out.all (by rw [HN.out]; exact Nat.le_refl _) HR0.out, HMK.out, by have := mul_bd hk hl; omega⟩, HGK.out⟩
    · intro x _ kl yd w4 cnt2 hkey hlk hv hat hrg4 hlt hg4 hs4 hen
      obtain ⟨x', ex, rfl, hwx⟩ := Maps.keyOf_i64 Try.underlying3 hkey
      cases ex
      have hfx := fit_wf hwx
      have hC2 := hC.step hlk hat
      have hrb : b ≠ r := by omega
      have hner : ∀ p v, wr.cell? p = some v → some p.block ≠ some r := fun p v hc e => by
        obtain ⟨es, clock, since, seen, c0, _, _, _, _, hr, _⟩ := hrg
        have e2 : p.block = r := by simpa using e
        unfold World.cell? at hc
        rw [e2, hr] at hc
        simp at hc
      have HM4 := Lib.hid (HM.out.grown hg4 (by simp; omega)); have HE4 := Lib.hid (eds_iter HE.out hg4 hner); have HG4 := Lib.hid (iter_grown HG.out hg4 hwr)
      clear hkey hv hlk hat hg4 hs4
      go_wp2_with (at_delete; refine wpList_del_set rfl _ _ rfl rfl HM4.out hfx rfl ?_; intro w5 hm5 hg5; have HM5 := Lib.hid hm5; have HE5 := Lib.hid (HE4.out.keep HM4.out hg5); have HG5 := Lib.hid (grown_step HG4.out hg5); have HRG := Lib.hid (hrg4.kept hg5 (by simp; omega) (by simp; omega)); clear hm5 hg5)
      simp only [Act.put]
      go_roundw
      case rel => exact ⟨_, cnt2, ss ++ [x], R.erase x, HRG.out, hC2, HM5, Lib.hid (fun y => by rw [HM.out.nodup.mem_erase_iff, HR.out, List.mem_append, List.mem_singleton, not_or]; exact ⟨fun h => ⟨h.2.1, h.2.2, h.1⟩, fun h => ⟨h.2.2, h.1, h.2.1⟩⟩), HE5, HG5⟩
      case measure => rw [HRG.out.left_eq, hrg.left_eq]; exact hlt
end Go.Proofs.Ytfkbpkjejnpaiaa
