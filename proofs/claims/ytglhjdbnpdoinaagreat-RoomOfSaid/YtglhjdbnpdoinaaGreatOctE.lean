/- Are all octets of a text of some classes: of the program and of the document. -/
import Derived.Test.YtglhjdbnpdoinaaGreatOctD
namespace Go.Proofs.YtglhjdbnpdoinaaGreat
open Go.RowKit
set_option maxRecDepth 100000

/-- Are all octets' classes among these? -/
def allB (l : List UInt8) (zs : List Int) : Bool := l.all fun c => hasB zs (clsI c.toNat)

/-- Which of the ten classes are among these. -/
def flagsV (zs : List Int) : Array Value := ((List.range 10).map fun (c : Nat) => Value.bool (hasB zs (c : Int))).toArray
theorem flagsV_size (zs : List Int) : (flagsV zs).size = 10 := by simp [flagsV]
theorem flagsV_at (zs : List Int) (c : Nat) (h : c < 10) : (flagsV zs)[c]? = some (.bool (hasB zs (c : Int))) := by
  simp [flagsV, h]
theorem hasB_snoc (zs : List Int) (x c : Int) : hasB (zs ++ [x]) c = (hasB zs c || decide (c = x)) := by
  simp [hasB]
theorem flagsV_set (zs : List Int) (x : Int) (h0 : 0 ≤ x) (h1 : x < 10) : (flagsV zs).setIfInBounds x.toNat (.bool true) = flagsV (zs ++ [x]) := by
  apply Array.ext
  · simp [flagsV]
  · intro i hi hj
    have hi10 : i < 10 := by simpa [flagsV] using hj
    rw [Array.getElem_setIfInBounds]
    · simp only [flagsV, List.getElem_toArray, List.getElem_map, List.getElem_range, hasB_snoc]
      by_cases e : x.toNat = i
      · rw [if_pos e]; have : (i : Int) = x := by omega
        simp [this]
      · rw [if_neg e]; have : ¬ (i : Int) = x := by omega
        simp [this]
    · simpa [flagsV] using hi10
theorem flagsV_out (zs : List Int) (x : Int) (h : x < 0 ∨ 10 ≤ x) : flagsV (zs ++ [x]) = flagsV zs := by
  unfold flagsV
  congr 1
  apply List.map_congr_left
  intro c hc
  have : c < 10 := List.mem_range.1 hc
  rw [hasB_snoc]
  have : ¬ (c : Int) = x := by omega
  simp [this]

theorem tabV_at (c : Nat) (h : c < 256) : tabV[c]? = some (.int .u8 (clsI (c : Int))) := by
  have hn : c < tabL.length := by have : tabL.length = 256 := by decide +kernel
                                  omega
  unfold tabV clsI
  rw [List.getElem?_toArray, List.getElem?_map, List.getD_eq_getElem?_getD, Int.toNat_natCast, List.getElem?_eq_getElem hn]
  rfl

set_option maxHeartbeats 1000000 in
theorem all_any (s : ByteArray) (hs : s.size ≤ maxLen) (v : Value) (zs : List Int) (w : World) (h : Ints w v zs) :
    Calls Tryz.prog 126 #[.string s, v] w fun e w' => e = .returned (.bool (allB s.data.toList zs)) ∧ Bel w.heap.size w w' := by
  obtain ⟨a, c, rfl, h1, h2, _, h3⟩ := h.ex
  clear h
  unfold maxLen at h2 hs
  have H3 := Lib.hid h3; clear h3
  have hz : ∀ w, Sem.run Tryz.prog (zeroValue 148) w = .ok (.agg (flagsV [])) w := by intro w; kernel_rfl
  have hz2 := Tryz.zero_tab
  go_enter Tryz.func126, Tryz.ntmps126
  go_wp2
  go_loopw [12] (fun i wr => ∃ k : Nat, k ≤ zs.length ∧ i = .int .i64 k ∧ wr.heap[w.heap.size]? = some (.cells (flagsV (zs.take k)) 148 (0, 0)) ∧ wr.heap.size = w.heap.size + 1 ∧ Bel w.heap.size w wr) (fun i _ => zs.length - (intOf i).toNat)
  case atStart => exact ⟨0, Nat.zero_le _, rfl, heap_alloc_new _ _, by simp, (Bel.refl _ _).alloc (Nat.le_refl _) _⟩
  case round =>
    obtain ⟨k, hk, rfl, hfl, hsz, hbel⟩ := hrel
    by_cases hlt : k < zs.length
    · obtain ⟨b, off, rfl, hbk, hc⟩ := H3.out (by omega)
      have hcell : wr.cell? ⟨b, off + k, none⟩ = some (.int .i64 (zs.getD k 0)) := by rw [hbel.cell (by exact hbk)]; exact hc k hlt
      clear hc
      have ht : zs.take (k + 1) = zs.take k ++ [zs.getD k 0] := by
        rw [List.take_succ_eq_append_getElem hlt]; simp [List.getD_eq_getElem?_getD, List.getElem?_eq_getElem hlt]
      have HT := Lib.hid ht; clear ht
      obtain ⟨y, hy⟩ : ∃ y, y = zs.getD k 0 := ⟨_, rfl⟩
      rw [← hy] at hcell
      have HY := Lib.hid hy; clear hy
      have HF := Lib.hid hfl; clear hfl
      by_cases hin : 0 ≤ y ∧ y < 10
      · obtain ⟨hy0, hy1⟩ := hin
        have hfz : wr.frozen? ⟨w.heap.size, y.toNat, none⟩ = false := by simp [World.frozen?, HF.out]
        have hcl : ∃ o, wr.cell? ⟨w.heap.size, y.toNat, none⟩ = some o := ⟨_, by simp [World.cell?, HF.out]; exact flagsV_at _ y.toNat (by omega)⟩
        obtain ⟨o, ho⟩ := hcl
        go_wp2
        go_roundw
        case rel =>
          refine ⟨k + 1, by omega, by go_num, ?_, by simpa using hsz, hbel.setCell (by exact Nat.le_refl _) _⟩
          rw [setCell_eq_setRow _ _ _ _ _ _ _ HF.out, HT.out, ← HY.out, ← flagsV_set _ y hy0 hy1]
          exact setRow_heap _ _ _ _ _ _ HF.out
        case measure => simp [intOf]; omega
      · have hfl2 : wr.heap[w.heap.size]? = some (.cells (flagsV (zs.take (k + 1))) 148 (0, 0)) := by
          rw [HT.out, ← HY.out, flagsV_out _ y (by omega)]; exact HF.out
        have HF2 := Lib.hid hfl2; clear hfl2 HF
        by_cases hy0 : 0 ≤ y
        · have hy1 : ¬ y < 10 := by omega
          clear hin
          go_wp2
          go_roundw
          case rel => exact ⟨k + 1, by omega, by go_num, HF2.out, hsz, hbel⟩
          case measure => simp [intOf]; omega
        · clear hin
          go_wp2
          go_roundw
          case rel => exact ⟨k + 1, by omega, by go_num, HF2.out, hsz, hbel⟩
          case measure => simp [intOf]; omega
    · have hfl2 : wr.heap[w.heap.size]? = some (.cells (flagsV zs) 148 (0, 0)) := by
        rw [List.take_of_length_le (by omega)] at hfl; exact hfl
      have HF := Lib.hid hfl2; clear hfl2 hfl
      go_wp2_with (first
        | (go_at_call 139; refine (table_any _).mono ?_; rintro e w1 ⟨rfl, hb1⟩)
        | (refine wpList_store_row rfl 149 _ _ rfl _ tabV rfl rfl 149 zeroV ?_ (by rw [tabV_size]; exact Tryz.size_tab) (by rw [zeroV_size, tabV_size]) tabV_one ?_))
      · exact heap_alloc_new _ _
      obtain ⟨wx, hwx⟩ : ∃ wx, wx = (w1.alloc (.cells zeroV 149)).setRow w1.heap.size tabV := ⟨_, rfl⟩
      rw [← hwx]
      have hT : wx.heap[w1.heap.size]? = some (.cells tabV 149 (0, 0)) := by rw [hwx]; exact setRow_heap _ _ _ _ _ _ (heap_alloc_new _ _)
      have hs1 := hb1.size
      have hF : wx.heap[w.heap.size]? = some (.cells (flagsV zs) 148 (0, 0)) := by
        rw [hwx, setRow_other _ _ _ _ (by omega), Below.heap_alloc _ _ _ (by omega), hb1.block _ (by omega)]; exact HF.out
      have hB : Bel w.heap.size w wx := by
        rw [hwx]
        exact bel_setRow (((hbel.trans (hb1.mono (by omega)))).alloc (by omega) _) (by omega) _
      clear hwx
      obtain ⟨g, hg⟩ : ∃ g, g = w1.heap.size := ⟨_, rfl⟩
      rw [← hg] at hT ⊢
      have HT := Lib.hid hT; have HF2 := Lib.hid hF; clear hT hF hg HF hz hz2 hb1 hs1 hbel hsz
      go_loop [28] (fun i => ∃ k : Nat, k ≤ s.size ∧ i = .int .i64 k ∧ Hid (allB (s.data.toList.drop k) zs = allB s.data.toList zs)) (fun i => s.size - (intOf i).toNat)
      case atStart => exact ⟨0, Nat.zero_le _, rfl, Lib.hid (by simp)⟩
      case round =>
        obtain ⟨k, hk, rfl, H⟩ := hrel
        by_cases hlt : k < s.size
        · have hd : allB (s.data.toList.drop k) zs = (hasB zs (clsI s[k].toNat) && allB (s.data.toList.drop (k + 1)) zs) := by rw [drop_at s k hlt]; rfl
          have HD := Lib.hid hd; clear hd
          have hlt8 : s[k].toNat < 256 := UInt8.toNat_lt _
          obtain ⟨y, hy⟩ : ∃ y, y = clsI s[k].toNat := ⟨_, rfl⟩
          have hyb := clsI_bd s[k].toNat (by omega) (by omega)
          have hc1 : wx.cell? ⟨g, s[k].toNat, none⟩ = some (.int .u8 y) := by
            simp only [World.cell?, HT.out, hy]
            exact tabV_at s[k].toNat hlt8
          rw [← hy] at hyb
          obtain ⟨hy0, hy1⟩ := hyb
          have hc2 : wx.cell? ⟨w.heap.size, y.toNat, none⟩ = some (.bool (hasB zs y)) := by
            simp only [World.cell?, HF2.out]
            have := flagsV_at zs y.toNat (by omega)
            rwa [show ((y.toNat : Nat) : Int) = y from by omega] at this
          have HY := Lib.hid hy; clear hy
          cases hq : hasB zs y
          · rw [hq] at hc2
            have HQ := Lib.hid hq; clear hq
            go_wp2
            go_ret
            exact ⟨ret_bool (by rw [← H.out, HD.out, ← HY.out, HQ.out]; rfl), hB⟩
          · rw [hq] at hc2
            have h5 : allB (s.data.toList.drop (k + 1)) zs = allB s.data.toList zs := by rw [← H.out, HD.out, ← HY.out, hq]; simp
            have H5 := Lib.hid h5; clear h5 hq
            go_wp2
            go_round
            case rel => exact ⟨k + 1, by omega, by go_num, H5⟩
            case measure => simp [intOf]; omega
        · have h5 : allB (s.data.toList.drop k) zs = true := by rw [drop_end s k (by omega)]; rfl
          have H5 := Lib.hid h5; clear h5
          go_wp2
          go_ret
          exact ⟨ret_bool (by rw [← H.out, H5.out]), hB⟩

end Go.Proofs.YtglhjdbnpdoinaaGreat
