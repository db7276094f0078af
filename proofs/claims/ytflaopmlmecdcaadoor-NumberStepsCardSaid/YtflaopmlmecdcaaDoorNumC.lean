/- The contract of number's next one. -/
import Derived.Test.YtflaopmlmecdcaaDoorNumA
import Derived.Laws.IdiomStrings
namespace Go.Proofs.YtflaopmlmecdcaaDoor
open Go.RowKit

/-- A block's cells hold these octets, and may be written. -/
structure BRow (w : World) (B : Nat) (R : List UInt8) : Prop where
  cell : ∀ j, j < R.length → w.cell? ⟨B, j, none⟩ = some (.int .u8 ((R.getD j 0).toNat : Int))
  free : ∀ j, j < R.length → w.frozen? ⟨B, j, none⟩ = false
  lt : B < w.heap.size

theorem BRow.set {w : World} {B : Nat} {R : List UInt8} (h : BRow w B R) (i : Nat) (hi : i < R.length) (c : UInt8) : BRow (w.setCell ⟨B, i, none⟩ (.int .u8 (c.toNat : Int))) B (R.set i c) := by
  refine ⟨fun j hj => ?_, fun j hj => ?_, ?_⟩
  · rw [List.length_set] at hj
    by_cases e : j = i
    · subst e
      rw [World.cell?_setCell_same _ _ _ (h.cell j hi)]
      simp [List.getD_eq_getElem?_getD, hi]
    · rw [World.cell?_setCell_other _ _ _ _ (by simp), h.cell j hj]
      have : (R.set i c).getD j 0 = R.getD j 0 := by
        simp only [List.getD_eq_getElem?_getD]
        rw [List.getElem?_set_ne (by omega)]
      rw [this]
  · rw [List.length_set] at hj
    rw [World.frozen?_setCell]
    exact h.free j hj
  · simpa using h.lt
theorem BRow.str {P : Program} {w : World} {B : Nat} {R : List UInt8} (h : BRow w B R) (src dst e : TypeId) (cap n : Nat) (hn : n = R.length) (hs : P.underlying src = some (.slice e)) (he : P.underlying e = some (.int .u8)) (hd : P.underlying dst = some .string) :
    Sem.run P (convert src dst (.slice (some ⟨B, 0, none⟩) n cap)) w = .ok (.string ⟨R.toArray⟩) w := by
  subst hn
  refine run_convert_bytes_back w src dst e ⟨B, 0, none⟩ cap R hs he hd fun j hj => ?_
  have hadd : (⟨B, 0, none⟩ : Addr).add j = ⟨B, j, none⟩ := by unfold Addr.add; split <;> simp_all
  rw [hadd, h.cell j hj]
  simp [List.getD_eq_getElem?_getD, hj]
theorem BRow.new (w : World) (s : ByteArray) (e : TypeId) (cap : Nat) (lo hi : Nat) (hlo : s.size ≤ lo) : BRow (w.alloc (.cells (bytesRow s cap) e (lo, hi))) w.heap.size s.data.toList := by
  have hl := Lib.size_eq s
  refine ⟨fun j hj => ?_, fun j hj => ?_, by simp⟩
  · rw [World.cell?_alloc_mark]
    have hj' : j < s.data.size := by simpa using hj
    rw [bytesRow_at s cap j hj']
    simp [List.getD_eq_getElem?_getD, Array.getElem?_eq_getElem hj']
  · rw [World.frozen?_alloc_mark]
    have : ¬ lo ≤ j := by omega
    simp [this]

/-- '[]byte(s)'. -/
theorem bytes_new (s : ByteArray) (w : World) : ∃ w2 B cap, Sem.run Tryd.prog (convert 9 42 (.string s)) w = .ok (.slice (some ⟨B, 0, none⟩) s.size cap) w2 ∧ BRow w2 B s.data.toList ∧ Below w.heap.size w w2 ∧ w.heap.size ≤ B := by
  refine ⟨_, _, _, run_bytes_of_string (P := Tryd.prog) w 9 42 5 s Tryd.underlying9 Tryd.underlying42 Tryd.underlying5, ?_, ?_, Nat.le_refl _⟩
  · have h : s.size ≤ (bytesRow s (grownCap w s.size 0 5)).size := by
      unfold bytesRow
      rw [Array.size_append, Array.size_map]
      exact Nat.le_add_right _ _
    exact BRow.new w.drew s _ _ _ _ h
  · exact (below_q ⟨1, rfl⟩).alloc (Nat.le_refl _) _

/-- Where the walk over the last digits stands. -/
theorem inc_step (l : List UInt8) (k : Nat) (hk : k < l.length) (c : UInt8) (hc : l.getD (l.length - 1 - k) 0 = c) :
    (l.take (l.length - k)).reverse = c :: (l.take (l.length - (k + 1))).reverse := by
  have e : l.length - k = (l.length - (k + 1)) + 1 := by omega
  have h2 : l.length - (k + 1) < l.length := by omega
  rw [e, List.take_succ_eq_append_getElem h2, List.reverse_append]
  simp only [List.reverse_singleton, List.singleton_append]
  congr 1
  rw [← hc, List.getD_eq_getElem?_getD, show l.length - 1 - k = l.length - (k + 1) by omega, List.getElem?_eq_getElem h2]; rfl
def rowK (l : List UInt8) (k : Nat) : List UInt8 := l.take (l.length - k) ++ List.replicate k 48
theorem rowK_len (l : List UInt8) (k : Nat) (hk : k ≤ l.length) : (rowK l k).length = l.length := by
  simp [rowK]; omega
theorem rowK_at (l : List UInt8) (k : Nat) (hk : k < l.length) : (rowK l k).getD (l.length - 1 - k) 0 = l.getD (l.length - 1 - k) 0 := by
  unfold rowK
  simp only [List.getD_eq_getElem?_getD]
  rw [List.getElem?_append_left (by simp; omega), List.getElem?_take_of_lt (by omega)]
theorem rowK_set (l : List UInt8) (k : Nat) (hk : k < l.length) (c : UInt8) : (rowK l k).set (l.length - 1 - k) c = l.take (l.length - (k + 1)) ++ c :: List.replicate k 48 := by
  unfold rowK
  have h2 : l.length - (k + 1) < l.length := by omega
  rw [show l.length - k = (l.length - (k + 1)) + 1 by omega, List.take_succ_eq_append_getElem h2, show l.length - 1 - k = l.length - (k + 1) by omega]
  rw [List.append_assoc, List.set_append_right _ _ (by simp)]
  simp [Nat.min_eq_left (Nat.le_of_lt h2)]
theorem rowK_succ (l : List UInt8) (k : Nat) (hk : k < l.length) : (rowK l k).set (l.length - 1 - k) 48 = rowK l (k + 1) := by
  rw [rowK_set l k hk]; unfold rowK; rw [List.replicate_succ]
theorem inc_on {l : List UInt8} {k : Nat} (h : incR l.reverse = List.replicate k 48 ++ incR (l.take (l.length - k)).reverse) (hk : k < l.length) (hc : l.getD (l.length - 1 - k) 0 = 57) :
    incR l.reverse = List.replicate (k + 1) 48 ++ incR (l.take (l.length - (k + 1))).reverse := by
  rw [h, inc_step l k hk 57 hc, incR, if_pos rfl, List.replicate_succ', List.append_assoc]; rfl
theorem inc_stop {l : List UInt8} {k : Nat} (h : incR l.reverse = List.replicate k 48 ++ incR (l.take (l.length - k)).reverse) (hk : k < l.length) (c : UInt8) (hc : l.getD (l.length - 1 - k) 0 = c) (h9 : c ≠ 57) :
    (rowK l k).set (l.length - 1 - k) (c + 1) = nextL l := by
  rw [rowK_set l k hk]
  unfold nextL
  rw [h, inc_step l k hk c hc, incR, if_neg h9]
  simp
theorem inc_end {l : List UInt8} (h : incR l.reverse = List.replicate l.length 48 ++ incR (l.take (l.length - l.length)).reverse) :
    49 :: rowK l l.length = nextL l := by
  unfold nextL rowK
  rw [h]
  simp [incR]

/-- What Next answers. -/
def nextE (l : List UInt8) : ByteArray × Int := if mayL l = true then (⟨(nextL l).toArray⟩, 0) else (ByteArray.empty, 1)

set_option maxHeartbeats 800000 in
theorem next_any (s : ByteArray) (w : World) (hs : s.size ≤ 1000000000) :
    Calls Tryd.prog 10 #[.string s] w fun e w' => e = .returned (.tuple #[.string (nextE s.data.toList).1, .int .i64 (nextE s.data.toList).2]) ∧ Below w.heap.size w w' := by
  have HS : Hid (s.size ≤ maxLen) := Lib.hid (by unfold maxLen; omega)
  have hl := Lib.size_eq s
  obtain ⟨x, hx⟩ : ∃ x, mayL s.data.toList = x := ⟨_, rfl⟩
  have hr : nextE s.data.toList = if x = true then (⟨(nextL s.data.toList).toArray⟩, 0) else (ByteArray.empty, 1) := by unfold nextE; rw [hx]
  have HX := Lib.hid hx; have HR := Lib.hid hr; have HL := Lib.hid hl; clear hx hr hl
  cases x
  · go_enter Tryd.func10, Tryd.ntmps10
    go_wp2_with (go_at_call 11; refine (may_any _ _ HS.out).mono ?_; rintro e w1 ⟨rfl, hb1⟩; rw [HX.out])
    go_ret2
    exact ⟨by rw [HR.out]; rfl, by assumption⟩
  · go_enter Tryd.func10, Tryd.ntmps10
    go_wp2_with (go_at_call 11; refine (may_any _ _ HS.out).mono ?_; rintro e w1 ⟨rfl, hb1⟩; rw [HX.out]; obtain ⟨w2, B, cap, hcv, hrow, hb2, hBw⟩ := bytes_new s w1; have HROW0 := Lib.hid hrow; have HBEL0 := Lib.hid (below_step hb1 hb2); have HBW := Lib.hid (Nat.le_trans hb1.size hBw); clear hrow hb2 hb1 hBw)
    clear hcv
    obtain ⟨l, hl⟩ : ∃ l, l = s.data.toList := ⟨_, rfl⟩
    rw [← hl] at HROW0 HL HR HX
    have hall := mayL_all HX.out
    have HALL := Lib.hid hall; have HLL := Lib.hid hl; clear hall hl
    go_loopw [14] (fun i wr => ∃ k : Nat, k ≤ s.size ∧ i = .int .i64 k ∧ Hid (incR l.reverse = List.replicate k 48 ++ incR (l.take (l.length - k)).reverse) ∧ Hid (BRow wr B (rowK l k)) ∧ Below w.heap.size w wr) (fun i _ => s.size - (intOf i).toNat)
    case atStart => exact ⟨0, Nat.zero_le _, rfl, Lib.hid (by simp), Lib.hid (by unfold rowK; simpa using HROW0.out), HBEL0.out⟩
    case round =>
      obtain ⟨k, hk, rfl, H, HROW, hbel⟩ := hrel
      by_cases hlt : k < s.size
      · have hidx : s.size - 1 - k = l.length - 1 - k := by have := HL.out; omega
        have hltl : k < l.length := by have := HL.out; omega
        obtain ⟨c, hc⟩ : ∃ c, l.getD (l.length - 1 - k) 0 = c := ⟨_, rfl⟩
        have hcell := HROW.out.cell (l.length - 1 - k) (by rw [rowK_len _ _ (by omega)]; omega)
        rw [rowK_at l k hltl, hc, ← hidx] at hcell
        have hfree := HROW.out.free (l.length - 1 - k) (by rw [rowK_len _ _ (by omega)]; omega)
        rw [← hidx] at hfree
        have hcd : isD c = true := by
          have hm : c ∈ l := by
            rw [← hc, List.getD_eq_getElem?_getD, List.getElem?_eq_getElem (by omega)]
            exact List.getElem_mem _
          exact List.all_eq_true.1 HALL.out c hm
        obtain ⟨hd1, hd2⟩ := isD_bd hcd
        have HC := Lib.hid hc; have HIDX := Lib.hid hidx; have HLTL := Lib.hid hltl
        clear hc hidx hltl hcd
        by_cases h9 : c = 57
        · have hb : ((c.toNat : Int) != 57) = false := by subst h9; rfl
          have h5 := inc_on H.out HLTL.out (by rw [HC.out, h9])
          have H5 := Lib.hid h5; clear h5 h9
          go_wp2
          go_roundw
          case rel =>
            refine ⟨k + 1, by omega, by go_num, H5, Lib.hid ?_, hbel.setCell (by exact HBW.out) _⟩
            have h6 := HROW.out.set (l.length - 1 - k) (by rw [rowK_len _ _ (by have := HLTL.out; omega)]; have := HLTL.out; omega) 48
            rw [rowK_succ _ _ HLTL.out, ← HIDX.out] at h6
            exact h6
          case measure => simp [intOf]; omega
        · have hb : ((c.toNat : Int) != 57) = true := by
            simp only [bne_iff_ne, ne_eq]; intro e; apply h9; rw [← UInt8.toNat_inj]; have : (57 : UInt8).toNat = 57 := rfl
            omega
          have h5 := inc_stop H.out HLTL.out c HC.out h9
          have hset := HROW.out.set (l.length - 1 - k) (by rw [rowK_len _ _ (by have := HLTL.out; omega)]; have := HLTL.out; omega) (c + 1)
          have hc1 : (((c + 1).toNat : Nat) : Int) = (c.toNat : Int) + 1 := by
            rw [UInt8.toNat_add]; have : (1 : UInt8).toNat = 1 := rfl
            omega
          have hlen : s.size = ((rowK l k).set (l.length - 1 - k) (c + 1)).length := by rw [List.length_set, rowK_len _ _ (by have := HLTL.out; omega), HL.out]
          rw [h5] at hset hlen
          rw [hc1, ← HIDX.out] at hset
          have hcv := hset.str (P := Tryd.prog) 42 9 5 cap s.size hlen Tryd.underlying42 Tryd.underlying5 Tryd.underlying9
          clear h5 hset hlen h9
          go_wp2
          go_ret2
          exact ⟨by rw [← HLL.out, HR.out]; rfl, hbel.setCell (by exact HBW.out) _⟩
      · have hkl : k = l.length := by have := HL.out; omega
        subst hkl
        have h5 := inc_end H.out
        have hcv := HROW.out.str (P := Tryd.prog) 42 9 5 cap s.size (by rw [rowK_len _ _ (Nat.le_refl _)]; exact HL.out) Tryd.underlying42 Tryd.underlying5 Tryd.underlying9
        have hsz : (ByteArray.mk (rowK l l.length).toArray).size = s.size := by rw [Lib.size_eq]; simp [rowK_len, HL.out]
        have H5 := Lib.hid h5; clear h5
        go_wp2
        go_ret2
        refine ⟨?_, hbel⟩
        rw [← HLL.out, HR.out]
        have e : (ByteArray.mk #[49] ++ ByteArray.mk (rowK l l.length).toArray) = ByteArray.mk (nextL l).toArray := by
          rw [← H5.out]
          apply ByteArray.ext
          rw [ByteArray.data_append]
          apply Array.ext'
          simp
        rw [if_pos True.intro, ← e]
        rfl
theorem cmp_aw (w : World) : Calls Tryd.prog 7 #[.string ⟨#[57]⟩, .string ⟨#[49, 48]⟩] w fun e w' => e = .returned (.tuple #[.int .i64 (-1), .int .i64 0]) ∧ Below w.heap.size w w' := by
  have h := cmpnum_any ⟨#[57]⟩ ⟨#[49, 48]⟩ w (by unfold maxLen; decide) (by unfold maxLen; decide)
  rwa [show cmpE (ByteArray.mk #[57]).data.toList (ByteArray.mk #[49, 48]).data.toList = (-1, 0) from by decide] at h
theorem next_aw (w : World) : Calls Tryd.prog 10 #[.string ⟨#[57, 57, 57]⟩] w fun e w' => e = .returned (.tuple #[.string ⟨#[49, 48, 48, 48]⟩, .int .i64 0]) ∧ Below w.heap.size w w' := by
  have h := next_any ⟨#[57, 57, 57]⟩ w (by decide)
  rwa [show nextE (ByteArray.mk #[57, 57, 57]).data.toList = (⟨#[49, 48, 48, 48]⟩, 0) from by rfl] at h

set_option maxHeartbeats 400000 in
theorem awake2_any (w : World) :
    Calls Tryd.prog 15 #[] w fun e w' => e = .returned (.bool true) ∧ Below w.heap.size w w' := by
  have B0 := Below.refl w.heap.size w
  have E1 : mayL (ByteArray.mk #[48, 48, 55]).data.toList = false := rfl
  have E2 : mayL (ByteArray.mk #[48]).data.toList = true := rfl
  go_enter Tryd.func15, Tryd.ntmps15
  go_wp2_with (first
    | (go_at_call 7; refine (cmp_aw _).mono ?_; rintro e w1 ⟨rfl, hb1⟩; have B1 := below_step (by assumption) hb1; clear hb1)
    | (go_at_call 10; refine (next_aw _).mono ?_; rintro e w1 ⟨rfl, hb1⟩; have B1 := below_step (by assumption) hb1; clear hb1)
    | (go_at_call 11; refine (may_any _ _ (by unfold maxLen; decide)).mono ?_; rintro e w1 ⟨rfl, hb1⟩; (first | rw [E1] | rw [E2]); have B1 := below_step (by assumption) hb1; clear hb1))
  go_ret
  exact ⟨rfl, by assumption⟩
end Go.Proofs.YtflaopmlmecdcaaDoor
