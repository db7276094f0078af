/- The document's next one and text. -/
import Derived.Test.YtflaopmlmecdcaaDoorNumF
import Derived.Deep.RegionWith
namespace Go.Proofs.YtflaopmlmecdcaaDoor
open Go.RowKit

/-- Where the document's walk over the digits stands: what was made, and what is left. -/
def nextInv (r : List UInt8) (k cy : Nat) (O : List UInt8) : Prop := O.length = k ∧ incR r = O.reverse ++ (if cy = 1 then incR (r.drop k) else r.drop k)
theorem nextInv_start (r : List UInt8) : nextInv r 0 1 [] := ⟨rfl, by simp⟩
theorem nextInv_step {r : List UInt8} {k cy : Nat} {O : List UInt8} (h : nextInv r k cy O) (hk : k < r.length) (hr : r.all isD = true) (hcy : cy ≤ 1) :
    nextInv r (k + 1) (((r.getD k 48).toNat - 48 + cy) / 10) (UInt8.ofNat (48 + ((r.getD k 48).toNat - 48 + cy) % 10) :: O) := by
  obtain ⟨h1, h2⟩ := h
  refine ⟨by simp [h1], ?_⟩
  have e : r.getD k 48 = r[k] := by rw [List.getD_eq_getElem?_getD, List.getElem?_eq_getElem hk]; rfl
  have hd := isD_bd (List.all_eq_true.1 hr _ (List.getElem_mem hk))
  rw [h2, e, List.drop_eq_getElem_cons hk, List.reverse_cons, List.append_assoc]
  congr 1
  obtain ⟨c, hc⟩ : ∃ c, c = r[k] := ⟨_, rfl⟩
  rw [← hc] at hd ⊢
  rcases Nat.eq_zero_or_pos cy with h0 | h0
  · subst h0
    rw [if_neg (by omega), if_neg (by omega)]
    have : UInt8.ofNat (48 + (c.toNat - 48 + 0) % 10) = c := by
      rw [← UInt8.toNat_inj, UInt8.toNat_ofNat_of_lt' (by rw [UInt8.size]; omega)]; omega
    rw [this]; rfl
  · have : cy = 1 := by omega
    subst this
    rw [if_pos rfl, incR]
    by_cases h9 : c = 57
    · subst h9
      rw [if_pos rfl, if_pos (by decide)]
      rfl
    · have hne : c.toNat ≠ 57 := fun e2 => h9 (by rw [← UInt8.toNat_inj]; exact e2)
      rw [if_neg h9, if_neg (by omega)]
      have : UInt8.ofNat (48 + (c.toNat - 48 + 1) % 10) = c + 1 := by
        rw [← UInt8.toNat_inj, UInt8.toNat_ofNat_of_lt' (by rw [UInt8.size]; omega), UInt8.toNat_add]
        have : (1 : UInt8).toNat = 1 := rfl
        omega
      rw [this]; rfl
theorem nextInv_end {r : List UInt8} {cy : Nat} {O : List UInt8} (h : nextInv r r.length cy O) : (incR r).reverse = if cy = 1 then 49 :: O else O := by
  obtain ⟨h1, h2⟩ := h
  rw [h2]
  by_cases hc : cy = 1
  · rw [if_pos hc, if_pos hc]; simp [incR]
  · rw [if_neg hc, if_neg hc]; simp

theorem byteS_cat (n : Nat) (O : List UInt8) : byteS (n : Int) ++ mkB O = mkB (UInt8.ofNat n :: O) := by
  unfold byteS mkB
  apply ByteArray.ext
  rw [ByteArray.data_append]
  apply Array.ext'
  simp

theorem cat_byteS (n : Nat) (O : List UInt8) : mkB O ++ byteS (n : Int) = mkB (O ++ [UInt8.ofNat n]) := by
  unfold byteS mkB
  apply ByteArray.ext
  rw [ByteArray.data_append]
  apply Array.ext'
  simp

set_option maxHeartbeats 1600000 in
theorem refnext_any (s : ByteArray) (w : World) (hs : s.size ≤ 1000000000) (hm : mayL s.data.toList = true) :
    Calls Tryd.prog 16 #[.string s] w fun e w' => e = .returned (.string (mkB (nextL s.data.toList))) ∧ Below w.heap.size w w' := by
  have HALL := Lib.hid (mayL_all hm); clear hm
  have hl := Lib.size_eq s
  have HL := Lib.hid hl; clear hl
  have hconv : ∀ (c : Int) (W : World), _ := one_byte
  have hbs : ∀ c : Int, (byteS c).size = 1 := fun _ => rfl
  have B0 := Below.refl w.heap.size w
  go_enter Tryd.func16, Tryd.ntmps16
  go_wp2
  go_loopw [3, 4, 5] (fun c o i wr => ∃ (k cy : Nat) (O : List UInt8), k ≤ s.size ∧ cy ≤ 1 ∧ c = .int .i64 cy ∧ o = .string (mkB O) ∧ i = .int .i64 k ∧ Hid (nextInv s.data.toList.reverse k cy O) ∧ Below w.heap.size w wr) (fun _ _ i _ => s.size - (intOf i).toNat)
  case atStart => exact ⟨0, 1, [], Nat.zero_le _, Nat.le_refl _, rfl, rfl, rfl, Lib.hid (nextInv_start _), B0⟩
  case round =>
    obtain ⟨k, cy, O, hk, hcy, rfl, rfl, rfl, H, hbel⟩ := hrel
    have hsz : (mkB O).size = k := by rw [mkB_size]; exact H.out.1
    by_cases hlt : k < s.size
    · have hst := nextInv_step H.out (by rw [List.length_reverse, ← HL.out]; exact hlt) (by rw [List.all_reverse]; exact HALL.out) hcy
      obtain ⟨p, hp⟩ : ∃ p, atN s.data.toList k = p := ⟨_, rfl⟩
      have hp2 : (s.data.toList.reverse.getD k 48).toNat - 48 = p := by
        rw [← hp]; unfold atN valL; rw [valR_at _ k (by rw [List.all_reverse]; exact HALL.out)]
      rw [hp2] at hst
      have hp9 : p ≤ 9 := by rw [← hp]; unfold atN; omega
      have HP := Lib.hid hp; have HST := Lib.hid hst
      clear hst hp2 hp
      go_wp2_with (go_at_call 23; refine (at_any _ _ _ hs (by omega) HALL.out).mono ?_; rintro e w' ⟨rfl, rfl⟩; rw [HP.out])
      go_roundw
      case rel =>
        have e : (48 + ((p : Int) + cy) % 10) = ((48 + (p + cy) % 10 : Nat) : Int) := by omega
        refine ⟨k + 1, (p + cy) / 10, UInt8.ofNat (48 + (p + cy) % 10) :: O, by omega, by omega, by congr 1, ?_, by go_num, HST, ?_⟩
        · rw [e, byteS_cat]
        · exact hbel.alloc hbel.size _
      case measure => simp [intOf]; omega
    · have hkl : k = s.data.toList.reverse.length := by rw [List.length_reverse, ← HL.out]; omega
      have hend := H.out
      rw [hkl] at hend
      have hend := nextInv_end hend
      have hn : mkB (nextL s.data.toList) = if cy = 1 then mkB (49 :: O) else mkB O := by
        unfold nextL
        rw [hend]
        split <;> rfl
      have HN := Lib.hid hn; clear hn hend hkl
      rcases Nat.eq_zero_or_pos cy with h0 | h0
      · subst h0
        go_wp2
        go_ret
        exact ⟨by rw [HN.out, if_neg (by decide)]; rfl, hbel⟩
      · have h1 : cy = 1 := by omega
        subst h1
        go_wp2
        go_ret
        have e : ByteArray.mk #[49] ++ mkB O = mkB (49 :: O) := by
          apply ByteArray.ext
          rw [ByteArray.data_append]
          apply Array.ext'
          simp [mkB]
        exact ⟨by rw [HN.out, if_pos True.intro, e]; rfl, hbel⟩

theorem new_cell (W : World) (v : Value) (t : TypeId) : (W.alloc (.cells #[v] t)).drew.cell? ⟨W.heap.size, 0, none⟩ = some v := by
  have hh : (W.alloc (.cells #[v] t)).drew.heap[W.heap.size]? = some (.cells #[v] t) := heap_alloc_new _ _
  simp only [World.cell?, hh]
  rfl
theorem conv_cell (W : World) (b : Nat) (c : Int) (h : W.cell? ⟨b, 0, none⟩ = some (.int .u8 c)) :
    Sem.run Tryd.prog (convert 42 9 (.slice (some ⟨b, 0, none⟩) 1 1)) W = .ok (.string (byteS c)) W := by
  have h := run_convert_bytes_arg (P := Tryd.prog) W 42 5 Tryd.underlying42 Tryd.underlying5 b 0 1 1 [c] rfl ?_ 9 Tryd.underlying9
  · exact h
  · intro i hi
    have : i = 0 := by omega
    subst this
    exact h
theorem dd_len (n : Nat) (h : n < 18446744073709551616) : (Lib.decDigits n).length ≤ 20 := by
  rw [Lib.decDigits_length]
  rcases Nat.eq_zero_or_pos n with h0 | h0
  · subst h0; rw [Lib.nDigits_small (by omega)]; omega
  · have := Lib.numDigits_eq n h0 h; split at this <;> omega

set_option maxHeartbeats 1600000 in
theorem refof_any (n : Nat) : ∀ (w : World), n < 18446744073709551616 →
    Calls Tryd.prog 14 #[.int .u64 n] w fun e w' => e = .returned (.string (mkB (Lib.decDigits n))) ∧ Below w.heap.size w w' := by
  induction n using Nat.strongRecOn with
  | _ n ih =>
    intro w hn
    by_cases h9 : n < 10
    · have hconv : ∀ (c : Int) (W : World), _ := one_byte
      have hd : Lib.decDigits n = [UInt8.ofNat (48 + n)] := by rw [Lib.decDigits, dif_pos h9]
      have HD := Lib.hid hd; clear hd ih
      go_enter Tryd.func14, Tryd.ntmps14
      go_wp2
      go_ret
      have e : byteS (48 + (n : Int)) = mkB (Lib.decDigits n) := by
        rw [HD.out, show (48 + (n : Int)) = ((48 + n : Nat) : Int) by omega]; rfl
      exact ⟨by rw [e]; rfl, (Below.refl _ _).alloc (Nat.le_refl _) _⟩
    · obtain ⟨m, hm⟩ : ∃ m, m = n / 10 := ⟨_, rfl⟩
      obtain ⟨r, hr⟩ : ∃ r, r = n % 10 := ⟨_, rfl⟩
      have hd : Lib.decDigits n = Lib.decDigits m ++ [UInt8.ofNat (48 + r)] := by rw [hm, hr, Lib.decDigits, dif_neg h9]
      have hq := fun w => ih m (by omega) w (by omega)
      have hlen := dd_len m (by omega)
      have t1 : (n : Int).tdiv 10 = m := by rw [Int.tdiv_eq_ediv_of_nonneg (by omega)]; omega
      have t2 : (n : Int).tmod 10 = r := by rw [Int.tmod_eq_emod_of_nonneg (by omega)]; omega
      have t3 : (n : Int) / 10 = m := by omega
      have t4 : (n : Int) % 10 = r := by omega
      have hr9 : r ≤ 9 := by omega
      have t5 : IntKind.u64.wrap (48 + (r : Int)) = 48 + (r : Int) := by rw [IntKind.wrap_u64]; omega
      have t6 : IntKind.u64.wrap (m : Int) = m := by rw [IntKind.wrap_u64]; omega
      have t7 : IntKind.u8.wrap (48 + (r : Int)) = 48 + (r : Int) := by rw [IntKind.wrap_u8]; omega
      have hconv : ∀ (c : Int) (W : World), _ := one_byte
      have hconv2 : ∀ (c : Int) (W : World), _ := one_byte_drew
      have hbs : ∀ c : Int, (byteS c).size = 1 := fun _ => rfl
      obtain ⟨D, hD⟩ : ∃ D, D = mkB (Lib.decDigits m) := ⟨_, rfl⟩
      have hDs : D.size ≤ 20 := by rw [hD, mkB_size]; exact hlen
      have HQ := Lib.hid hq
      have HD := Lib.hid hd; have HDD := Lib.hid hD
      clear hd hD hlen ih hm hr hq
      go_enter Tryd.func14, Tryd.ntmps14
      go_wp2
      go_region_with (go_at_call 14; refine (HQ.out _).mono ?_; rintro e w1 ⟨rfl, hb1⟩; rw [← HDD.out]; try (have hcv := conv_cell w1 w.heap.size (48 + (r : Int)) (by rw [hb1.cell (by simp)]; exact new_cell _ _ _)))
      all_goals
        have e : D ++ byteS (48 + (r : Int)) = mkB (Lib.decDigits n) := by
          rw [HD.out, HDD.out, show (48 + (r : Int)) = ((48 + r : Nat) : Int) by omega, cat_byteS]
        have B1 : Below w.heap.size w w1 := by
          first
            | exact below_step (below_q ⟨1, rfl⟩) hb1
            | exact below_step (below_step ((Below.refl _ _).alloc (Nat.le_refl _) (.cells #[.int .u8 (48 + (r : Int))] 5)) (below_q ⟨1, rfl⟩)) hb1
        clear hconv hconv2 t1 t2 t3 t4 t5 t6 t7
        go_wp2
        go_ret
        exact ⟨by rw [← e]; rfl, by first | exact B1 | exact B1.alloc B1.size _⟩
end Go.Proofs.YtflaopmlmecdcaaDoor
