/- A node no longer than is looked at, and some nodes of a list. -/
import Derived.Test.YtjnkjjlpkgbkiaaRolL
import Derived.Test.YtjnkjjlpkgbkiaaNodH
import Derived.Deep.RegionHeld3
import Derived.StillTailTactics
namespace Go.Proofs.Ytjnkjjlpkgbkiaa
open Go.RowKit
set_option maxRecDepth 100000

def oneN (n : Nd) : Nd := (fewL n.1, fewL n.2)
theorem fewL_len (l : List UInt8) : (fewL l).length ≤ 400 := by unfold fewL; rw [List.length_take]; omega
theorem less_cb : ∀ a b : List UInt8, Op.bytesLess a b = decide (Lib.compareBytes a b < 0)
  | [], [] => rfl
  | [], _ :: _ => rfl
  | _ :: _, [] => rfl
  | x :: a, y :: b => by
    rw [Op.bytesLess, Lib.compareBytes, less_cb a b]
    by_cases h1 : x < y
    · simp [h1]
    · by_cases h2 : y < x
      · have h3 : ¬ x = y := fun e => h1 (by rw [e]; rw [e] at h2; exact h2)
        simp [h1, h2, h3]
      · have h3 : x = y := UInt8.le_antisymm (UInt8.not_lt.1 h2) (UInt8.not_lt.1 h1)
        subst h3
        simp [h1]
theorem oneN_small (n : Nd) : smallN (oneN n) := ⟨Nat.le_trans (fewL_len _) (by decide), Nat.le_trans (fewL_len _) (by decide)⟩

set_option maxHeartbeats 1600000 in
theorem one_any (p v : List UInt8) (w : World) (hp : p.length ≤ maxLen) (hv : v.length ≤ maxLen) :
    Calls Try.prog 12 #[.agg #[.string (mkB p), .string (mkB v)]] w fun e w' => e = .returned (.agg #[.string (mkB (fewL p)), .string (mkB (fewL v))]) ∧ Below w.heap.size w w' := by
  obtain ⟨W, g, g', hW, hg, hg', c0, c1, r2, hb⟩ : ∃ W g g', (w.alloc (.cells #[.string (mkB p), .string (mkB v)] 31)).alloc (.cells zeroN 31) = W ∧ w.heap.size = g ∧ w.heap.size + 1 = g' ∧ W.cell? ⟨g, 0, none⟩ = some (.string (mkB p)) ∧ W.cell? ⟨g, 1, none⟩ = some (.string (mkB v)) ∧ W.heap[g']? = some (.cells zeroN 31 (0, 0)) ∧ Below w.heap.size w W :=
    ⟨_, _, _, rfl, rfl, rfl, cell_alloc (cell_new rfl rfl) _, cell_alloc (cell_new rfl rfl) _, by have := heap_alloc_new (w.alloc (.cells #[.string (mkB p), .string (mkB v)] 31)) (.cells zeroN 31); simpa using this, ((Below.refl _ _).alloc (Nat.le_refl _) _).alloc (by simp) _⟩
  have HW := Lib.hid hW; have HG := Lib.hid hg; have HG' := Lib.hid hg'; have B := Lib.hid hb; have R := Lib.hid r2
  clear hW hg hg' hb r2
  obtain ⟨d0, d1, f0, f1⟩ := row2 R.out
  go_enter Try.func12, Try.ntmps12
  go_upto_region 1 with fail
  change Code.wp _ _ _ _ ((w.alloc (.cells #[.string (mkB p), .string (mkB v)] 31)).alloc (.cells zeroN 31))
  rw [HW.out, HG'.out, HG.out]
  go_still_tail 7, (by kernel_rfl)
  still_call (few_s p _ hp)
  repeat still_step
  still_call (few_s v _ hv)
  repeat still_step
  refine wpStill_nil ?_
  go_wp2
  try simp only [Exit.inBlock, Exit.then]
  refine bodyPost_ret (v := .agg #[.string (mkB (fewL p)), .string (mkB (fewL v))]) (results_cell_row (fn := Try.f12) (p := 2) (ty := 31) rfl _ _ g' 31 #[.string (mkB (fewL p)), .string (mkB (fewL v))] (0, 0) _ rfl (row2_set R.out _ _) Try.underlying31 rfl (by kernel_rfl)) rfl ?_
  have hgg : w.heap.size ≤ g' := by rw [← HG'.out]; omega
  exact ⟨rfl, ((B.out.setCell (p := ⟨g', 0, none⟩) hgg _).setCell (p := ⟨g', 1, none⟩) hgg _).drew⟩

/-! ### Some nodes of a list -/
def fewNs (l : List Nd) : List Nd := (l.take 24).map oneN
theorem fewNs_len (l : List Nd) : (fewNs l).length ≤ 24 := by unfold fewNs; rw [List.length_map, List.length_take]; omega
theorem fewNs_small (l : List Nd) : ∀ n ∈ fewNs l, smallN n := fun n h => by
  obtain ⟨m, _, rfl⟩ := List.mem_map.1 h; exact oneN_small m
theorem fewNs_succ {l : List Nd} {k : Nat} (h : k < l.length) : (l.take (k + 1)).map oneN = (l.take k).map oneN ++ [oneN (l.getD k ([], []))] := by
  rw [List.take_succ_eq_append_getElem h, List.map_append, nd_getD h]; rfl

set_option maxHeartbeats 1600000 in
theorem nfewo_any (V : Value) (l : List Nd) (w : World) (hV : Nds w V l) (hf : ∀ n ∈ l, fitsN n) :
    Calls Try.prog 5 #[V] w fun e w' => ∃ v, e = .returned v ∧ w'.ownsRow w.heap.size 31 2 v (fewNs l).length (ndsC (fewNs l)) ∧ Below w.heap.size w w' := by
  obtain ⟨a, c, rfl, h1, h2, -, -⟩ := hV.ex
  unfold maxLen at h2
  obtain ⟨n, hn⟩ : ∃ n, l.length = n := ⟨_, rfl⟩
  obtain ⟨L, hL⟩ : ∃ L, fewNs l = L := ⟨_, rfl⟩
  rw [hL]
  rw [hn] at h1 hV ⊢
  have SV := Lib.hid hV; have HN := Lib.hid hn; have HF := Lib.hid hf; have HL := Lib.hid hL
  clear hV hn hf hL
  go_enter Try.func5, Try.ntmps5
  go_wp2
  go_loopw [3, 4] (fun v i wr => ∃ (k : Nat) (acc : List Nd), k ≤ n ∧ k ≤ 24 ∧ i = .int .i64 k ∧ acc.length = k ∧ Hid (acc = (l.take k).map oneN) ∧ wr.ownsRow w.heap.size 31 2 v acc.length (ndsC acc) ∧ Hid (Below w.heap.size w wr)) (fun _ i _ => n - (intOf i).toNat)
  case atStart => exact ⟨0, [], Nat.zero_le _, Nat.zero_le _, rfl, rfl, Lib.hid (by simp), World.ownsRow_nil _ _ _ _, Lib.hid (Below.refl _ _)⟩
  case round =>
    obtain ⟨k, acc, hkn, hk8, rfl, hal, HACC, hown, HB⟩ := hrel
    by_cases hlt : k < n
    · by_cases h8 : k < 24
      · have hkl : k < l.length := by rw [HN.out]; exact hlt
        obtain ⟨b, off, rfl, -, hc0, hc1⟩ := (SV.out.below HB.out).at k hkl
        have htk := fewNs_succ hkl
        obtain ⟨y, hy⟩ : ∃ y, y = l.getD k ([], []) := ⟨_, rfl⟩
        have hsy : fitsN y := by rw [hy]; exact HF.out _ (nd_mem hkl)
        rw [← hy] at hc0 hc1 htk
        have HTK := Lib.hid htk; have HFY := Lib.hid hsy; have HAL := Lib.hid hal; have HOWN := Lib.hid hown
        clear hy hsy htk hal hown
        obtain ⟨y1, y2⟩ := y
        simp only at hc0 hc1
        go_wp2_with (first
          | (go_at_call 12; refine (one_any _ _ _ HFY.out.1 HFY.out.2).mono ?_; rintro e w1 ⟨rfl, hb1⟩; have B1 := Lib.hid (HB.out.trans (hb1.mono HB.out.size)); have HOWN1 := Lib.hid (ownsRow_belowB HOWN.out hb1); clear hb1)
          | (at_builtin; refine wpList_append_new rfl _ _ 22 rfl w.heap.size 31 (.agg #[.string ByteArray.empty, .string ByteArray.empty]) 2 32 Try.underlying22 Try.info_node rfl (by decide) _ _ _ rfl HOWN1.out [.string (mkB (fewL y1)), .string (mkB (fewL y2))] rfl rfl rfl (by have := HAL.out; omega) (by have := HAL.out; unfold maxLen; omega) B1.out.size ?_))
        intro v' w' hown' hb'
        have e2 : ndsC acc ++ [.string (mkB (fewL y1)), .string (mkB (fewL y2))] = ndsC (acc ++ [oneN (y1, y2)]) := (ndsC_snoc acc (oneN (y1, y2))).symm
        rw [e2] at hown'
        have ho2 : w'.ownsRow w.heap.size 31 2 v' (acc ++ [oneN (y1, y2)]).length (ndsC (acc ++ [oneN (y1, y2)])) := by simpa using hown'
        have HO := Lib.hid ho2; clear ho2 hown'
        have HB2 := Lib.hid (B1.out.trans hb'.toBelow)
        clear hb'
        go_wp2
        go_roundw
        case rel => exact ⟨k + 1, acc ++ [oneN (y1, y2)], by omega, by omega, by go_num, by rw [List.length_append, HAL.out]; rfl, Lib.hid (by rw [HTK.out, HACC.out]), HO.out, HB2⟩
        case measure => simp [intOf]; omega
      · have hout : acc = L := by
          rw [HACC.out, ← HL.out]
          unfold fewNs
          have : k = 24 := by omega
          rw [this]
        subst hout
        go_wp2
        go_ret
        exact ⟨_, rfl, hown, HB.out⟩
    · have hout : acc = L := by
        have e : k = n := by omega
        rw [HACC.out, ← HL.out]
        unfold fewNs
        rw [List.take_of_length_le (i := k) (by rw [HN.out]; omega), List.take_of_length_le (i := 24) (by rw [HN.out]; omega)]
      subst hout
      go_wp2
      go_ret
      exact ⟨_, rfl, hown, HB.out⟩

theorem nfew_any (V : Value) (l : List Nd) (w : World) (hV : Nds w V l) (hf : ∀ n ∈ l, fitsN n) :
    Calls Try.prog 5 #[V] w fun e w' => ∃ a c, e = .returned (.slice a (fewNs l).length c) ∧ Nds w' (.slice a (fewNs l).length c) (fewNs l) ∧ Below w.heap.size w w' :=
  (nfewo_any V l w hV hf).mono fun _ _ ⟨_, he, hown, hb⟩ => by
    obtain ⟨a2, c2, rfl, hnd⟩ := ndsO hown
    exact ⟨a2, c2, he, hnd, hb⟩
end Go.Proofs.Ytjnkjjlpkgbkiaa
