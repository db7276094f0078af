/- THE TEXTS OF ItnH ItnN ItnR: Names no more than are looked at; are two names the same; a node's place, and its number with the names: of the document. The chapter's examples of names. What comes into the laws: names; and how many numbers there are. -/
import Derived.Test.YthmnoepdedjhjaaItnG
import Derived.Test.YthmnoepdedjhjaaRolN
import Derived.Test.YthmnoepdedjhjaaNodR
namespace Go.Proofs.Ythmnoepdedjhjaa
open Go.RowKit Go.Maps
set_option maxRecDepth 100000

set_option maxHeartbeats 1600000 in
theorem ifew_any (V : Value) (L : List Nd) (w : World) (h : Nds w V L) (hf : ∀ n ∈ L, fitsN n) :
    Calls Try.prog 8 #[.agg #[V]] w fun e w' => ∃ vn, e = .returned (.agg #[vn]) ∧ w'.ownsRow w.heap.size 26 2 vn (fewNs L).length (ndsC (fewNs L)) ∧ Below w.heap.size w w' := by
  obtain ⟨a, c, rfl, h1, h2, -, -⟩ := h.ex
  obtain ⟨n, hn⟩ : ∃ n, L.length = n := ⟨_, rfl⟩
  rw [hn] at h1 h ⊢
  obtain ⟨W, g, r, hW, hg, hr, hsz, d0, hrow, hb⟩ := boxMR w (.slice a n c) 24
  have k1 := fun U w h => nfewo_any U L w h hf
  have SL := Lib.hid (h.below hb); have HN := Lib.hid hn; have HW := Lib.hid hW; have HG := Lib.hid hg; have HR := Lib.hid hr; have HSZ := Lib.hid hsz; have B := Lib.hid hb; have HROW := Lib.hid hrow
  obtain ⟨kk, hkk⟩ : ∃ kk, (fewNs L).length = kk := ⟨_, rfl⟩
  rw [hkk] at k1 ⊢
  have HKK := Lib.hid hkk
  clear h hf hn hW hg hr hsz hb hrow hkk
  go_enter Try.func8, Try.ntmps8
  go_upto_region 1 with fail
  change Code.wp _ _ _ _ ((w.alloc (.cells #[.slice a n c] 24)).alloc (.cells #[.slice none 0 0] 24))
  rw [HW.out, HR.out, HG.out]
  go_wp2_with (go_at_call 21; refine (k1 _ _ SL.out).mono ?_; rintro e w1 ⟨vn, rfl, hown, hb1⟩; obtain ⟨aN, cN, rfl, -⟩ := ndsO (by rw [HKK.out]; exact hown); rw [HKK.out] at hown ⊢; have HOWN := Lib.hid hown; replace B := Lib.hid (below_step B.out hb1); have hrow := row_keepB HROW.out hb1; obtain ⟨q0, f0⟩ := row1 hrow; have HROW1 := Lib.hid hrow; clear hown hb1 hrow k1)
  try simp only [Exit.inBlock, Exit.then]
  have hwr : w.heap.size ≤ r := by have := HR.out; omega
  refine bodyPost_ret (v := .agg #[.slice aN kk cN]) (results_cell_row (fn := Try.f8) (p := 2) (ty := 24) rfl _ _ r 24 #[.slice aN kk cN] (0, 0) _ rfl (row1_set HROW1.out _) Try.underlying24 rfl Try.size_names) rfl ?_
  exact ⟨_, rfl, row_base (row_far1 HOWN.out (by have := HSZ.out; omega) _) (by have := HSZ.out; omega), B.out.setCell hwr _⟩

set_option maxHeartbeats 1600000 in
theorem isame_any (U V : Value) (K L : List Nd) (w : World) (hu : Nds w U K) (hv : Nds w V L) :
    Calls Try.prog 15 #[.agg #[U], .agg #[V]] w fun e w' => e = .returned (.bool (decide (K = L))) ∧ Below w.heap.size w w' := by
  obtain ⟨a, c, rfl, -⟩ := hu.ex
  obtain ⟨a', c', rfl, -⟩ := hv.ex
  obtain ⟨n, hn⟩ : ∃ n, K.length = n := ⟨_, rfl⟩
  obtain ⟨m, hm⟩ : ∃ m, L.length = m := ⟨_, rfl⟩
  rw [hn] at hu ⊢
  rw [hm] at hv ⊢
  obtain ⟨W, g, g', hW, hg, hg', d0, c0, hb⟩ : ∃ W g g', (w.alloc (.cells #[.slice a n c] 24)).alloc (.cells #[.slice a' m c'] 24) = W ∧ w.heap.size = g ∧ w.heap.size + 1 = g' ∧ W.cell? ⟨g, 0, none⟩ = some (.slice a n c) ∧ W.cell? ⟨g', 0, none⟩ = some (.slice a' m c') ∧ Below w.heap.size w W :=
    ⟨_, _, _, rfl, rfl, rfl, cell_alloc (cell_new rfl rfl) _, cell_new (by simp) rfl, ((Below.refl _ _).alloc (Nat.le_refl _) _).alloc (by simp) _⟩
  have k1 := fun U V w hu hv => nsame_any U V K L w hu hv
  obtain ⟨R, hR⟩ : ∃ R, decide (K = L) = R := ⟨_, rfl⟩
  rw [hR] at k1 ⊢
  have SK := Lib.hid (hu.below hb); have SL := Lib.hid (hv.below hb); have HW := Lib.hid hW; have HG := Lib.hid hg; have HG' := Lib.hid hg'; have B := Lib.hid hb
  clear hu hv hn hm hW hg hg' hb hR
  go_enter Try.func15, Try.ntmps15
  go_upto_region 1 with fail
  rw [HW.out, HG'.out, HG.out]
  go_wp2_with (go_at_call 17; refine (k1 _ _ _ SK.out SL.out).mono ?_; rintro e w1 ⟨rfl, hb1⟩; replace B := Lib.hid (below_step B.out hb1); clear hb1)
  go_ret
  exact ⟨rfl, B.out⟩

/-- A node's place; -1: it has none. -/
def placeM (l : List Nd) (n : Nd) : Int := if hasN l n then (ixN l n : Int) else -1
theorem placeM_at {l : List Nd} {k : Nat} {n : Nd} (h : ∀ j, j < k → l.getD j ([], []) ≠ n) (hk : k < l.length) (he : l.getD k ([], []) = n) : placeM l n = k := by
  unfold placeM
  rw [if_pos (hasN_iff.2 (he ▸ nd_mem hk)), ixN_drop h hk he]
theorem placeM_none {l : List Nd} {n : Nd} (h : ∀ j, j < l.length → l.getD j ([], []) ≠ n) : placeM l n = -1 := by
  unfold placeM
  have : hasN l n = false := hasN_not.2 fun hm => h _ (ixN_at hm).1 (getD_ixN hm)
  rw [this]; rfl

set_option maxHeartbeats 3200000 in
theorem iplace_any (V : Value) (L : List Nd) (p v : List UInt8) (w : World) (h : Nds w V L) :
    Calls Try.prog 20 #[.agg #[V], .agg #[.string (mkB p), .string (mkB v)]] w fun e w' => e = .returned (.int .i64 (placeM L (p, v))) ∧ Below w.heap.size w w' := by
  obtain ⟨a, c, rfl, h1, h2, -, -⟩ := h.ex
  unfold maxLen at h2
  obtain ⟨n, hn⟩ : ∃ n, L.length = n := ⟨_, rfl⟩
  rw [hn] at h1 h ⊢
  obtain ⟨W, g, g', hW, hg, hg', d0, c0, c1, hb⟩ := boxMN w (.slice a n c) 24 (.string (mkB p)) (.string (mkB v)) 26
  have SL := Lib.hid (h.below hb); have HN := Lib.hid hn; have HW := Lib.hid hW; have HG := Lib.hid hg; have HG' := Lib.hid hg'; have B := Lib.hid hb
  clear h hn hW hg hg' hb
  obtain ⟨P, hP⟩ : ∃ P, placeM L (p, v) = P := ⟨_, rfl⟩
  rw [hP]
  have HP := Lib.hid hP; clear hP
  go_enter Try.func20, Try.ntmps20
  go_upto_region 1 with fail
  rw [HW.out, HG'.out, HG.out]
  go_wp2
  go_loopw [5] (fun i wr => ∃ k q : Nat, k ≤ n ∧ i = .int .i64 k ∧ wr = W.drewN q ∧ Hid (∀ j, j < k → L.getD j ([], []) ≠ (p, v))) (fun i _ => n - (intOf i).toNat)
  case atStart => exact ⟨0, 0, Nat.zero_le _, rfl, rfl, Lib.hid (fun j hj => absurd hj (Nat.not_lt_zero j))⟩
  case round =>
    obtain ⟨k, q, hk, rfl, rfl, H⟩ := hrel
    obtain ⟨Wq, hWq⟩ : ∃ Wq, W.drewN q = Wq := ⟨_, rfl⟩
    have hbq : Below W.heap.size W Wq := by rw [← hWq]; exact below_q ⟨q, rfl⟩
    have d1 := cell_keep d0 hbq
    rw [hWq]
    have HWq := Lib.hid hWq
    by_cases hlt : k < n
    · have hkl : k < L.length := by rw [HN.out]; exact hlt
      obtain ⟨b, off, rfl, -, hc0, hc1⟩ := (SL.out.below hbq).at k hkl
      have e0 := cell_keep c0 hbq
      have e1 := cell_keep c1 hbq
      obtain ⟨y, hy⟩ : ∃ y, y = L.getD k ([], []) := ⟨_, rfl⟩
      rw [← hy] at hc0 hc1
      have HY := Lib.hid hy
      obtain ⟨y1, y2⟩ := y
      simp only at hc0 hc1
      clear hy hbq hWq
      have hgd := guard_nd
      have heq := eq_nd y1 y2 p v
      obtain ⟨o, ho⟩ : ∃ o, decide ((y1, y2) = (p, v)) = o := ⟨_, rfl⟩
      rw [ho] at heq
      have HO := Lib.hid ho; clear ho
      have hkb : (k : Int) < (n : Int) := by omega
      cases o
      · go_wp2_with fail
        go_quiet (fail)
        go_wp2
        have H5 : Hid (∀ j, j < k + 1 → L.getD j ([], []) ≠ (p, v)) := Lib.hid (fun j hj e => by
          rcases Nat.lt_or_eq_of_le (Nat.le_of_lt_succ hj) with h | h
          · exact H.out j h e
          · rw [h, ← HY.out] at e
            exact of_decide_eq_false HO.out e)
        go_roundw
        case rel => exact ⟨k + 1, q + nq, by omega, by go_num, by rw [← HWq.out, World.drewN_drewN], H5⟩
        case measure => simp [intOf]; omega
      · go_wp2_with fail
        go_quiet (fail)
        go_wp2
        go_ret
        exact ⟨by rw [← HP.out, placeM_at H.out hkl (HY.out.symm.trans (of_decide_eq_true HO.out))]; rfl, below_step (below_step B.out (below_q ⟨q, HWq.out.symm⟩)) (below_q ⟨nq, rfl⟩)⟩
    · go_wp2
      go_ret
      exact ⟨by rw [← HP.out, placeM_none (fun j hj => H.out j (by rw [HN.out] at hj; omega))]; rfl, below_step B.out (below_q ⟨q, HWq.out.symm⟩)⟩

theorem addM_case (l : List Nd) (n : Nd) : addM l n = if hasN l n then l else l ++ [n] := rfl
theorem boxMNR2 (w : World) (x : Value) (t : TypeId) (y z : Value) (u : TypeId) : ∃ W g g' r, ((w.alloc (.cells #[x] t)).alloc (.cells #[y, z] u)).alloc (.cells #[.slice none 0 0] t) = W ∧ w.heap.size = g ∧ w.heap.size + 1 = g' ∧ w.heap.size + 1 + 1 = r ∧ W.heap.size = r + 1 ∧ W.heap[g]? = some (.cells #[x] t (0, 0)) ∧ W.heap[g']? = some (.cells #[y, z] u (0, 0)) ∧ W.heap[r]? = some (.cells #[.slice none 0 0] t (0, 0)) ∧ Below w.heap.size w W :=
  ⟨_, _, _, _, rfl, rfl, rfl, rfl, by simp, by rw [Below.heap_alloc _ _ _ (by simp; omega), Below.heap_alloc _ _ _ (by simp)]; exact heap_alloc_new _ _, by rw [Below.heap_alloc _ _ _ (by simp)]; have := heap_alloc_new (w.alloc (.cells #[x] t)) (.cells #[y, z] u); simpa using this, by have := heap_alloc_new ((w.alloc (.cells #[x] t)).alloc (.cells #[y, z] u)) (.cells #[.slice none 0 0] t); simpa using this, (((Below.refl _ _).alloc (Nat.le_refl _) _).alloc (by simp) _).alloc (by simp; omega) _⟩

set_option maxHeartbeats 3200000 in
theorem refiid_two (V : Value) (L : List Nd) (p v : List UInt8) (w : World) (h : Nds w V L) (hlen : L.length ≤ 100000) :
    Calls Try.prog 19 #[.agg #[V], .agg #[.string (mkB p), .string (mkB v)]] w fun e w' => ∃ vn, e = .returned (.tuple #[.int .i64 (ixN L (p, v) : Int), .agg #[vn]]) ∧ (hasN L (p, v) = true ∧ vn = V ∨ hasN L (p, v) = false ∧ w'.ownsRow w.heap.size 26 2 vn (L.length + 1) (ndsC (L ++ [(p, v)]))) ∧ Below w.heap.size w w' := by
  obtain ⟨a, c, rfl, h1, h2, -, -⟩ := h.ex
  unfold maxLen at h2
  obtain ⟨n, hn⟩ : ∃ n, L.length = n := ⟨_, rfl⟩
  rw [hn] at h1 h hlen ⊢
  obtain ⟨W, g, g', r, hW, hg, hg', hr, hsz, hd0, hc0, hrow, hb⟩ := boxMNR2 w (.slice a n c) 24 (.string (mkB p)) (.string (mkB v)) 26
  have k1 := fun U w h => iplace_any U L p v w h
  obtain ⟨d0, -⟩ := row1 hd0
  obtain ⟨c0, c1, -, -⟩ := row2 hc0
  have SL0 := Lib.hid h; have SL := Lib.hid (h.below hb); have HN := Lib.hid hn; have HW := Lib.hid hW; have HG := Lib.hid hg; have HG' := Lib.hid hg'; have HR := Lib.hid hr; have B := Lib.hid hb; have HSZ := Lib.hid hsz; have HLEN := Lib.hid hlen
  have hwr : w.heap.size ≤ r := by omega
  have HWR := Lib.hid hwr
  have NE := Lib.hid (show g ≠ r ∧ g' ≠ r ∧ g' ≠ g by omega)
  obtain ⟨o, ho⟩ : ∃ o, hasN L (p, v) = o := ⟨_, rfl⟩
  obtain ⟨I, hI⟩ : ∃ I, ixN L (p, v) = I := ⟨_, rfl⟩
  rw [hI]
  have HI := Lib.hid hI
  have HO := Lib.hid ho
  cases o
  · have hp : placeM L (p, v) = -1 := by unfold placeM; rw [ho]; rfl
    rw [hp] at k1
    have hil : I = n := by rw [← hI, ixN_none (hasN_not.1 ho)]; exact hn
    have HIL := Lib.hid hil
    clear h hn hW hg hg' hr hb hsz hlen hwr ho hI hp hil
    go_enter Try.func19, Try.ntmps19
    go_upto_region 1 with fail
    change Code.wp _ _ _ _ (((w.alloc (.cells #[.slice a n c] 24)).alloc (.cells #[.string (mkB p), .string (mkB v)] 26)).alloc (.cells #[.slice none 0 0] 24))
    rw [HW.out, HR.out, HG'.out, HG.out]
    go_upto_region 4 with (go_at_call 20; refine (k1 _ _ SL.out).mono ?_; rintro e W2 ⟨rfl, hb2⟩; replace B := Lib.hid (below_step B.out hb2); have D0 := Lib.hid (row_keepB hd0 hb2); have C0 := Lib.hid (row_keepB hc0 hb2); have HROW := Lib.hid (row_keepB hrow hb2); clear hb2 k1)
    have HWN := Lib.hid B.out.size
    refine rol_run (by kernel_rfl) [[], [0], [0, 1], [], [], [4], [3, 4, 5], [], [7], [3, 4, 5, 6, 7, 8], [3, 4, 5, 6, 7, 8, 9], [0, 1, 2, 3, 4, 5, 6, 7, 8, 9], [0, 1, 2, 3, 4, 5, 6, 7, 8, 9, 10, 11]] (by kernel_rfl) [14, 15, 16, 17, 18, 19, 20, 21, 22, 23, 24, 4] [[], [0, 13], [1], [], [], [4, 13], [3, 5], [14], [7], [6, 8], [9], [2], [10, 15]] [0, 0, 0, 1, 0, 0, 1, 0, 2, 1, 1, 0, 100, 101, 102, 100] [0, 0, 0, 1, 0, 0, 1, 0, 2, 1, 1, 0, 100] [1000, 1000, 1000, 6, 1000, 1000, 9, 1000, 9, 10, 1000, 1000, 1000, 1000, 1000, 12] [.val 14 (.pointer (some ⟨g, 0, none⟩)), .val 15 (.slice a n c), .val 16 (.int .i64 (n : Int)), .mem 17 (rowP W2.heap.size 0 []), .val 18 (.pointer (some ⟨g, 0, none⟩)), .val 19 (.slice a n c), .mem 20 (rowP W2.heap.size n L), .val 21 (.agg #[.string (mkB p), .string (mkB v)]), .mem 22 (blkP p v), .mem 23 (rowP W2.heap.size (n + 1) (L ++ [(p, v)])), .mem 24 (aggP W2.heap.size (n + 1) (L ++ [(p, v)])), .val 4 (.int .i64 (n : Int)), .mem 24 (boxP r 24), .box (g) (.cells #[.slice a n c] 24), .box (g') (.cells #[.string (mkB p), .string (mkB v)] 26), .box (r) (.cells #[.slice none 0 0] 24)] (by kernel_rfl) ?_ (w.heap.size) (W2.heap.size) rfl B.out rfl (fun k => if k = r then 100 else if k = g then 101 else 102) ?_ ?_ ?_
    · intro j hj
      have hj3 : j < 16 := hj
      have hj2 : j = 0 ∨ j = 1 ∨ j = 2 ∨ j = 3 ∨ j = 4 ∨ j = 5 ∨ j = 6 ∨ j = 7 ∨ j = 8 ∨ j = 9 ∨ j = 10 ∨ j = 11 ∨ j = 12 ∨ j = 13 ∨ j = 14 ∨ j = 15 := by omega
      clear hj hj3
      rcases hj2 with rfl | rfl | rfl | rfl | rfl | rfl | rfl | rfl | rfl | rfl | rfl | rfl | rfl | rfl | rfl | rfl
      · exact trivial
      · exact trivial
      · exact trivial
      · exact rowP_near
      · exact trivial
      · exact trivial
      · exact rowP_near
      · exact trivial
      · exact blkP_near
      · exact rowP_near
      · exact aggP_near
      · exact trivial
      · exact boxP_near
      · exact trivial
      · exact trivial
      · exact trivial
    · intro j hj0 hj
      have hj1 : 13 ≤ j := hj0
      have hj3 : j < 16 := hj
      have hj2 : j = 13 ∨ j = 14 ∨ j = 15 := by omega
      clear hj0 hj hj1 hj3
      rcases hj2 with rfl | rfl | rfl
      · exact ⟨D0.out, (by show (if g = r then 100 else if g = g then 101 else 102) = 101; rw [if_neg NE.out.1, if_pos rfl])⟩
      · exact ⟨C0.out, (by show (if g' = r then 100 else if g' = g then 101 else 102) = 102; rw [if_neg NE.out.2.1, if_neg NE.out.2.2])⟩
      · exact ⟨HROW.out, if_pos rfl⟩
    · intro i hi a wx who hG hF
      have hz : a.tmps.size = 25 := hG.size
      have hi3 : i < 13 := hi
      have hi2 : i = 0 ∨ i = 1 ∨ i = 2 ∨ i = 3 ∨ i = 4 ∨ i = 5 ∨ i = 6 ∨ i = 7 ∨ i = 8 ∨ i = 9 ∨ i = 10 ∨ i = 11 ∨ i = 12 := by omega
      clear hi hi3
      rcases hi2 with rfl | rfl | rfl | rfl | rfl | rfl | rfl | rfl | rfl | rfl | rfl | rfl | rfl
      · exact rol_val rfl rfl rfl (by rw [hz]; decide) (ex_field rfl (eval_slot ((hG.slots 2 (by decide)).trans rfl)) (by go_simp)) hG.below
      · exact rol_val rfl rfl rfl (by rw [hz]; decide) (ex_load rfl (eval_slot (hF 0 (by decide))) (ldm_slice (row1 (hF 13 (by decide)).1).1)) hG.below
      · exact rol_val rfl rfl rfl (by rw [hz]; decide) (ex_len rfl (eval_slot (hF 1 (by decide))) (by go_simp)) hG.below
      · exact rol_empty_nd rfl rfl rfl (by rw [hz]; decide) rfl hG.below HWN.out hG.new
      · exact rol_val rfl rfl rfl (by rw [hz]; decide) (ex_field rfl (eval_slot ((hG.slots 2 (by decide)).trans rfl)) (by go_simp)) hG.below
      · exact rol_val rfl rfl rfl (by rw [hz]; decide) (ex_load rfl (eval_slot (hF 4 (by decide))) (ldm_slice (row1 (hF 13 (by decide)).1).1)) hG.below
      · exact rol_app_nd rfl rfl rfl (by rw [hz]; decide) rfl (hF 3 (by decide)) (eval_slot (hF 5 (by decide))) (SL0.out.below hG.below) (by have := HLEN.out; omega) hG.below HWN.out hG.new (Nat.zero_add _).symm (List.nil_append _).symm
      · exact rol_val rfl rfl rfl (by rw [hz]; decide) (ex_load rfl (eval_slot ((hG.slots 3 (by decide)).trans rfl)) (ldn_node (row2 (hF 14 (by decide)).1).1 (row2 (hF 14 (by decide)).1).2.1)) hG.below
      · exact rol_one_nd rfl rfl rfl (by rw [hz]; decide) rfl (eval_slot (hF 7 (by decide))) hG.below (Nat.le_trans HWN.out hG.new)
      · obtain ⟨u, ob, hu, -, hp⟩ := hF 8 (by decide)
        obtain ⟨b, rfl, hnd⟩ := hp.nds
        exact rol_app_nd rfl rfl rfl (by rw [hz]; decide) rfl (hF 6 (by decide)) (eval_slot hu) hnd (by have := HLEN.out; omega) hG.below HWN.out hG.new rfl rfl
      · exact rol_agg_nd rfl rfl rfl (by rw [hz]; decide) rfl (by rw [List.length_append, HN.out]; rfl) (hF 9 (by decide)) hG.below
      · exact rol_val rfl rfl rfl (by rw [hz]; decide) (ex_move (Or.inr rfl) (eval_slot (hF 2 (by decide)))) hG.below
      · exact rol_box_nd rfl rfl rfl rfl ((eval_slot ((hG.slots 5 (by decide)).trans rfl))) (by rw [List.length_append, HN.out]; rfl) (hF 10 (by decide)) (hF 15 (by decide)) hG.below HWR.out
    · intro a wx who hG hF
      have fv4 : a.tmps.getD 4 undef = .int .i64 (n : Int) := eval_slot (s := 4) (hF 11 (of_decide_eq_true (by kernel_rfl)) (of_decide_eq_true (by kernel_rfl)))
      obtain ⟨v24, ob24, fv24, fo24, fp24⟩ := hF 10 (of_decide_eq_true (by kernel_rfl)) (of_decide_eq_true (by kernel_rfl))
      replace fv24 : a.tmps.getD 24 undef = v24 := eval_slot (s := 24) fv24
      have hbox := hF 12 (of_decide_eq_true (by kernel_rfl)) (of_decide_eq_true (by kernel_rfl))
      obtain ⟨vb, ob2, hvb, -, -, ub, rfl, hbox2⟩ := hbox
      have e24 : v24 = .agg #[ub] := fv24.symm.trans (eval_slot hvb)
      obtain ⟨uu, hu1, hrow24, -⟩ := fp24
      rw [e24] at hu1
      injection hu1 with hu1
      injection hu1 with hu1
      injection hu1 with hu1 _
      subst hu1 e24
      clear hvb fo24
      have hbx := hG.below
      have hnx := hG.new
      rw [hG.frame]
      simp only [List.foldl_cons, List.foldl_nil, List.setIfInBounds_toArray, List.set_cons_zero, List.set_cons_succ]
      generalize a.tmps.getD 14 undef = u14
      generalize a.tmps.getD 15 undef = u15
      generalize a.tmps.getD 16 undef = u16
      generalize a.tmps.getD 17 undef = u17
      generalize a.tmps.getD 18 undef = u18
      generalize a.tmps.getD 19 undef = u19
      generalize a.tmps.getD 20 undef = u20
      generalize a.tmps.getD 21 undef = u21
      generalize a.tmps.getD 22 undef = u22
      generalize a.tmps.getD 23 undef = u23
      rw [fv24]
      rw [fv4]
      clear hF hG fv4 fv24
      go_wp2_with fail
      try simp only [Exit.inBlock, Exit.then]
      refine bodyPost_ret (v := .tuple #[.int .i64 (n : Int), .agg #[ub]]) (results_tc (fn := Try.f19) (p := 4) (q := 5) (ty := 24) rfl _ _ r 24 #[ub] (0, 0) _ rfl hbox2 Try.underlying24 rfl Try.size_names) rfl ?_
      exact ⟨ub, by rw [HIL.out], .inr ⟨HO.out, row_base hrow24 HWN.out⟩, hbx⟩
  · have hp : placeM L (p, v) = (I : Int) := by unfold placeM; rw [ho, if_pos rfl, hI]
    rw [hp] at k1
    clear h hn hW hg hg' hr hb hsz hlen hwr ho hI hp
    have hI0 : (0 : Int) ≤ (I : Int) := by omega
    go_enter Try.func19, Try.ntmps19
    go_upto_region 1 with fail
    change Code.wp _ _ _ _ (((w.alloc (.cells #[.slice a n c] 24)).alloc (.cells #[.string (mkB p), .string (mkB v)] 26)).alloc (.cells #[.slice none 0 0] 24))
    rw [HW.out, HR.out, HG'.out, HG.out]
    go_upto_region 3 with (go_at_call 20; refine (k1 _ _ SL.out).mono ?_; rintro e W2 ⟨rfl, hb2⟩; replace B := Lib.hid (below_step B.out hb2); replace d0 := cell_keep d0 hb2; have hrow2 := row_keepB hrow hb2; obtain ⟨q0, f0⟩ := row1 hrow2; replace SL := Lib.hid (SL.out.below hb2); have HROW := Lib.hid hrow2; clear hb2 k1 hrow2)
    go_region
    all_goals
      go_wp2_with fail
      try simp only [Exit.inBlock, Exit.then]
      have hwr := HWR.out
      refine bodyPost_ret (v := .tuple #[.int .i64 (I : Int), .agg #[.slice a n c]]) (results_tc (fn := Try.f19) (p := 4) (q := 5) (ty := 24) rfl _ _ r 24 #[.slice a n c] (0, 0) _ rfl (row1_set HROW.out _) Try.underlying24 rfl Try.size_names) rfl ?_
      exact ⟨_, rfl, .inl ⟨HO.out, rfl⟩, (B.out.setCell hwr _).drew⟩
theorem refiid_any (V : Value) (L : List Nd) (p v : List UInt8) (w : World) (h : Nds w V L) (hlen : L.length ≤ 100000) :
    Calls Try.prog 19 #[.agg #[V], .agg #[.string (mkB p), .string (mkB v)]] w fun e w' => ∃ vn, e = .returned (.tuple #[.int .i64 (ixN L (p, v) : Int), .agg #[vn]]) ∧ Nds w' vn (addM L (p, v)) ∧ Below w.heap.size w w' :=
  (refiid_two V L p v w h hlen).mono fun e w' ⟨vn, he, hv, hb⟩ => ⟨vn, he, hv.elim (fun ⟨h1, h2⟩ => by rw [addM_yes h1, h2]; exact h.below hb) (fun ⟨h1, h2⟩ => by rw [addM_no h1]; exact Nds.owned (by rw [List.length_append]; exact h2)), hb⟩
end Go.Proofs.Ythmnoepdedjhjaa

namespace Go.Proofs.Ythmnoepdedjhjaa
open Go.RowKit Go.Maps
set_option maxRecDepth 100000

def exI : Nd := ([97], [118, 49, 46, 48, 46, 48])
theorem exI_ok : okN exI = true := by kernel_rfl
theorem exI_small : smallN ([97], [118, 49, 46, 48, 46, 48]) := ⟨by simp, by simp⟩
theorem exI_id : idM [] ([97], [118, 49, 46, 48, 46, 48]) = (0, [([97], [118, 49, 46, 48, 46, 48])], 0) := by kernel_rfl
theorem exI_again : idM [([97], [118, 49, 46, 48, 46, 48])] ([97], [118, 49, 46, 48, 46, 48]) = (0, [([97], [118, 49, 46, 48, 46, 48])], 0) := by kernel_rfl
theorem exI_one : atM [([97], [118, 49, 46, 48, 46, 48])] [1] = ([], 2) := by kernel_rfl
theorem exI_none : atM [([97], [118, 49, 46, 48, 46, 48])] [0] = ([([97], [118, 49, 46, 48, 46, 48])], 0) := by kernel_rfl

set_option maxHeartbeats 3200000 in
theorem iawake_any (w : World) : Calls Try.prog 16 #[] w fun e w' => e = .returned (.bool true) ∧ Below w.heap.size w w' := by
  have B := Lib.hid (Below.refl w.heap.size w)
  have h1 := fun w => iid_any _ [] [97] [118, 49, 46, 48, 46, 48] w (nds_none w) (fun n hn => by cases hn) exI_small (by simp)
  have h2 := fun U w h => iid_any U [([97], [118, 49, 46, 48, 46, 48])] [97] [118, 49, 46, 48, 46, 48] w h (one_small exI_small) exI_small (by simp)
  have h3 := fun U (w : World) h => iat_any U (.slice (some ⟨w.heap.size, 0, none⟩) 1 1) [([97], [118, 49, 46, 48, 46, 48])] [1] (w.alloc (.cells #[.int .i64 1] 3)) h (Ints.lit1 w 1 3) (one_small exI_small) (by simp)
  have h4 := fun U (w : World) h => iat_any U (.slice (some ⟨w.heap.size, 0, none⟩) 1 1) [([97], [118, 49, 46, 48, 46, 48])] [0] (w.alloc (.cells #[.int .i64 0] 3)) h (Ints.lit1 w 0 3) (one_small exI_small) (by simp)
  rw [exI_id] at h1
  rw [exI_again] at h2
  rw [exI_one] at h3
  rw [exI_none] at h4
  simp only [List.length_singleton, Int.natCast_zero] at h1 h2 h4
  simp only [List.length_nil] at h3
  go_enter Try.func16, Try.ntmps16
  go_upto_region 2 with fail
  obtain ⟨W1, g1, hW1, hg1, c0, c1, hb1⟩ := box1 w (.string (mkB [97])) (.string (mkB [118, 49, 46, 48, 46, 48])) 26
  change Code.wp _ _ _ _ (w.alloc (.cells #[.string (mkB [97]), .string (mkB [118, 49, 46, 48, 46, 48])] 26))
  rw [hW1, hg1]
  replace B := Lib.hid hb1.toBelow
  clear hW1 hg1 hb1
  go_upto_region 3 with (go_at_call 11; refine (h1 _).mono ?_; rintro e w2 ⟨vn, rfl, hown, hb2⟩; obtain ⟨aM, cM, rfl, hM⟩ := ndsO hown; simp only [List.length_singleton] at hM hown ⊢; replace c0 := cell_keep c0 hb2; replace c1 := cell_keep c1 hb2; replace B := Lib.hid (below_step B.out hb2); clear hb2 h1 hown)
  obtain ⟨W3, g3, hW3, hg3, d0, hb3⟩ := boxM w2 (.slice aM 1 cM) 24
  rw [hW3, hg3]
  replace c0 := cell_keep c0 hb3; replace c1 := cell_keep c1 hb3; have SM := Lib.hid (hM.below hb3)
  replace B := Lib.hid (below_step B.out hb3)
  clear hW3 hg3 hb3 hM
  go_upto_region 4 with (go_at_call 11; refine (h2 _ _ SM.out).mono ?_; rintro e w4 ⟨vn, rfl, hown, hb2⟩; obtain ⟨aN, cN, rfl, hN⟩ := ndsO hown; simp only [List.length_singleton] at hN hown ⊢; replace c0 := cell_keep c0 hb2; replace c1 := cell_keep c1 hb2; replace B := Lib.hid (below_step B.out hb2); clear hb2 h2 hown)
  obtain ⟨W5, g5, hW5, hg5, e0, hb5⟩ := boxM w4 (.slice aN 1 cN) 24
  rw [hW5, hg5]
  replace c0 := cell_keep c0 hb5; replace c1 := cell_keep c1 hb5; have SN := Lib.hid (hN.below hb5)
  replace B := Lib.hid (below_step B.out hb5)
  clear hW5 hg5 hb5 hN d0 SM
  go_upto_region 5 with (go_at_call 12; refine (h3 _ _ (SN.out.below ((Below.refl _ _).alloc (Nat.le_refl _) _))).mono ?_; rintro e W6 ⟨vn, rfl, hown, hb6⟩; have hb2 := below_step ((Below.refl _ _).alloc (Nat.le_refl _) _) hb6; replace c0 := cell_keep c0 hb2; replace c1 := cell_keep c1 hb2; replace e0 := cell_keep e0 hb2; replace SN := Lib.hid (SN.out.below hb2); replace B := Lib.hid (below_step B.out hb2); clear hb2 hb6 h3 hown)
  go_upto_region 6 with (go_at_call 12; refine (h4 _ _ (SN.out.below ((Below.refl _ _).alloc (Nat.le_refl _) _))).mono ?_; rintro e W7 ⟨vl, rfl, hown, hb7⟩; obtain ⟨aL, cL, rfl, hL⟩ := ndsO hown; simp only [List.length_singleton] at hL hown ⊢; have hb2 := below_step ((Below.refl _ _).alloc (Nat.le_refl _) _) hb7; replace c0 := cell_keep c0 hb2; replace c1 := cell_keep c1 hb2; replace e0 := cell_keep e0 hb2; replace B := Lib.hid (below_step B.out hb2); clear hb2 hb7 h4 hown)
  obtain ⟨bl, ol, rfl, -, l0, l1⟩ := hL.at 0 (by simp)
  simp only [List.getD_cons_zero, Nat.zero_mul, Nat.add_zero] at l0 l1
  have hgd := guard_nd
  have heq := eq_nd [97] [118, 49, 46, 48, 46, 48] [97] [118, 49, 46, 48, 46, 48]
  rw [decide_eq_true rfl] at heq
  clear hL SN
  go_wp2_with fail
  go_quiet (fail)
  go_wp2
  go_ret
  exact ⟨rfl, below_step B.out (below_q ⟨nq, rfl⟩)⟩
end Go.Proofs.Ythmnoepdedjhjaa

namespace Go.Proofs.Ythmnoepdedjhjaa
open Go.RowKit Go.ChangeShapes Go.WideShapes
set_option maxRecDepth 100000

section
variable {H : Type} {enc : TypeId × Value → H} {w : World} {base : Nat} {spare : Nat → Bool} {held : Bool}
theorem names_open {r : Reach} {b0 : Nat} {v : Value} {d : DataW H} {p : List MemPlace} (hv : Value.okWide Try.prog w r b0 24 v) (h : DataW.Trod enc Try.prog w base spare held 24 v d p) :
    ∃ l : List Nd, (∃ V, v = .agg #[V] ∧ Nds w V l) ∧ ∀ n ∈ l, fitsN n := by
  obtain ⟨cs, rfl, hsz⟩ := okWide_struct Try.underlying24 hv
  have hC : Try.prog.cellsOf 24 = 1 := by kernel_rfl
  rw [hC] at hsz
  obtain ⟨v0, rfl⟩ : ∃ v0, cs = #[v0] := by
    obtain ⟨⟨⟩ | ⟨v0, ⟨⟩ | ⟨v1, l⟩⟩⟩ := cs
    · simp at hsz
    · exact ⟨v0, rfl⟩
    · simp at hsz
  obtain ⟨fuel, hf⟩ := h
  obtain ⟨y0, n, -, -, t0⟩ := trod_struct1 Try.underlying24 hf
  have t1 : DataW.trod enc Try.prog w base spare held n 22 [v0] = some y0 := by
    have hc : Try.prog.cellsOf 22 = 1 := by kernel_rfl
    simpa [Value.cells, hc] using t0
  have h3 : ∃ a len cap, v0 = .slice a len cap := by
    rcases Go.Deep.open_slice_pairs Try.underlying22 Try.underlying26 (by kernel_rfl) rfl rfl (by kernel_rfl) (by kernel_rfl) t1 with ⟨hcs, _⟩ | ⟨ad, l, c, m, n, V0, V1, D0, D1, P0, P1, hcs, _⟩
    · simp only [List.cons.injEq, and_true] at hcs; exact ⟨_, _, _, hcs⟩
    · simp only [List.cons.injEq, and_true] at hcs; exact ⟨_, _, _, hcs⟩
  obtain ⟨a, len, cap, rfl⟩ := h3
  obtain ⟨l, hl, hf⟩ := nds_open t1
  exact ⟨l, ⟨_, rfl, hl⟩, hf⟩
end

/-- A parameter's box holds what Few told of it: the world named. -/
theorem box_set {w w1 : World} {g k N : Nat} {aN : Option Addr} {cN : Nat} {u : Value} {x : List Nd} (hg : w.heap.size ≤ g) (hgN : g < N) (hown : w1.ownsRow N 26 2 (.slice aN k cN) k (ndsC x)) (hk : x.length = k) (hrow : w1.heap[g]? = some (.cells #[u] 24 (0, 0))) (hb : Below w.heap.size w w1) :
    ∃ W2, w1.setCell ⟨g, 0, none⟩ (.slice aN k cN) = W2 ∧ W2.cell? ⟨g, 0, none⟩ = some (.slice aN k cN) ∧ Nds W2 (.slice aN k cN) x ∧ Below w.heap.size w W2 := by
  have hn : Nds (w1.setCell ⟨g, 0, none⟩ (.slice aN k cN)) (.slice aN k cN) x := Nds.owned (by rw [hk]; exact row_far1 hown hgN _)
  exact ⟨_, rfl, (row1 (row1_set hrow _)).1, hn, hb.setCell hg _⟩
/-! ### All numbers, from 0 on -/
theorem pick_range (l : List Nd) : pickM l ((List.range l.length).map fun k : Nat => (k : Int)) = l := by
  unfold pickM
  rw [List.map_map]
  apply List.ext_getElem
  · simp
  · intro i h1 h2
    simp [List.getElem?_eq_getElem h2]
theorem range_in (n : Nat) : ((List.range n).map fun k : Nat => (k : Int)).all (inM n) = true := by
  rw [List.all_map, List.all_eq_true]
  intro k hk
  have := List.mem_range.1 hk
  show inM n (k : Int) = true
  rw [inM_nat, decide_eq_true this]
theorem all_new {l : List Nd} (h : okM l = true) : allM [] l = (List.range l.length, l, 0) := by
  obtain ⟨h1, h2⟩ := okM_iff.1 h
  obtain ⟨h3, h4⟩ := namesM_new (l := []) (t := l) (by simpa using h2)
  rw [allM_yes rfl (List.all_eq_true.2 h1), h3, h4, List.nil_append, List.length_nil, ← List.range_eq_range']
theorem at_all {l : List Nd} (h : okM l = true) : atM l ((List.range l.length).map fun k : Nat => (k : Int)) = (l, 0) := by
  rw [atM_yes h (range_in l.length), pick_range]
theorem range_getD {n k : Nat} (h : k < n) : ((List.range n).map fun k : Nat => (k : Int)).getD k 0 = (k : Int) := by
  simp [List.getD_eq_getElem?_getD, h]
end Go.Proofs.Ythmnoepdedjhjaa
