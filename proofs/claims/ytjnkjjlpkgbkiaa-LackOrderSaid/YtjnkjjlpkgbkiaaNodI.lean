/- THE TEXTS OF NodF NodI: Whether a list of nodes is a set: of the program. A set without another one's nodes, and without a node, of the program; whether a node is in a set. -/
import Derived.Test.YtjnkjjlpkgbkiaaNodG
import Derived.Deep.Draws
import Derived.Deep.QuietTactic
import Derived.BigQuiet
import Derived.Deep.RegionWith
import Derived.Deep.CutRange
import Derived.Deep.DeepCutAuto
import Derived.Deep.RegionHeld3
import Derived.Deep.DrawnRows
import Derived.Test.YtjnkjjlpkgbkiaaNodH
namespace Go.Proofs.Ytjnkjjlpkgbkiaa
open Go.RowKit
set_option maxRecDepth 100000
attribute [local go_sem ↓] Go.wp_at_zero Go.wp_at_succ

set_option maxHeartbeats 3200000 in
theorem ncheck_any (v : Value) (ns : List Nd) (w : World) (h : Nds w v ns) (hs : ∀ n ∈ ns, smallN n) :
    Calls Try.prog 27 #[v] w fun e w' => e = .returned (.int .i64 (if checkN ns = true then 0 else 1)) ∧ Below w.heap.size w w' := by
  obtain ⟨a, c, rfl, h1, h2, -, -⟩ := h.ex
  unfold maxLen at h2
  obtain ⟨n, hn⟩ : ∃ n, ns.length = n := ⟨_, rfl⟩
  obtain ⟨T, hT⟩ : ∃ T : Int, (if checkN ns = true then 0 else 1) = T := ⟨_, rfl⟩
  rw [hT]
  have HT := Lib.hid hT; clear hT
  rw [hn] at h1 h ⊢
  have HN := Lib.hid hn; have ST := Lib.hid h; have HS := Lib.hid hs
  clear h hn hs
  go_enter Try.func27, Try.ntmps27
  go_wp2
  go_loopw [7] (fun i wr => ∃ k : Nat, k ≤ n ∧ i = .int .i64 k ∧ Hid (∀ j, j < k → stepN ns j = true) ∧ Hid (Below w.heap.size w wr)) (fun i _ => n - (intOf i).toNat)
  case atStart => exact ⟨0, Nat.zero_le _, rfl, Lib.hid fun j hj => absurd hj (Nat.not_lt_zero j), Lib.hid (Below.refl _ _)⟩
  case round =>
    obtain ⟨k, hk, rfl, HM, HB⟩ := hrel
    by_cases hlt : k < n
    · have hkl : k < ns.length := by rw [HN.out]; exact hlt
      obtain ⟨y, hy⟩ : ∃ y, y = ns.getD k ([], []) := ⟨_, rfl⟩
      have hsy : smallN y := by rw [hy]; exact HS.out _ (nd_mem hkl)
      obtain ⟨x, hx⟩ : ∃ x, x = ns.getD (k - 1) ([], []) := ⟨_, rfl⟩
      have hsx : smallN x := by rw [hx]; exact HS.out _ (nd_mem (by omega))
      have hst : stepN ns k = (okN y && (decide (k = 0) || ltN x y)) := by unfold stepN; rw [← hy, ← hx]
      obtain ⟨b, off, rfl, hbk, hc0, hc1⟩ := (ST.out.below HB.out).at k hkl
      rw [← hy] at hc0 hc1
      have hpr : w.heap.size = w.heap.size ∧ wr.cell? ⟨b, off + (k - 1) * 2, none⟩ = some (.string (mkB x.1)) ∧ wr.cell? ⟨b, off + (k - 1) * 2 + 1, none⟩ = some (.string (mkB x.2)) := by
        obtain ⟨b', off', e, _, p0, p1⟩ := (ST.out.below HB.out).at (k - 1) (by omega)
        cases e
        rw [← hx] at p0 p1
        exact ⟨rfl, p0, p1⟩
      obtain ⟨-, hp0, hp1⟩ := hpr
      obtain ⟨o, ho⟩ : ∃ o, okN y = o := ⟨_, rfl⟩
      have hox : 0 < k → okN x = true := fun h0 => by
        have := HM.out (k - 1) (by omega)
        unfold stepN at this
        rw [← hx] at this
        simp only [Bool.and_eq_true] at this
        exact this.1
      have HSY := Lib.hid hsy; have HSX := Lib.hid hsx; have HY := Lib.hid hy; have HX := Lib.hid hx; have HSTEP := Lib.hid hst; have HO := Lib.hid ho; have HOX := Lib.hid hox; have HKL := Lib.hid hkl
      clear hsy hsx hy hx hst ho hox hkl
      obtain ⟨W, g, hW, hg, d0, d1, hb⟩ := boxB1 wr (.string (mkB y.1)) (.string (mkB y.2)) 31
      have p0 := cell_keep hp0 hb
      have p1 := cell_keep hp1 hb
      have HW := Lib.hid hW; have HG := Lib.hid hg; have B := Lib.hid (below_step HB.out hb)
      clear hW hg hb
      go_upto_region 4 with fail
      rw [HW.out, HG.out]
      clear hc0 hc1 hp0 hp1
      cases o
      · have hno : Hid (checkN ns = false) := Lib.hid (checkN_no HKL.out (by rw [HSTEP.out, HO.out]; rfl))
        go_cut [28] from 12 to 28 (fun s28 wx => s28 = .bool true ∧ Below w.heap.size w wx)
        case first =>
          refine wp_region_held_drew (S := fun w' => w'.cell? ⟨g, 0, none⟩ = some (.string (mkB y.1)) ∧ w'.cell? ⟨g, 1, none⟩ = some (.string (mkB y.2)) ∧ w'.cell? ⟨b, off + (k - 1) * 2, none⟩ = some (.string (mkB x.1)) ∧ w'.cell? ⟨b, off + (k - 1) * 2 + 1, none⟩ = some (.string (mkB x.2)) ∧ Below w.heap.size w w') (by kernel_rfl) (by exact ⟨cell_drew d0, cell_drew d1, cell_drew p0, cell_drew p1, below_step B.out (below_q ⟨1, rfl⟩)⟩) (fun hS => ?_)
          refine wpAnyH_take (i := 0) (v := ?_) rfl (by kernel_rfl) (by kernel_rfl) (by kernel_rfl) (fun _ _ _ h => h) (Or.inl ⟨by kernel_rfl, ?_⟩) hS ?_
          rotate_left
          · intro w hSw; (try dsimp only at hSw); go_simp; try (with_reducible rfl)
          simp only [Act.put, List.getElem_toArray, List.getElem_cons_zero, List.setIfInBounds_toArray, List.set_cons_zero, List.set_cons_succ]
          refine wpAnyH_ready (rs := [1]) (by kernel_rfl) (by simp) (AllReadyH.cons rfl (fun K hK => ?_) AllReadyH.nil)
          go_simp
          go_at_call 22; refine (nmay_any _ _ _ HSY.out.1 HSY.out.2).mono ?_; rintro e w1 ⟨rfl, hb1⟩; rw [HO.out]
          refine hK.out _ _ (by exact ⟨cell_keep hS.1 hb1, cell_keep hS.2.1 hb1, cell_keep hS.2.2.1 hb1, cell_keep hS.2.2.2.1 hb1, below_step hS.2.2.2.2 hb1⟩) (fun hS => ?_)
          clear hK K
          try simp only [Act.put, List.getElem_toArray, List.getElem_cons_succ, List.getElem_cons_zero, List.setIfInBounds_toArray, List.set_cons_zero, List.set_cons_succ]
          refine wpAnyH_take (i := 2) (v := ?_) rfl (by kernel_rfl) (by kernel_rfl) (by kernel_rfl) (fun _ _ _ h => h) (Or.inl ⟨by kernel_rfl, ?_⟩) hS ?_
          rotate_left
          · intro w hSw; (try dsimp only at hSw); go_simp; try (with_reducible rfl)
          simp only [Act.put, List.getElem_toArray, List.getElem_cons_succ, List.getElem_cons_zero, List.setIfInBounds_toArray, List.set_cons_zero, List.set_cons_succ]
          refine wpAnyH_take (i := 3) (v := ?_) rfl (by kernel_rfl) (by kernel_rfl) (by kernel_rfl) (fun _ _ _ h => h) (Or.inl ⟨by kernel_rfl, ?_⟩) hS ?_
          rotate_left
          · intro w hSw; (try dsimp only at hSw); go_simp; try (with_reducible rfl)
          simp only [Act.put, List.getElem_toArray, List.getElem_cons_succ, List.getElem_cons_zero, List.setIfInBounds_toArray, List.set_cons_zero, List.set_cons_succ]
          refine wpAnyH_take (i := 4) (v := undef) rfl (by kernel_rfl) (by kernel_rfl) (by kernel_rfl) (fun _ _ _ h => h) (Or.inr ⟨by kernel_rfl, rfl⟩) hS ?_
          simp only [Act.put, List.getElem_toArray, List.getElem_cons_succ, List.getElem_cons_zero, List.setIfInBounds_toArray, List.set_cons_zero, List.set_cons_succ]
          refine wpAnyH_take (i := 5) (v := undef) rfl (by kernel_rfl) (by kernel_rfl) (by kernel_rfl) (fun _ _ _ h => h) (Or.inr ⟨by kernel_rfl, rfl⟩) hS ?_
          simp only [Act.put, List.getElem_toArray, List.getElem_cons_succ, List.getElem_cons_zero, List.setIfInBounds_toArray, List.set_cons_zero, List.set_cons_succ]
          refine wpAnyH_take (i := 6) (v := undef) rfl (by kernel_rfl) (by kernel_rfl) (by kernel_rfl) (fun _ _ _ h => h) (Or.inr ⟨by kernel_rfl, rfl⟩) hS ?_
          simp only [Act.put, List.getElem_toArray, List.getElem_cons_succ, List.getElem_cons_zero, List.setIfInBounds_toArray, List.set_cons_zero, List.set_cons_succ]
          refine wpAnyH_take (i := 7) (v := undef) rfl (by kernel_rfl) (by kernel_rfl) (by kernel_rfl) (fun _ _ _ h => h) (Or.inr ⟨by kernel_rfl, rfl⟩) hS ?_
          simp only [Act.put, List.getElem_toArray, List.getElem_cons_succ, List.getElem_cons_zero, List.setIfInBounds_toArray, List.set_cons_zero, List.set_cons_succ]
          refine wpAnyH_take (i := 8) (v := undef) rfl (by kernel_rfl) (by kernel_rfl) (by kernel_rfl) (fun _ _ _ h => h) (Or.inr ⟨by kernel_rfl, rfl⟩) hS ?_
          simp only [Act.put, List.getElem_toArray, List.getElem_cons_succ, List.getElem_cons_zero, List.setIfInBounds_toArray, List.set_cons_zero, List.set_cons_succ]
          refine wpAnyH_take (i := 9) (v := undef) rfl (by kernel_rfl) (by kernel_rfl) (by kernel_rfl) (fun _ _ _ h => h) (Or.inr ⟨by kernel_rfl, rfl⟩) hS ?_
          simp only [Act.put, List.getElem_toArray, List.getElem_cons_succ, List.getElem_cons_zero, List.setIfInBounds_toArray, List.set_cons_zero, List.set_cons_succ]
          refine wpAnyH_take (i := 10) (v := undef) rfl (by kernel_rfl) (by kernel_rfl) (by kernel_rfl) (fun _ _ _ h => h) (Or.inr ⟨by kernel_rfl, rfl⟩) hS ?_
          simp only [Act.put, List.getElem_toArray, List.getElem_cons_succ, List.getElem_cons_zero, List.setIfInBounds_toArray, List.set_cons_zero, List.set_cons_succ]
          refine wpAnyH_take (i := 11) (v := undef) rfl (by kernel_rfl) (by kernel_rfl) (by kernel_rfl) (fun _ _ _ h => h) (Or.inr ⟨by kernel_rfl, rfl⟩) hS ?_
          simp only [Act.put, List.getElem_toArray, List.getElem_cons_succ, List.getElem_cons_zero, List.setIfInBounds_toArray, List.set_cons_zero, List.set_cons_succ]
          refine wpAnyH_take (i := 12) (v := undef) rfl (by kernel_rfl) (by kernel_rfl) (by kernel_rfl) (fun _ _ _ h => h) (Or.inr ⟨by kernel_rfl, rfl⟩) hS ?_
          simp only [Act.put, List.getElem_toArray, List.getElem_cons_succ, List.getElem_cons_zero, List.setIfInBounds_toArray, List.set_cons_zero, List.set_cons_succ]
          refine wpAnyH_take (i := 13) (v := undef) rfl (by kernel_rfl) (by kernel_rfl) (by kernel_rfl) (fun _ _ _ h => h) (Or.inr ⟨by kernel_rfl, rfl⟩) hS ?_
          simp only [Act.put, List.getElem_toArray, List.getElem_cons_succ, List.getElem_cons_zero, List.setIfInBounds_toArray, List.set_cons_zero, List.set_cons_succ]
          refine wpAnyH_take (i := 14) (v := undef) rfl (by kernel_rfl) (by kernel_rfl) (by kernel_rfl) (fun _ _ _ h => h) (Or.inr ⟨by kernel_rfl, rfl⟩) hS ?_
          simp only [Act.put, List.getElem_toArray, List.getElem_cons_succ, List.getElem_cons_zero, List.setIfInBounds_toArray, List.set_cons_zero, List.set_cons_succ]
          refine wpAnyH_take (i := 15) (v := undef) rfl (by kernel_rfl) (by kernel_rfl) (by kernel_rfl) (fun _ _ _ h => h) (Or.inr ⟨by kernel_rfl, rfl⟩) hS ?_
          simp only [Act.put, List.getElem_toArray, List.getElem_cons_succ, List.getElem_cons_zero, List.setIfInBounds_toArray, List.set_cons_zero, List.set_cons_succ]
          refine wpAnyH_take (i := 16) (v := ?_) rfl (by kernel_rfl) (by kernel_rfl) (by kernel_rfl) (fun _ _ _ h => h) (Or.inl ⟨by kernel_rfl, ?_⟩) hS ?_
          rotate_left
          · intro w hSw; (try dsimp only at hSw); go_simp; try (with_reducible rfl)
          simp only [Act.put, List.getElem_toArray, List.getElem_cons_succ, List.getElem_cons_zero, List.setIfInBounds_toArray, List.set_cons_zero, List.set_cons_succ]
          refine wpAnyH_done (by kernel_rfl) ?_ _
          go_wp2_with fail
          go_meet
          exact ⟨rfl, hS.2.2.2.2⟩
        case rest =>
          obtain ⟨rfl, hbw⟩ := hcut
          go_wp2
          go_ret
          exact ⟨by rw [← HT.out, if_neg (by rw [hno.out]; simp)]; rfl, hbw⟩
      · by_cases h0 : k = 0
        · subst h0
          have hyes : Hid (stepN ns 0 = true) := Lib.hid (by rw [HSTEP.out, HO.out]; rfl)
          go_cut [28] from 12 to 28 (fun s28 wx => s28 = .bool false ∧ Below w.heap.size w wx)
          case first =>
            refine wp_region_held_drew (S := fun w' => w'.cell? ⟨g, 0, none⟩ = some (.string (mkB y.1)) ∧ w'.cell? ⟨g, 1, none⟩ = some (.string (mkB y.2)) ∧ w'.cell? ⟨b, off + (0 - 1) * 2, none⟩ = some (.string (mkB x.1)) ∧ w'.cell? ⟨b, off + (0 - 1) * 2 + 1, none⟩ = some (.string (mkB x.2)) ∧ Below w.heap.size w w') (by kernel_rfl) (by exact ⟨cell_drew d0, cell_drew d1, cell_drew p0, cell_drew p1, below_step B.out (below_q ⟨1, rfl⟩)⟩) (fun hS => ?_)
            refine wpAnyH_take (i := 0) (v := ?_) rfl (by kernel_rfl) (by kernel_rfl) (by kernel_rfl) (fun _ _ _ h => h) (Or.inl ⟨by kernel_rfl, ?_⟩) hS ?_
            rotate_left
            · intro w hSw; (try dsimp only at hSw); go_simp; try (with_reducible rfl)
            simp only [Act.put, List.getElem_toArray, List.getElem_cons_zero, List.setIfInBounds_toArray, List.set_cons_zero, List.set_cons_succ]
            refine wpAnyH_ready (rs := [1]) (by kernel_rfl) (by simp) (AllReadyH.cons rfl (fun K hK => ?_) AllReadyH.nil)
            go_simp
            go_at_call 22; refine (nmay_any _ _ _ HSY.out.1 HSY.out.2).mono ?_; rintro e w1 ⟨rfl, hb1⟩; rw [HO.out]
            refine hK.out _ _ (by exact ⟨cell_keep hS.1 hb1, cell_keep hS.2.1 hb1, cell_keep hS.2.2.1 hb1, cell_keep hS.2.2.2.1 hb1, below_step hS.2.2.2.2 hb1⟩) (fun hS => ?_)
            clear hK K
            try simp only [Act.put, List.getElem_toArray, List.getElem_cons_succ, List.getElem_cons_zero, List.setIfInBounds_toArray, List.set_cons_zero, List.set_cons_succ]
            refine wpAnyH_take (i := 2) (v := ?_) rfl (by kernel_rfl) (by kernel_rfl) (by kernel_rfl) (fun _ _ _ h => h) (Or.inl ⟨by kernel_rfl, ?_⟩) hS ?_
            rotate_left
            · intro w hSw; (try dsimp only at hSw); go_simp; try (with_reducible rfl)
            simp only [Act.put, List.getElem_toArray, List.getElem_cons_succ, List.getElem_cons_zero, List.setIfInBounds_toArray, List.set_cons_zero, List.set_cons_succ]
            refine wpAnyH_take (i := 3) (v := ?_) rfl (by kernel_rfl) (by kernel_rfl) (by kernel_rfl) (fun _ _ _ h => h) (Or.inl ⟨by kernel_rfl, ?_⟩) hS ?_
            rotate_left
            · intro w hSw; (try dsimp only at hSw); go_simp; try (with_reducible rfl)
            simp only [Act.put, List.getElem_toArray, List.getElem_cons_succ, List.getElem_cons_zero, List.setIfInBounds_toArray, List.set_cons_zero, List.set_cons_succ]
            refine wpAnyH_take (i := 4) (v := ?_) rfl (by kernel_rfl) (by kernel_rfl) (by kernel_rfl) (fun _ _ _ h => h) (Or.inl ⟨by kernel_rfl, ?_⟩) hS ?_
            rotate_left
            · intro w hSw; (try dsimp only at hSw); go_simp; try (with_reducible rfl)
            simp only [Act.put, List.getElem_toArray, List.getElem_cons_succ, List.getElem_cons_zero, List.setIfInBounds_toArray, List.set_cons_zero, List.set_cons_succ]
            refine wpAnyH_take (i := 5) (v := ?_) rfl (by kernel_rfl) (by kernel_rfl) (by kernel_rfl) (fun _ _ _ h => h) (Or.inl ⟨by kernel_rfl, ?_⟩) hS ?_
            rotate_left
            · intro w hSw; (try dsimp only at hSw); go_simp; try (with_reducible rfl)
            simp only [Act.put, List.getElem_toArray, List.getElem_cons_succ, List.getElem_cons_zero, List.setIfInBounds_toArray, List.set_cons_zero, List.set_cons_succ]
            refine wpAnyH_take (i := 6) (v := ?_) rfl (by kernel_rfl) (by kernel_rfl) (by kernel_rfl) (fun _ _ _ h => h) (Or.inl ⟨by kernel_rfl, ?_⟩) hS ?_
            rotate_left
            · intro w hSw; (try dsimp only at hSw); go_simp; try (with_reducible rfl)
            simp only [Act.put, List.getElem_toArray, List.getElem_cons_succ, List.getElem_cons_zero, List.setIfInBounds_toArray, List.set_cons_zero, List.set_cons_succ]
            refine wpAnyH_take (i := 7) (v := undef) rfl (by kernel_rfl) (by kernel_rfl) (by kernel_rfl) (fun _ _ _ h => h) (Or.inr ⟨by kernel_rfl, rfl⟩) hS ?_
            simp only [Act.put, List.getElem_toArray, List.getElem_cons_succ, List.getElem_cons_zero, List.setIfInBounds_toArray, List.set_cons_zero, List.set_cons_succ]
            refine wpAnyH_take (i := 8) (v := undef) rfl (by kernel_rfl) (by kernel_rfl) (by kernel_rfl) (fun _ _ _ h => h) (Or.inr ⟨by kernel_rfl, rfl⟩) hS ?_
            simp only [Act.put, List.getElem_toArray, List.getElem_cons_succ, List.getElem_cons_zero, List.setIfInBounds_toArray, List.set_cons_zero, List.set_cons_succ]
            refine wpAnyH_take (i := 9) (v := undef) rfl (by kernel_rfl) (by kernel_rfl) (by kernel_rfl) (fun _ _ _ h => h) (Or.inr ⟨by kernel_rfl, rfl⟩) hS ?_
            simp only [Act.put, List.getElem_toArray, List.getElem_cons_succ, List.getElem_cons_zero, List.setIfInBounds_toArray, List.set_cons_zero, List.set_cons_succ]
            refine wpAnyH_take (i := 10) (v := undef) rfl (by kernel_rfl) (by kernel_rfl) (by kernel_rfl) (fun _ _ _ h => h) (Or.inr ⟨by kernel_rfl, rfl⟩) hS ?_
            simp only [Act.put, List.getElem_toArray, List.getElem_cons_succ, List.getElem_cons_zero, List.setIfInBounds_toArray, List.set_cons_zero, List.set_cons_succ]
            refine wpAnyH_take (i := 11) (v := undef) rfl (by kernel_rfl) (by kernel_rfl) (by kernel_rfl) (fun _ _ _ h => h) (Or.inr ⟨by kernel_rfl, rfl⟩) hS ?_
            simp only [Act.put, List.getElem_toArray, List.getElem_cons_succ, List.getElem_cons_zero, List.setIfInBounds_toArray, List.set_cons_zero, List.set_cons_succ]
            refine wpAnyH_take (i := 12) (v := undef) rfl (by kernel_rfl) (by kernel_rfl) (by kernel_rfl) (fun _ _ _ h => h) (Or.inr ⟨by kernel_rfl, rfl⟩) hS ?_
            simp only [Act.put, List.getElem_toArray, List.getElem_cons_succ, List.getElem_cons_zero, List.setIfInBounds_toArray, List.set_cons_zero, List.set_cons_succ]
            refine wpAnyH_take (i := 13) (v := undef) rfl (by kernel_rfl) (by kernel_rfl) (by kernel_rfl) (fun _ _ _ h => h) (Or.inr ⟨by kernel_rfl, rfl⟩) hS ?_
            simp only [Act.put, List.getElem_toArray, List.getElem_cons_succ, List.getElem_cons_zero, List.setIfInBounds_toArray, List.set_cons_zero, List.set_cons_succ]
            refine wpAnyH_take (i := 14) (v := undef) rfl (by kernel_rfl) (by kernel_rfl) (by kernel_rfl) (fun _ _ _ h => h) (Or.inr ⟨by kernel_rfl, rfl⟩) hS ?_
            simp only [Act.put, List.getElem_toArray, List.getElem_cons_succ, List.getElem_cons_zero, List.setIfInBounds_toArray, List.set_cons_zero, List.set_cons_succ]
            refine wpAnyH_take (i := 15) (v := ?_) rfl (by kernel_rfl) (by kernel_rfl) (by kernel_rfl) (fun _ _ _ h => h) (Or.inl ⟨by kernel_rfl, ?_⟩) hS ?_
            rotate_left
            · intro w hSw; (try dsimp only at hSw); go_simp; try (with_reducible rfl)
            simp only [Act.put, List.getElem_toArray, List.getElem_cons_succ, List.getElem_cons_zero, List.setIfInBounds_toArray, List.set_cons_zero, List.set_cons_succ]
            refine wpAnyH_take (i := 16) (v := ?_) rfl (by kernel_rfl) (by kernel_rfl) (by kernel_rfl) (fun _ _ _ h => h) (Or.inl ⟨by kernel_rfl, ?_⟩) hS ?_
            rotate_left
            · intro w hSw; (try dsimp only at hSw); go_simp; try (with_reducible rfl)
            simp only [Act.put, List.getElem_toArray, List.getElem_cons_succ, List.getElem_cons_zero, List.setIfInBounds_toArray, List.set_cons_zero, List.set_cons_succ]
            refine wpAnyH_done (by kernel_rfl) ?_ _
            go_wp2_with fail
            go_meet
            exact ⟨rfl, hS.2.2.2.2⟩
          case rest =>
            obtain ⟨rfl, hbw⟩ := hcut
            have HBW := Lib.hid hbw; clear hbw
            have HNEW : Hid (∀ j, j < 0 + 1 → stepN ns j = true) := Lib.hid fun j hj => by
              rcases Nat.lt_or_ge j 0 with h | h
              · exact HM.out j h
              · obtain rfl : j = 0 := by omega
                exact hyes.out
            go_wp2
            go_roundw
            case rel => exact ⟨0 + 1, by omega, by go_num, HNEW, HBW⟩
            case measure => simp [intOf]; omega
        · have HOXX := Lib.hid (HOX.out (by omega))
          have hw1 : IntKind.i64.wrap ((k : Int) - 1) = (k : Int) - 1 := IntWalk.i64_in _ (by omega)
          have hb0 : (0 : Int) ≤ (k : Int) - 1 ∧ (k : Int) - 1 < (n : Int) := by omega
          have hkt : ((k : Int) - 1).toNat = k - 1 := by omega
          have hkp : (0 : Int) < (k : Int) := by omega
          have hk1 : (1 : Int) ≤ (k : Int) := by omega
          have hkn : 0 < k := by omega
          rcases ordN_vals x y with hr | hr | hr
          · have HR := Lib.hid hr; clear hr
            have hyes : Hid (stepN ns k = true) := Lib.hid (by rw [HSTEP.out, HO.out, ltN_iff.2 (by rw [HR.out]; decide), Bool.or_true]; rfl)
            go_cut [28] from 12 to 28 (fun s28 wx => s28 = .bool false ∧ Below w.heap.size w wx)
            case first =>
              refine wp_region_held_drew (S := fun w' => w'.cell? ⟨g, 0, none⟩ = some (.string (mkB y.1)) ∧ w'.cell? ⟨g, 1, none⟩ = some (.string (mkB y.2)) ∧ w'.cell? ⟨b, off + (k - 1) * 2, none⟩ = some (.string (mkB x.1)) ∧ w'.cell? ⟨b, off + (k - 1) * 2 + 1, none⟩ = some (.string (mkB x.2)) ∧ Below w.heap.size w w') (by kernel_rfl) (by exact ⟨cell_drew d0, cell_drew d1, cell_drew p0, cell_drew p1, below_step B.out (below_q ⟨1, rfl⟩)⟩) (fun hS => ?_)
              refine wpAnyH_take (i := 0) (v := ?_) rfl (by kernel_rfl) (by kernel_rfl) (by kernel_rfl) (fun _ _ _ h => h) (Or.inl ⟨by kernel_rfl, ?_⟩) hS ?_
              rotate_left
              · intro w hSw; (try dsimp only at hSw); go_simp; try (with_reducible rfl)
              simp only [Act.put, List.getElem_toArray, List.getElem_cons_zero, List.setIfInBounds_toArray, List.set_cons_zero, List.set_cons_succ]
              refine wpAnyH_ready (rs := [1]) (by kernel_rfl) (by simp) (AllReadyH.cons rfl (fun K hK => ?_) AllReadyH.nil)
              go_simp
              go_at_call 22; refine (nmay_any _ _ _ HSY.out.1 HSY.out.2).mono ?_; rintro e w1 ⟨rfl, hb1⟩; rw [HO.out]
              refine hK.out _ _ (by exact ⟨cell_keep hS.1 hb1, cell_keep hS.2.1 hb1, cell_keep hS.2.2.1 hb1, cell_keep hS.2.2.2.1 hb1, below_step hS.2.2.2.2 hb1⟩) (fun hS => ?_)
              clear hK K
              try simp only [Act.put, List.getElem_toArray, List.getElem_cons_succ, List.getElem_cons_zero, List.setIfInBounds_toArray, List.set_cons_zero, List.set_cons_succ]
              refine wpAnyH_take (i := 2) (v := ?_) rfl (by kernel_rfl) (by kernel_rfl) (by kernel_rfl) (fun _ _ _ h => h) (Or.inl ⟨by kernel_rfl, ?_⟩) hS ?_
              rotate_left
              · intro w hSw; (try dsimp only at hSw); go_simp; try (with_reducible rfl)
              simp only [Act.put, List.getElem_toArray, List.getElem_cons_succ, List.getElem_cons_zero, List.setIfInBounds_toArray, List.set_cons_zero, List.set_cons_succ]
              refine wpAnyH_take (i := 3) (v := ?_) rfl (by kernel_rfl) (by kernel_rfl) (by kernel_rfl) (fun _ _ _ h => h) (Or.inl ⟨by kernel_rfl, ?_⟩) hS ?_
              rotate_left
              · intro w hSw; (try dsimp only at hSw); go_simp; try (with_reducible rfl)
              simp only [Act.put, List.getElem_toArray, List.getElem_cons_succ, List.getElem_cons_zero, List.setIfInBounds_toArray, List.set_cons_zero, List.set_cons_succ]
              refine wpAnyH_take (i := 4) (v := ?_) rfl (by kernel_rfl) (by kernel_rfl) (by kernel_rfl) (fun _ _ _ h => h) (Or.inl ⟨by kernel_rfl, ?_⟩) hS ?_
              rotate_left
              · intro w hSw; (try dsimp only at hSw); go_simp; try (with_reducible rfl)
              simp only [Act.put, List.getElem_toArray, List.getElem_cons_succ, List.getElem_cons_zero, List.setIfInBounds_toArray, List.set_cons_zero, List.set_cons_succ]
              refine wpAnyH_take (i := 5) (v := ?_) rfl (by kernel_rfl) (by kernel_rfl) (by kernel_rfl) (fun _ _ _ h => h) (Or.inl ⟨by kernel_rfl, ?_⟩) hS ?_
              rotate_left
              · intro w hSw; (try dsimp only at hSw); go_simp; try (with_reducible rfl)
              simp only [Act.put, List.getElem_toArray, List.getElem_cons_succ, List.getElem_cons_zero, List.setIfInBounds_toArray, List.set_cons_zero, List.set_cons_succ]
              refine wpAnyH_take (i := 6) (v := ?_) rfl (by kernel_rfl) (by kernel_rfl) (by kernel_rfl) (fun _ _ _ h => h) (Or.inl ⟨by kernel_rfl, ?_⟩) hS ?_
              rotate_left
              · intro w hSw; (try dsimp only at hSw); go_simp; try (with_reducible rfl)
              simp only [Act.put, List.getElem_toArray, List.getElem_cons_succ, List.getElem_cons_zero, List.setIfInBounds_toArray, List.set_cons_zero, List.set_cons_succ]
              refine wpAnyH_take (i := 7) (v := ?_) rfl (by kernel_rfl) (by kernel_rfl) (by kernel_rfl) (fun _ _ _ h => h) (Or.inl ⟨by kernel_rfl, ?_⟩) hS ?_
              rotate_left
              · intro w hSw; (try dsimp only at hSw); go_simp; try (with_reducible rfl)
              simp only [Act.put, List.getElem_toArray, List.getElem_cons_succ, List.getElem_cons_zero, List.setIfInBounds_toArray, List.set_cons_zero, List.set_cons_succ]
              refine wpAnyH_take (i := 8) (v := ?_) rfl (by kernel_rfl) (by kernel_rfl) (by kernel_rfl) (fun _ _ _ h => h) (Or.inl ⟨by kernel_rfl, ?_⟩) hS ?_
              rotate_left
              · intro w hSw; (try dsimp only at hSw); go_simp; try (with_reducible rfl)
              simp only [Act.put, List.getElem_toArray, List.getElem_cons_succ, List.getElem_cons_zero, List.setIfInBounds_toArray, List.set_cons_zero, List.set_cons_succ]
              refine wpAnyH_take (i := 9) (v := ?_) rfl (by kernel_rfl) (by kernel_rfl) (by kernel_rfl) (fun _ _ _ h => h) (Or.inl ⟨by kernel_rfl, ?_⟩) hS ?_
              rotate_left
              · intro w hSw; (try dsimp only at hSw); go_simp; try (with_reducible rfl)
              simp only [Act.put, List.getElem_toArray, List.getElem_cons_succ, List.getElem_cons_zero, List.setIfInBounds_toArray, List.set_cons_zero, List.set_cons_succ]
              refine wpAnyH_take (i := 10) (v := ?_) rfl (by kernel_rfl) (by kernel_rfl) (by kernel_rfl) (fun _ _ _ h => h) (Or.inl ⟨by kernel_rfl, ?_⟩) hS ?_
              rotate_left
              · intro w hSw; (try dsimp only at hSw); go_simp; try (with_reducible rfl)
              simp only [Act.put, List.getElem_toArray, List.getElem_cons_succ, List.getElem_cons_zero, List.setIfInBounds_toArray, List.set_cons_zero, List.set_cons_succ]
              refine wpAnyH_take (i := 11) (v := ?_) rfl (by kernel_rfl) (by kernel_rfl) (by kernel_rfl) (fun _ _ _ h => h) (Or.inl ⟨by kernel_rfl, ?_⟩) hS ?_
              rotate_left
              · intro w hSw; (try dsimp only at hSw); go_simp; try (with_reducible rfl)
              simp only [Act.put, List.getElem_toArray, List.getElem_cons_succ, List.getElem_cons_zero, List.setIfInBounds_toArray, List.set_cons_zero, List.set_cons_succ]
              refine wpAnyH_take (i := 12) (v := ?_) rfl (by kernel_rfl) (by kernel_rfl) (by kernel_rfl) (fun _ _ _ h => h) (Or.inl ⟨by kernel_rfl, ?_⟩) hS ?_
              rotate_left
              · intro w hSw; (try dsimp only at hSw); go_simp; try (with_reducible rfl)
              simp only [Act.put, List.getElem_toArray, List.getElem_cons_succ, List.getElem_cons_zero, List.setIfInBounds_toArray, List.set_cons_zero, List.set_cons_succ]
              refine wpAnyH_ready (rs := [13]) (by kernel_rfl) (by simp) (AllReadyH.cons rfl (fun K hK => ?_) AllReadyH.nil)
              go_simp
              go_at_call 34; refine (norder_any _ _ _ _ _ HSX.out.2 HSY.out.2 HOXX.out HO.out).mono ?_; rintro e w1 ⟨rfl, hb1⟩; rw [HR.out]
              refine hK.out _ _ (by exact ⟨cell_keep hS.1 hb1, cell_keep hS.2.1 hb1, cell_keep hS.2.2.1 hb1, cell_keep hS.2.2.2.1 hb1, below_step hS.2.2.2.2 hb1⟩) (fun hS => ?_)
              clear hK K
              try simp only [Act.put, List.getElem_toArray, List.getElem_cons_succ, List.getElem_cons_zero, List.setIfInBounds_toArray, List.set_cons_zero, List.set_cons_succ]
              refine wpAnyH_take (i := 14) (v := ?_) rfl (by kernel_rfl) (by kernel_rfl) (by kernel_rfl) (fun _ _ _ h => h) (Or.inl ⟨by kernel_rfl, ?_⟩) hS ?_
              rotate_left
              · intro w hSw; (try dsimp only at hSw); go_simp; try (with_reducible rfl)
              simp only [Act.put, List.getElem_toArray, List.getElem_cons_succ, List.getElem_cons_zero, List.setIfInBounds_toArray, List.set_cons_zero, List.set_cons_succ]
              refine wpAnyH_take (i := 15) (v := ?_) rfl (by kernel_rfl) (by kernel_rfl) (by kernel_rfl) (fun _ _ _ h => h) (Or.inl ⟨by kernel_rfl, ?_⟩) hS ?_
              rotate_left
              · intro w hSw; (try dsimp only at hSw); go_simp; try (with_reducible rfl)
              simp only [Act.put, List.getElem_toArray, List.getElem_cons_succ, List.getElem_cons_zero, List.setIfInBounds_toArray, List.set_cons_zero, List.set_cons_succ]
              refine wpAnyH_take (i := 16) (v := ?_) rfl (by kernel_rfl) (by kernel_rfl) (by kernel_rfl) (fun _ _ _ h => h) (Or.inl ⟨by kernel_rfl, ?_⟩) hS ?_
              rotate_left
              · intro w hSw; (try dsimp only at hSw); go_simp; try (with_reducible rfl)
              simp only [Act.put, List.getElem_toArray, List.getElem_cons_succ, List.getElem_cons_zero, List.setIfInBounds_toArray, List.set_cons_zero, List.set_cons_succ]
              refine wpAnyH_done (by kernel_rfl) ?_ _
              go_wp2_with fail
              go_meet
              exact ⟨rfl, hS.2.2.2.2⟩
            case rest =>
              obtain ⟨rfl, hbw⟩ := hcut
              have HBW := Lib.hid hbw; clear hbw
              have HNEW : Hid (∀ j, j < k + 1 → stepN ns j = true) := Lib.hid fun j hj => by
                rcases Nat.lt_or_ge j k with h | h
                · exact HM.out j h
                · obtain rfl : j = k := by omega
                  exact hyes.out
              go_wp2
              go_roundw
              case rel => exact ⟨k + 1, by omega, by go_num, HNEW, HBW⟩
              case measure => simp [intOf]; omega
          · have HR := Lib.hid hr; clear hr
            have hno : Hid (checkN ns = false) := Lib.hid (checkN_no HKL.out (by rw [HSTEP.out, HO.out, ltN_no.2 (by rw [HR.out]; decide), decide_eq_false h0]; rfl))
            go_cut [28] from 12 to 28 (fun s28 wx => s28 = .bool true ∧ Below w.heap.size w wx)
            case first =>
              refine wp_region_held_drew (S := fun w' => w'.cell? ⟨g, 0, none⟩ = some (.string (mkB y.1)) ∧ w'.cell? ⟨g, 1, none⟩ = some (.string (mkB y.2)) ∧ w'.cell? ⟨b, off + (k - 1) * 2, none⟩ = some (.string (mkB x.1)) ∧ w'.cell? ⟨b, off + (k - 1) * 2 + 1, none⟩ = some (.string (mkB x.2)) ∧ Below w.heap.size w w') (by kernel_rfl) (by exact ⟨cell_drew d0, cell_drew d1, cell_drew p0, cell_drew p1, below_step B.out (below_q ⟨1, rfl⟩)⟩) (fun hS => ?_)
              refine wpAnyH_take (i := 0) (v := ?_) rfl (by kernel_rfl) (by kernel_rfl) (by kernel_rfl) (fun _ _ _ h => h) (Or.inl ⟨by kernel_rfl, ?_⟩) hS ?_
              rotate_left
              · intro w hSw; (try dsimp only at hSw); go_simp; try (with_reducible rfl)
              simp only [Act.put, List.getElem_toArray, List.getElem_cons_zero, List.setIfInBounds_toArray, List.set_cons_zero, List.set_cons_succ]
              refine wpAnyH_ready (rs := [1]) (by kernel_rfl) (by simp) (AllReadyH.cons rfl (fun K hK => ?_) AllReadyH.nil)
              go_simp
              go_at_call 22; refine (nmay_any _ _ _ HSY.out.1 HSY.out.2).mono ?_; rintro e w1 ⟨rfl, hb1⟩; rw [HO.out]
              refine hK.out _ _ (by exact ⟨cell_keep hS.1 hb1, cell_keep hS.2.1 hb1, cell_keep hS.2.2.1 hb1, cell_keep hS.2.2.2.1 hb1, below_step hS.2.2.2.2 hb1⟩) (fun hS => ?_)
              clear hK K
              try simp only [Act.put, List.getElem_toArray, List.getElem_cons_succ, List.getElem_cons_zero, List.setIfInBounds_toArray, List.set_cons_zero, List.set_cons_succ]
              refine wpAnyH_take (i := 2) (v := ?_) rfl (by kernel_rfl) (by kernel_rfl) (by kernel_rfl) (fun _ _ _ h => h) (Or.inl ⟨by kernel_rfl, ?_⟩) hS ?_
              rotate_left
              · intro w hSw; (try dsimp only at hSw); go_simp; try (with_reducible rfl)
              simp only [Act.put, List.getElem_toArray, List.getElem_cons_succ, List.getElem_cons_zero, List.setIfInBounds_toArray, List.set_cons_zero, List.set_cons_succ]
              refine wpAnyH_take (i := 3) (v := ?_) rfl (by kernel_rfl) (by kernel_rfl) (by kernel_rfl) (fun _ _ _ h => h) (Or.inl ⟨by kernel_rfl, ?_⟩) hS ?_
              rotate_left
              · intro w hSw; (try dsimp only at hSw); go_simp; try (with_reducible rfl)
              simp only [Act.put, List.getElem_toArray, List.getElem_cons_succ, List.getElem_cons_zero, List.setIfInBounds_toArray, List.set_cons_zero, List.set_cons_succ]
              refine wpAnyH_take (i := 4) (v := ?_) rfl (by kernel_rfl) (by kernel_rfl) (by kernel_rfl) (fun _ _ _ h => h) (Or.inl ⟨by kernel_rfl, ?_⟩) hS ?_
              rotate_left
              · intro w hSw; (try dsimp only at hSw); go_simp; try (with_reducible rfl)
              simp only [Act.put, List.getElem_toArray, List.getElem_cons_succ, List.getElem_cons_zero, List.setIfInBounds_toArray, List.set_cons_zero, List.set_cons_succ]
              refine wpAnyH_take (i := 5) (v := ?_) rfl (by kernel_rfl) (by kernel_rfl) (by kernel_rfl) (fun _ _ _ h => h) (Or.inl ⟨by kernel_rfl, ?_⟩) hS ?_
              rotate_left
              · intro w hSw; (try dsimp only at hSw); go_simp; try (with_reducible rfl)
              simp only [Act.put, List.getElem_toArray, List.getElem_cons_succ, List.getElem_cons_zero, List.setIfInBounds_toArray, List.set_cons_zero, List.set_cons_succ]
              refine wpAnyH_take (i := 6) (v := ?_) rfl (by kernel_rfl) (by kernel_rfl) (by kernel_rfl) (fun _ _ _ h => h) (Or.inl ⟨by kernel_rfl, ?_⟩) hS ?_
              rotate_left
              · intro w hSw; (try dsimp only at hSw); go_simp; try (with_reducible rfl)
              simp only [Act.put, List.getElem_toArray, List.getElem_cons_succ, List.getElem_cons_zero, List.setIfInBounds_toArray, List.set_cons_zero, List.set_cons_succ]
              refine wpAnyH_take (i := 7) (v := ?_) rfl (by kernel_rfl) (by kernel_rfl) (by kernel_rfl) (fun _ _ _ h => h) (Or.inl ⟨by kernel_rfl, ?_⟩) hS ?_
              rotate_left
              · intro w hSw; (try dsimp only at hSw); go_simp; try (with_reducible rfl)
              simp only [Act.put, List.getElem_toArray, List.getElem_cons_succ, List.getElem_cons_zero, List.setIfInBounds_toArray, List.set_cons_zero, List.set_cons_succ]
              refine wpAnyH_take (i := 8) (v := ?_) rfl (by kernel_rfl) (by kernel_rfl) (by kernel_rfl) (fun _ _ _ h => h) (Or.inl ⟨by kernel_rfl, ?_⟩) hS ?_
              rotate_left
              · intro w hSw; (try dsimp only at hSw); go_simp; try (with_reducible rfl)
              simp only [Act.put, List.getElem_toArray, List.getElem_cons_succ, List.getElem_cons_zero, List.setIfInBounds_toArray, List.set_cons_zero, List.set_cons_succ]
              refine wpAnyH_take (i := 9) (v := ?_) rfl (by kernel_rfl) (by kernel_rfl) (by kernel_rfl) (fun _ _ _ h => h) (Or.inl ⟨by kernel_rfl, ?_⟩) hS ?_
              rotate_left
              · intro w hSw; (try dsimp only at hSw); go_simp; try (with_reducible rfl)
              simp only [Act.put, List.getElem_toArray, List.getElem_cons_succ, List.getElem_cons_zero, List.setIfInBounds_toArray, List.set_cons_zero, List.set_cons_succ]
              refine wpAnyH_take (i := 10) (v := ?_) rfl (by kernel_rfl) (by kernel_rfl) (by kernel_rfl) (fun _ _ _ h => h) (Or.inl ⟨by kernel_rfl, ?_⟩) hS ?_
              rotate_left
              · intro w hSw; (try dsimp only at hSw); go_simp; try (with_reducible rfl)
              simp only [Act.put, List.getElem_toArray, List.getElem_cons_succ, List.getElem_cons_zero, List.setIfInBounds_toArray, List.set_cons_zero, List.set_cons_succ]
              refine wpAnyH_take (i := 11) (v := ?_) rfl (by kernel_rfl) (by kernel_rfl) (by kernel_rfl) (fun _ _ _ h => h) (Or.inl ⟨by kernel_rfl, ?_⟩) hS ?_
              rotate_left
              · intro w hSw; (try dsimp only at hSw); go_simp; try (with_reducible rfl)
              simp only [Act.put, List.getElem_toArray, List.getElem_cons_succ, List.getElem_cons_zero, List.setIfInBounds_toArray, List.set_cons_zero, List.set_cons_succ]
              refine wpAnyH_take (i := 12) (v := ?_) rfl (by kernel_rfl) (by kernel_rfl) (by kernel_rfl) (fun _ _ _ h => h) (Or.inl ⟨by kernel_rfl, ?_⟩) hS ?_
              rotate_left
              · intro w hSw; (try dsimp only at hSw); go_simp; try (with_reducible rfl)
              simp only [Act.put, List.getElem_toArray, List.getElem_cons_succ, List.getElem_cons_zero, List.setIfInBounds_toArray, List.set_cons_zero, List.set_cons_succ]
              refine wpAnyH_ready (rs := [13]) (by kernel_rfl) (by simp) (AllReadyH.cons rfl (fun K hK => ?_) AllReadyH.nil)
              go_simp
              go_at_call 34; refine (norder_any _ _ _ _ _ HSX.out.2 HSY.out.2 HOXX.out HO.out).mono ?_; rintro e w1 ⟨rfl, hb1⟩; rw [HR.out]
              refine hK.out _ _ (by exact ⟨cell_keep hS.1 hb1, cell_keep hS.2.1 hb1, cell_keep hS.2.2.1 hb1, cell_keep hS.2.2.2.1 hb1, below_step hS.2.2.2.2 hb1⟩) (fun hS => ?_)
              clear hK K
              try simp only [Act.put, List.getElem_toArray, List.getElem_cons_succ, List.getElem_cons_zero, List.setIfInBounds_toArray, List.set_cons_zero, List.set_cons_succ]
              refine wpAnyH_take (i := 14) (v := ?_) rfl (by kernel_rfl) (by kernel_rfl) (by kernel_rfl) (fun _ _ _ h => h) (Or.inl ⟨by kernel_rfl, ?_⟩) hS ?_
              rotate_left
              · intro w hSw; (try dsimp only at hSw); go_simp; try (with_reducible rfl)
              simp only [Act.put, List.getElem_toArray, List.getElem_cons_succ, List.getElem_cons_zero, List.setIfInBounds_toArray, List.set_cons_zero, List.set_cons_succ]
              refine wpAnyH_take (i := 15) (v := ?_) rfl (by kernel_rfl) (by kernel_rfl) (by kernel_rfl) (fun _ _ _ h => h) (Or.inl ⟨by kernel_rfl, ?_⟩) hS ?_
              rotate_left
              · intro w hSw; (try dsimp only at hSw); go_simp; try (with_reducible rfl)
              simp only [Act.put, List.getElem_toArray, List.getElem_cons_succ, List.getElem_cons_zero, List.setIfInBounds_toArray, List.set_cons_zero, List.set_cons_succ]
              refine wpAnyH_take (i := 16) (v := ?_) rfl (by kernel_rfl) (by kernel_rfl) (by kernel_rfl) (fun _ _ _ h => h) (Or.inl ⟨by kernel_rfl, ?_⟩) hS ?_
              rotate_left
              · intro w hSw; (try dsimp only at hSw); go_simp; try (with_reducible rfl)
              simp only [Act.put, List.getElem_toArray, List.getElem_cons_succ, List.getElem_cons_zero, List.setIfInBounds_toArray, List.set_cons_zero, List.set_cons_succ]
              refine wpAnyH_done (by kernel_rfl) ?_ _
              go_wp2_with fail
              go_meet
              exact ⟨rfl, hS.2.2.2.2⟩
            case rest =>
              obtain ⟨rfl, hbw⟩ := hcut
              go_wp2
              go_ret
              exact ⟨by rw [← HT.out, if_neg (by rw [hno.out]; simp)]; rfl, hbw⟩
          · have HR := Lib.hid hr; clear hr
            have hno : Hid (checkN ns = false) := Lib.hid (checkN_no HKL.out (by rw [HSTEP.out, HO.out, ltN_no.2 (by rw [HR.out]; decide), decide_eq_false h0]; rfl))
            go_cut [28] from 12 to 28 (fun s28 wx => s28 = .bool true ∧ Below w.heap.size w wx)
            case first =>
              refine wp_region_held_drew (S := fun w' => w'.cell? ⟨g, 0, none⟩ = some (.string (mkB y.1)) ∧ w'.cell? ⟨g, 1, none⟩ = some (.string (mkB y.2)) ∧ w'.cell? ⟨b, off + (k - 1) * 2, none⟩ = some (.string (mkB x.1)) ∧ w'.cell? ⟨b, off + (k - 1) * 2 + 1, none⟩ = some (.string (mkB x.2)) ∧ Below w.heap.size w w') (by kernel_rfl) (by exact ⟨cell_drew d0, cell_drew d1, cell_drew p0, cell_drew p1, below_step B.out (below_q ⟨1, rfl⟩)⟩) (fun hS => ?_)
              refine wpAnyH_take (i := 0) (v := ?_) rfl (by kernel_rfl) (by kernel_rfl) (by kernel_rfl) (fun _ _ _ h => h) (Or.inl ⟨by kernel_rfl, ?_⟩) hS ?_
              rotate_left
              · intro w hSw; (try dsimp only at hSw); go_simp; try (with_reducible rfl)
              simp only [Act.put, List.getElem_toArray, List.getElem_cons_zero, List.setIfInBounds_toArray, List.set_cons_zero, List.set_cons_succ]
              refine wpAnyH_ready (rs := [1]) (by kernel_rfl) (by simp) (AllReadyH.cons rfl (fun K hK => ?_) AllReadyH.nil)
              go_simp
              go_at_call 22; refine (nmay_any _ _ _ HSY.out.1 HSY.out.2).mono ?_; rintro e w1 ⟨rfl, hb1⟩; rw [HO.out]
              refine hK.out _ _ (by exact ⟨cell_keep hS.1 hb1, cell_keep hS.2.1 hb1, cell_keep hS.2.2.1 hb1, cell_keep hS.2.2.2.1 hb1, below_step hS.2.2.2.2 hb1⟩) (fun hS => ?_)
              clear hK K
              try simp only [Act.put, List.getElem_toArray, List.getElem_cons_succ, List.getElem_cons_zero, List.setIfInBounds_toArray, List.set_cons_zero, List.set_cons_succ]
              refine wpAnyH_take (i := 2) (v := ?_) rfl (by kernel_rfl) (by kernel_rfl) (by kernel_rfl) (fun _ _ _ h => h) (Or.inl ⟨by kernel_rfl, ?_⟩) hS ?_
              rotate_left
              · intro w hSw; (try dsimp only at hSw); go_simp; try (with_reducible rfl)
              simp only [Act.put, List.getElem_toArray, List.getElem_cons_succ, List.getElem_cons_zero, List.setIfInBounds_toArray, List.set_cons_zero, List.set_cons_succ]
              refine wpAnyH_take (i := 3) (v := ?_) rfl (by kernel_rfl) (by kernel_rfl) (by kernel_rfl) (fun _ _ _ h => h) (Or.inl ⟨by kernel_rfl, ?_⟩) hS ?_
              rotate_left
              · intro w hSw; (try dsimp only at hSw); go_simp; try (with_reducible rfl)
              simp only [Act.put, List.getElem_toArray, List.getElem_cons_succ, List.getElem_cons_zero, List.setIfInBounds_toArray, List.set_cons_zero, List.set_cons_succ]
              refine wpAnyH_take (i := 4) (v := ?_) rfl (by kernel_rfl) (by kernel_rfl) (by kernel_rfl) (fun _ _ _ h => h) (Or.inl ⟨by kernel_rfl, ?_⟩) hS ?_
              rotate_left
              · intro w hSw; (try dsimp only at hSw); go_simp; try (with_reducible rfl)
              simp only [Act.put, List.getElem_toArray, List.getElem_cons_succ, List.getElem_cons_zero, List.setIfInBounds_toArray, List.set_cons_zero, List.set_cons_succ]
              refine wpAnyH_take (i := 5) (v := ?_) rfl (by kernel_rfl) (by kernel_rfl) (by kernel_rfl) (fun _ _ _ h => h) (Or.inl ⟨by kernel_rfl, ?_⟩) hS ?_
              rotate_left
              · intro w hSw; (try dsimp only at hSw); go_simp; try (with_reducible rfl)
              simp only [Act.put, List.getElem_toArray, List.getElem_cons_succ, List.getElem_cons_zero, List.setIfInBounds_toArray, List.set_cons_zero, List.set_cons_succ]
              refine wpAnyH_take (i := 6) (v := ?_) rfl (by kernel_rfl) (by kernel_rfl) (by kernel_rfl) (fun _ _ _ h => h) (Or.inl ⟨by kernel_rfl, ?_⟩) hS ?_
              rotate_left
              · intro w hSw; (try dsimp only at hSw); go_simp; try (with_reducible rfl)
              simp only [Act.put, List.getElem_toArray, List.getElem_cons_succ, List.getElem_cons_zero, List.setIfInBounds_toArray, List.set_cons_zero, List.set_cons_succ]
              refine wpAnyH_take (i := 7) (v := ?_) rfl (by kernel_rfl) (by kernel_rfl) (by kernel_rfl) (fun _ _ _ h => h) (Or.inl ⟨by kernel_rfl, ?_⟩) hS ?_
              rotate_left
              · intro w hSw; (try dsimp only at hSw); go_simp; try (with_reducible rfl)
              simp only [Act.put, List.getElem_toArray, List.getElem_cons_succ, List.getElem_cons_zero, List.setIfInBounds_toArray, List.set_cons_zero, List.set_cons_succ]
              refine wpAnyH_take (i := 8) (v := ?_) rfl (by kernel_rfl) (by kernel_rfl) (by kernel_rfl) (fun _ _ _ h => h) (Or.inl ⟨by kernel_rfl, ?_⟩) hS ?_
              rotate_left
              · intro w hSw; (try dsimp only at hSw); go_simp; try (with_reducible rfl)
              simp only [Act.put, List.getElem_toArray, List.getElem_cons_succ, List.getElem_cons_zero, List.setIfInBounds_toArray, List.set_cons_zero, List.set_cons_succ]
              refine wpAnyH_take (i := 9) (v := ?_) rfl (by kernel_rfl) (by kernel_rfl) (by kernel_rfl) (fun _ _ _ h => h) (Or.inl ⟨by kernel_rfl, ?_⟩) hS ?_
              rotate_left
              · intro w hSw; (try dsimp only at hSw); go_simp; try (with_reducible rfl)
              simp only [Act.put, List.getElem_toArray, List.getElem_cons_succ, List.getElem_cons_zero, List.setIfInBounds_toArray, List.set_cons_zero, List.set_cons_succ]
              refine wpAnyH_take (i := 10) (v := ?_) rfl (by kernel_rfl) (by kernel_rfl) (by kernel_rfl) (fun _ _ _ h => h) (Or.inl ⟨by kernel_rfl, ?_⟩) hS ?_
              rotate_left
              · intro w hSw; (try dsimp only at hSw); go_simp; try (with_reducible rfl)
              simp only [Act.put, List.getElem_toArray, List.getElem_cons_succ, List.getElem_cons_zero, List.setIfInBounds_toArray, List.set_cons_zero, List.set_cons_succ]
              refine wpAnyH_take (i := 11) (v := ?_) rfl (by kernel_rfl) (by kernel_rfl) (by kernel_rfl) (fun _ _ _ h => h) (Or.inl ⟨by kernel_rfl, ?_⟩) hS ?_
              rotate_left
              · intro w hSw; (try dsimp only at hSw); go_simp; try (with_reducible rfl)
              simp only [Act.put, List.getElem_toArray, List.getElem_cons_succ, List.getElem_cons_zero, List.setIfInBounds_toArray, List.set_cons_zero, List.set_cons_succ]
              refine wpAnyH_take (i := 12) (v := ?_) rfl (by kernel_rfl) (by kernel_rfl) (by kernel_rfl) (fun _ _ _ h => h) (Or.inl ⟨by kernel_rfl, ?_⟩) hS ?_
              rotate_left
              · intro w hSw; (try dsimp only at hSw); go_simp; try (with_reducible rfl)
              simp only [Act.put, List.getElem_toArray, List.getElem_cons_succ, List.getElem_cons_zero, List.setIfInBounds_toArray, List.set_cons_zero, List.set_cons_succ]
              refine wpAnyH_ready (rs := [13]) (by kernel_rfl) (by simp) (AllReadyH.cons rfl (fun K hK => ?_) AllReadyH.nil)
              go_simp
              go_at_call 34; refine (norder_any _ _ _ _ _ HSX.out.2 HSY.out.2 HOXX.out HO.out).mono ?_; rintro e w1 ⟨rfl, hb1⟩; rw [HR.out]
              refine hK.out _ _ (by exact ⟨cell_keep hS.1 hb1, cell_keep hS.2.1 hb1, cell_keep hS.2.2.1 hb1, cell_keep hS.2.2.2.1 hb1, below_step hS.2.2.2.2 hb1⟩) (fun hS => ?_)
              clear hK K
              try simp only [Act.put, List.getElem_toArray, List.getElem_cons_succ, List.getElem_cons_zero, List.setIfInBounds_toArray, List.set_cons_zero, List.set_cons_succ]
              refine wpAnyH_take (i := 14) (v := ?_) rfl (by kernel_rfl) (by kernel_rfl) (by kernel_rfl) (fun _ _ _ h => h) (Or.inl ⟨by kernel_rfl, ?_⟩) hS ?_
              rotate_left
              · intro w hSw; (try dsimp only at hSw); go_simp; try (with_reducible rfl)
              simp only [Act.put, List.getElem_toArray, List.getElem_cons_succ, List.getElem_cons_zero, List.setIfInBounds_toArray, List.set_cons_zero, List.set_cons_succ]
              refine wpAnyH_take (i := 15) (v := ?_) rfl (by kernel_rfl) (by kernel_rfl) (by kernel_rfl) (fun _ _ _ h => h) (Or.inl ⟨by kernel_rfl, ?_⟩) hS ?_
              rotate_left
              · intro w hSw; (try dsimp only at hSw); go_simp; try (with_reducible rfl)
              simp only [Act.put, List.getElem_toArray, List.getElem_cons_succ, List.getElem_cons_zero, List.setIfInBounds_toArray, List.set_cons_zero, List.set_cons_succ]
              refine wpAnyH_take (i := 16) (v := ?_) rfl (by kernel_rfl) (by kernel_rfl) (by kernel_rfl) (fun _ _ _ h => h) (Or.inl ⟨by kernel_rfl, ?_⟩) hS ?_
              rotate_left
              · intro w hSw; (try dsimp only at hSw); go_simp; try (with_reducible rfl)
              simp only [Act.put, List.getElem_toArray, List.getElem_cons_succ, List.getElem_cons_zero, List.setIfInBounds_toArray, List.set_cons_zero, List.set_cons_succ]
              refine wpAnyH_done (by kernel_rfl) ?_ _
              go_wp2_with fail
              go_meet
              exact ⟨rfl, hS.2.2.2.2⟩
            case rest =>
              obtain ⟨rfl, hbw⟩ := hcut
              go_wp2
              go_ret
              exact ⟨by rw [← HT.out, if_neg (by rw [hno.out]; simp)]; rfl, hbw⟩
    · go_wp2
      go_ret
      have e : k = n := by omega
      subst e
      have hc : checkN ns = true := checkN_yes fun j hj => HM.out j (by rw [← HN.out]; exact hj)
      exact ⟨by rw [← HT.out, if_pos hc]; rfl, HB.out⟩
end Go.Proofs.Ytjnkjjlpkgbkiaa

namespace Go.Proofs.Ytjnkjjlpkgbkiaa
open Go.RowKit Go.Maps
set_option maxRecDepth 100000

def chkE (ns : List Nd) : Int := if checkN ns = true then 0 else 1
theorem chkE_yes {ns : List Nd} (h : checkN ns = true) : chkE ns = 0 := by unfold chkE; rw [if_pos h]
theorem chkE_no {ns : List Nd} (h : checkN ns = false) : chkE ns = 1 := by unfold chkE; rw [if_neg (by simp [h])]
theorem ncheck_e (v : Value) (ns : List Nd) (w : World) (h : Nds w v ns) (hs : ∀ n ∈ ns, smallN n) :
    Calls Try.prog 27 #[v] w fun e w' => e = .returned (.int .i64 (chkE ns)) ∧ Below w.heap.size w w' := ncheck_any v ns w h hs
def minusNE (l m : List Nd) : List Nd × Int := if (checkN l && checkN m) = true then (minusN l m, 0) else ([], 1)
theorem minusNE_yes {l m : List Nd} (h : checkN l = true) (k : checkN m = true) : minusNE l m = (minusN l m, 0) := by unfold minusNE; rw [h, k]; rfl
theorem minusNE_no {l m : List Nd} (h : (checkN l && checkN m) = false) : minusNE l m = ([], 1) := by unfold minusNE; rw [h]; rfl
theorem fits_small {n : Nd} (h : smallN n) : fitsN n := by
  obtain ⟨h1, h2⟩ := h; unfold fitsN maxLen; omega

set_option maxHeartbeats 3200000 in
theorem nminus_any (U V : Value) (l m : List Nd) (w : World) (hU : Nds w U l) (hV : Nds w V m) (sl : ∀ n ∈ l, smallN n) (sm : ∀ n ∈ m, smallN n) (hl : l.length ≤ 1000000) (_hm : m.length ≤ 1000000) :
    Calls Try.prog 21 #[U, V] w fun e w' => ∃ a c, e = .returned (.tuple #[.slice a (minusNE l m).1.length c, .int .i64 (minusNE l m).2]) ∧ Nds w' (.slice a (minusNE l m).1.length c) (minusNE l m).1 ∧ Below w.heap.size w w' := by
  obtain ⟨a, c, rfl, h1, h2, -, -⟩ := hU.ex
  obtain ⟨a', c', rfl, h1', h2', -, -⟩ := hV.ex
  unfold maxLen at h2 h2'
  obtain ⟨n, hn⟩ : ∃ n, l.length = n := ⟨_, rfl⟩
  obtain ⟨n', hn'⟩ : ∃ n, m.length = n := ⟨_, rfl⟩
  rw [hn] at h1 hU hl ⊢
  rw [hn'] at h1' hV ⊢
  obtain ⟨R, hR⟩ : ∃ R, minusNE l m = R := ⟨_, rfl⟩
  rw [hR]
  obtain ⟨R1, R2⟩ := R
  simp only
  obtain ⟨x, hx⟩ : ∃ x, checkN l = x := ⟨_, rfl⟩
  obtain ⟨y, hy⟩ : ∃ y, checkN m = y := ⟨_, rfl⟩
  have SU := Lib.hid hU; have SV := Lib.hid hV; have HN := Lib.hid hn; have HN' := Lib.hid hn'; have SL := Lib.hid sl; have SM := Lib.hid sm
  clear hU hV hn hn' sl sm
  have B := Lib.hid (Below.refl w.heap.size w)
  cases x
  · have he := minusNE_no (l := l) (m := m) (by rw [hx]; rfl)
    rw [hR] at he
    obtain ⟨rfl, rfl⟩ := Prod.mk.inj he
    have HX := Lib.hid (chkE_no hx); clear hx hy he hR
    go_enter Try.func21, Try.ntmps21
    go_wp2_with (go_at_call 27; refine (ncheck_e _ l _ SU.out SL.out).mono ?_; rintro e w1 ⟨rfl, hb1⟩; rw [HX.out]; replace B := Lib.hid (below_step B.out hb1); clear hb1)
    go_ret2
    exact ⟨none, 0, rfl, nds_none _, B.out⟩
  · cases y
    · have he := minusNE_no (l := l) (m := m) (by rw [hx, hy]; rfl)
      rw [hR] at he
      obtain ⟨rfl, rfl⟩ := Prod.mk.inj he
      have HX := Lib.hid (chkE_yes hx); have HY := Lib.hid (chkE_no hy); clear hx hy he hR
      go_enter Try.func21, Try.ntmps21
      go_wp2_with (first
        | (go_at_call 27; refine (ncheck_e _ l _ (by first | exact SU.out) SL.out).mono ?_; rintro e w1 ⟨rfl, hb1⟩; rw [HX.out]; replace B := Lib.hid (below_step B.out hb1); replace SV := Lib.hid (SV.out.below hb1); clear hb1)
        | (go_at_call 27; refine (ncheck_e _ m _ (by first | exact SV.out) SM.out).mono ?_; rintro e w1 ⟨rfl, hb1⟩; rw [HY.out]; replace B := Lib.hid (below_step B.out hb1); clear hb1))
      go_ret2
      exact ⟨none, 0, rfl, nds_none _, B.out⟩
    · have he := minusNE_yes hx hy
      rw [hR] at he
      obtain ⟨rfl, rfl⟩ := Prod.mk.inj he
      have HX := Lib.hid (chkE_yes hx); have HY := Lib.hid (chkE_yes hy); clear hx hy he hR
      obtain ⟨L, hL⟩ : ∃ L, minusN l m = L := ⟨_, rfl⟩
      rw [hL]
      have HL := Lib.hid hL; clear hL
      go_enter Try.func21, Try.ntmps21
      go_upto_region 4 with (first
        | (go_at_call 27; refine (ncheck_e _ l _ (by first | exact SU.out) SL.out).mono ?_; rintro e w1 ⟨rfl, hb1⟩; rw [HX.out]; replace B := Lib.hid (below_step B.out hb1); replace SV := Lib.hid (SV.out.below hb1); replace SU := Lib.hid (SU.out.below hb1); clear hb1)
        | (go_at_call 27; refine (ncheck_e _ m _ (by first | exact SV.out) SM.out).mono ?_; rintro e w1 ⟨rfl, hb1⟩; rw [HY.out]; replace B := Lib.hid (below_step B.out hb1); replace SV := Lib.hid (SV.out.below hb1); replace SU := Lib.hid (SU.out.below hb1); clear hb1)
        | (go_at_call 28; refine (gather_any _ m _ SV.out (fun n hn => fits_small (SM.out n hn))).mono ?_; rintro e w1 ⟨g, rfl, hM, -, hb1⟩; have MP := Lib.hid hM; replace B := Lib.hid (below_step B.out hb1); replace SU := Lib.hid (SU.out.below hb1); clear hb1 hM))
      obtain ⟨W, rfl⟩ : ∃ W : World, W = w1 := ⟨_, rfl⟩
      go_wp2
      go_loopw [7, 24] (fun v i wr => ∃ (k : Nat) (acc : List Nd), k ≤ n ∧ i = .int .i64 k ∧ acc.length ≤ k ∧ Hid (acc = minusN (l.take k) m) ∧ wr.ownsRow W.heap.size 31 2 v acc.length (ndsC acc) ∧ Hid (Below W.heap.size W wr)) (fun _ i _ => n - (intOf i).toNat)
      case atStart => exact ⟨0, [], Nat.zero_le _, rfl, Nat.le_refl _, Lib.hid rfl, World.ownsRow_nil _ _ _ _, Lib.hid (Below.refl _ _)⟩
      case round =>
        obtain ⟨k, acc, hk, rfl, hal, HACC, hown, HB⟩ := hrel
        by_cases hlt : k < n
        · have hkl : k < l.length := by rw [HN.out]; exact hlt
          obtain ⟨b, off, rfl, -, hc0, hc1⟩ := (SU.out.below HB.out).at k hkl
          have htk := minusN_take_succ (l := l) (m := m) hkl
          obtain ⟨y, hy⟩ : ∃ y, y = l.getD k ([], []) := ⟨_, rfl⟩
          have hsy : smallN y := by rw [hy]; exact SL.out _ (nd_mem hkl)
          rw [← hy] at hc0 hc1 htk
          obtain ⟨hfm, D, hownM, hD⟩ := MP.out.below HB.out
          obtain ⟨o, ho⟩ : ∃ o, hasN m y = o := ⟨_, rfl⟩
          have hdo : has D (litN y) = o := by rw [has_hasN hfm hD y (fits_small hsy), ho]
          rw [ho] at htk
          have HTK := Lib.hid htk; have HFY := Lib.hid (fits_small hsy); have HDO := Lib.hid hdo
          clear hy hsy htk ho hdo hfm hD
          have hbs := HB.out.size
          cases o
          · go_upto_region 10 with (at_lookup; refine wpList_lookup_own_unit _ rfl _ _ 59 rfl 31 61 node_keyed Try.underlying59 (Try.zeroValue61 _) g _ D rfl (hownM.alloc _) _ (litN y) rfl (key_n y HFY.out.1 HFY.out.2) ?_; rw [HDO.out])
            have hqw := (hown.alloc (.cells #[.string (mkB y.1), .string (mkB y.2)] 31)).alloc (.cells #[] 61)
            obtain ⟨X, q, hX, hq, d0, d1, hxb⟩ : ∃ X q, (wr.alloc (.cells #[.string (mkB y.1), .string (mkB y.2)] 31)).alloc (.cells #[] 61) = X ∧ wr.heap.size = q ∧ X.cell? ⟨q, 0, none⟩ = some (.string (mkB y.1)) ∧ X.cell? ⟨q, 1, none⟩ = some (.string (mkB y.2)) ∧ Below W.heap.size W X :=
              ⟨_, _, rfl, rfl, cell_alloc (cell_new rfl rfl) _, cell_alloc (cell_new rfl rfl) _, (HB.out.alloc hbs _).alloc (by simp; omega) _⟩
            rw [hX] at hqw
            rw [hX, hq]
            have hxs := hxb.size
            clear hX hq hown hownM hbs hc0 hc1
            go_wp2_with (at_builtin; refine wpList_append_new rfl _ _ 22 rfl W.heap.size 31 (.agg #[.string ByteArray.empty, .string ByteArray.empty]) 2 32 Try.underlying22 Try.info_node rfl (by decide) _ _ _ rfl hqw [.string (mkB y.1), .string (mkB y.2)] rfl rfl rfl (by omega) (by unfold maxLen; omega) hxs ?_)
            intro v' w' hown' hb'
            have e2 : ndsC acc ++ [.string (mkB y.1), .string (mkB y.2)] = ndsC (acc ++ [y]) := (ndsC_snoc acc y).symm
            rw [e2] at hown'
            have ho2 : w'.ownsRow W.heap.size 31 2 v' (acc ++ [y]).length (ndsC (acc ++ [y])) := by simpa using hown'
            have HO := Lib.hid ho2; have HBN := Lib.hid (hxb.trans hb'.toBelow)
            have HAC : Hid (acc ++ [y] = minusN (l.take (k + 1)) m) := Lib.hid (by rw [HTK.out, HACC.out]; rfl)
            clear ho2 hown' hb' hqw hxb
            go_wp2
            go_roundw
            case rel => exact ⟨k + 1, acc ++ [y], by omega, by go_num, by simp; omega, HAC, HO.out, HBN⟩
            case measure => simp [intOf]; omega
          · have HAC : Hid (acc = minusN (l.take (k + 1)) m) := Lib.hid (by rw [HTK.out, HACC.out]; simp)
            go_wp2_with (at_lookup; refine wpList_lookup_own_unit _ rfl _ _ 59 rfl 31 61 node_keyed Try.underlying59 (Try.zeroValue61 _) g _ D rfl (hownM.alloc _) _ (litN y) rfl (key_n y HFY.out.1 HFY.out.2) ?_; rw [HDO.out])
            go_roundw
            case rel => exact ⟨k + 1, acc, by omega, by go_num, by omega, HAC, (hown.alloc _).alloc _, Lib.hid ((HB.out.alloc hbs _).alloc (by simp; omega) _)⟩
            case measure => simp [intOf]; omega
        · have e : k = n := by omega
          subst e
          have hac := HACC.out
          rw [List.take_of_length_le (by rw [HN.out]; exact Nat.le_refl _), HL.out] at hac
          subst hac
          go_wp2
          go_ret2
          obtain ⟨a2, c2, rfl, hnd⟩ := ndsO hown
          exact ⟨a2, c2, rfl, hnd, below_step B.out HB.out⟩

theorem nds_one (w : World) (p v : List UInt8) : Nds (w.alloc (.cells #[.string (mkB p), .string (mkB v)] 31)) (.slice (some ⟨w.heap.size, 0, none⟩) 1 1) [(p, v)] :=
  ⟨some ⟨w.heap.size, 0, none⟩, 1, rfl, Nat.le_refl _, by unfold maxLen; omega, (fun h => by cases h), fun _ => ⟨w.heap.size, 0, rfl, by simp, fun j hj => by
    obtain rfl : j = 0 := by simpa using hj
    exact ⟨cell_new rfl rfl, cell_new rfl rfl⟩⟩⟩
def hasNE (l : List Nd) (n : Nd) : Bool × Int := if (checkN l && okN n) = true then (hasN l n, 0) else (false, 1)
theorem hasNE_yes {l : List Nd} {n : Nd} (h : checkN l = true) (k : okN n = true) : hasNE l n = (hasN l n, 0) := by unfold hasNE; rw [h, k]; rfl
theorem hasNE_no {l : List Nd} {n : Nd} (h : (checkN l && okN n) = false) : hasNE l n = (false, 1) := by unfold hasNE; rw [h]; rfl
end Go.Proofs.Ytjnkjjlpkgbkiaa
