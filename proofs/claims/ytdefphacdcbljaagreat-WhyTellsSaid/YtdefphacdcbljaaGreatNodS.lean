/- THE TEXTS OF NodP NodQ NodS: The document's own: is a list a set, a set without another one's nodes, a set with a node, a list's set. The document's own: a set without another one's nodes. The document's own: a set with a node; the set of a list. -/
import Derived.Test.YtdefphacdcbljaaGreatNodN
import Derived.Deep.Draws
import Derived.Deep.QuietTactic
import Derived.BigQuiet
import Derived.Deep.RegionWith
import Derived.Deep.CutRange
import Derived.Deep.DeepCutAuto
import Derived.Deep.RegionHeld3
import Derived.Deep.DrawnRows
namespace Go.Proofs.YtdefphacdcbljaaGreat
open Go.RowKit
set_option maxRecDepth 100000
attribute [local go_sem ↓] Go.wp_at_zero Go.wp_at_succ

end Go.Proofs.YtdefphacdcbljaaGreat

namespace Go.Proofs.YtdefphacdcbljaaGreat
open Go.RowKit
set_option maxRecDepth 100000

end Go.Proofs.YtdefphacdcbljaaGreat

namespace Go.Proofs.YtdefphacdcbljaaGreat
open Go.RowKit
set_option maxRecDepth 100000
attribute [local go_sem ↓] Go.wp_at_zero Go.wp_at_succ

theorem filter_take_succ {l : List Nd} {k : Nat} {f : Nd → Bool} (h : k < l.length) : (l.take (k + 1)).filter f = (l.take k).filter f ++ (if f (l.getD k ([], [])) = true then [l.getD k ([], [])] else []) := by
  rw [List.take_succ_eq_append_getElem h, List.filter_append, nd_getD h]
  congr 1
  cases e : f l[k] <;> simp [e]

set_option maxHeartbeats 6400000 in
theorem refnwith_any (U : Value) (l : List Nd) (p v : List UInt8) (w : World) (hU : Nds w U l) (sl : ∀ n ∈ l, smallN n) (ol : ∀ n ∈ l, okN n = true) (hp : p.length ≤ 1000000000) (hv : v.length ≤ 1000000000) (on : okN (p, v) = true) (hl : l.length ≤ 1000000) :
    Calls Tryz.prog 34 #[U, .agg #[.string (mkB p), .string (mkB v)]] w fun e w' => ∃ a c, e = .returned (.slice a (withN l (p, v)).length c) ∧ Nds w' (.slice a (withN l (p, v)).length c) (withN l (p, v)) ∧ Below w.heap.size w w' := by
  obtain ⟨a, c, rfl, h1, h2, -, -⟩ := hU.ex
  unfold maxLen at h2
  obtain ⟨n, hn⟩ : ∃ n, l.length = n := ⟨_, rfl⟩
  rw [hn] at h1 hU hl ⊢
  obtain ⟨R, hR⟩ : ∃ R, withN l (p, v) = R := ⟨_, rfl⟩
  rw [hR]
  have SU := Lib.hid hU; have HN := Lib.hid hn; have HR := Lib.hid hR; have SL := Lib.hid sl; have OL := Lib.hid ol; have HP := Lib.hid hp; have HV := Lib.hid hv; have ON := Lib.hid on
  clear hU hn hR sl ol hp hv on
  obtain ⟨W, g, hW, hg, d0, d1, hb⟩ := boxB1 w (.string (mkB p)) (.string (mkB v)) 24
  have HW := Lib.hid hW; have HG := Lib.hid hg; have BW := Lib.hid hb; have D0 := Lib.hid d0; have D1 := Lib.hid d1
  clear hW hg hb d0 d1
  go_enter Tryz.func34, Tryz.ntmps34
  go_upto_region 1 with fail
  rw [HW.out, HG.out]
  go_wp2
  go_loopw [5, 6] (fun o i wr => ∃ (k : Nat) (acc : List Nd), k ≤ n ∧ i = .int .i64 k ∧ acc.length ≤ k ∧ Hid (acc = ((l.take k).filter fun x => ltN x (p, v))) ∧ wr.ownsRow W.heap.size 24 2 o acc.length (ndsC acc) ∧ Hid (Below W.heap.size W wr)) (fun _ i _ => n - (intOf i).toNat)
  case atStart => exact ⟨0, [], Nat.zero_le _, rfl, Nat.le_refl _, Lib.hid rfl, World.ownsRow_nil _ _ _ _, Lib.hid (Below.refl _ _)⟩
  case round =>
    obtain ⟨k, acc, hk, rfl, hal, HACC, hown, HB⟩ := hrel
    by_cases hlt : k < n
    · have hkl : k < l.length := by rw [HN.out]; exact hlt
      obtain ⟨b, off, rfl, -, hc0, hc1⟩ := (SU.out.below (below_step BW.out HB.out)).at k hkl
      have d0 := cell_keep D0.out HB.out
      have d1 := cell_keep D1.out HB.out
      have htk := filter_take_succ (f := fun x => ltN x (p, v)) hkl
      obtain ⟨y, hy⟩ : ∃ y, y = l.getD k ([], []) := ⟨_, rfl⟩
      have hsy : smallN y := by rw [hy]; exact SL.out _ (nd_mem hkl)
      have hoy : okN y = true := by rw [hy]; exact OL.out _ (nd_mem hkl)
      rw [← hy] at hc0 hc1 htk
      obtain ⟨y1, y2⟩ := y
      simp only at hc0 hc1
      obtain ⟨o, ho⟩ : ∃ o, ltN (y1, y2) (p, v) = o := ⟨_, rfl⟩
      rw [ho] at htk
      have hless := fun w => refless_any y1 y2 p v w hsy.1 hsy.2 HP.out HV.out hoy ON.out
      have ho' : ltN (y1, y2) (p, v) = o := ho
      rw [ho'] at hless
      have HTK := Lib.hid htk; have HOWN := Lib.hid hown
      have hkn : (k : Int) < (n : Int) := by omega
      clear hy hsy hoy htk ho ho' hown
      cases o
      · go_upto_region 5 with fail
        refine wp_region_held_drew (S := fun w' => w'.cell? ⟨b, off + k * 2, none⟩ = some (.string (mkB y1)) ∧ w'.cell? ⟨b, off + k * 2 + 1, none⟩ = some (.string (mkB y2)) ∧ w'.cell? ⟨g, 0, none⟩ = some (.string (mkB p)) ∧ w'.cell? ⟨g, 1, none⟩ = some (.string (mkB v)) ∧ Below wr.heap.size wr w') (by kernel_rfl) (by exact ⟨cell_drew hc0, cell_drew hc1, cell_drew d0, cell_drew d1, below_q ⟨1, rfl⟩⟩) (fun hS => ?_)
        refine wpAnyH_take (i := 0) (v := ?_) rfl (by kernel_rfl) (by kernel_rfl) (by kernel_rfl) (fun _ _ _ h => h) (Or.inl ⟨by kernel_rfl, ?_⟩) hS ?_
        rotate_left
        · intro w hSw; (try dsimp only at hSw); go_simp; try (with_reducible rfl)
        simp only [Act.put, List.getElem_toArray, List.getElem_cons_zero, List.setIfInBounds_toArray, List.set_cons_zero, List.set_cons_succ]
        refine wpAnyH_take (i := 1) (v := ?_) rfl (by kernel_rfl) (by kernel_rfl) (by kernel_rfl) (fun _ _ _ h => h) (Or.inl ⟨by kernel_rfl, ?_⟩) hS ?_
        rotate_left
        · intro w hSw; (try dsimp only at hSw); go_simp; try (with_reducible rfl)
        simp only [Act.put, List.getElem_toArray, List.getElem_cons_succ, List.getElem_cons_zero, List.setIfInBounds_toArray, List.set_cons_zero, List.set_cons_succ]
        refine wpAnyH_take (i := 2) (v := ?_) rfl (by kernel_rfl) (by kernel_rfl) (by kernel_rfl) (fun _ _ _ h => h) (Or.inl ⟨by kernel_rfl, ?_⟩) hS ?_
        rotate_left
        · intro w hSw; (try dsimp only at hSw); go_simp; try (with_reducible rfl)
        simp only [Act.put, List.getElem_toArray, List.getElem_cons_succ, List.getElem_cons_zero, List.setIfInBounds_toArray, List.set_cons_zero, List.set_cons_succ]
        refine wpAnyH_take (i := 3) (v := ?_) rfl (by kernel_rfl) (by kernel_rfl) (by kernel_rfl) (fun _ _ _ h => h) (Or.inl ⟨by kernel_rfl, ?_⟩) hS ?_
        rotate_left
        · intro w hSw; (try dsimp only at hSw); go_simp; try (with_reducible rfl)
        simp only [Act.put, List.getElem_toArray, List.getElem_cons_succ, List.getElem_cons_zero, List.setIfInBounds_toArray, List.set_cons_zero, List.set_cons_succ]
        refine wpAnyH_take (i := 4) (v := ?_) rfl (by kernel_rfl) (by kernel_rfl) (by kernel_rfl) (fun _ _ _ h => h) (Or.inl ⟨by kernel_rfl, ?_⟩) hS ?_
        rotate_left
        · intro w hSw; (try dsimp only at hSw); go_simp; try (with_reducible rfl)
        simp only [Act.put, List.getElem_toArray, List.getElem_cons_succ, List.getElem_cons_zero, List.setIfInBounds_toArray, List.set_cons_zero, List.set_cons_succ]
        refine wpAnyH_ready (rs := [5]) (by kernel_rfl) (by simp) (AllReadyH.cons rfl (fun K hK => ?_) AllReadyH.nil)
        go_simp
        go_at_call 18; refine (hless _).mono ?_; rintro e w1 ⟨rfl, hb1⟩; clear hless
        refine hK.out _ _ (by exact ⟨cell_keep hS.1 hb1, cell_keep hS.2.1 hb1, cell_keep hS.2.2.1 hb1, cell_keep hS.2.2.2.1 hb1, below_step hS.2.2.2.2 hb1⟩) (fun hS => ?_)
        clear hK K
        try simp only [Act.put, List.getElem_toArray, List.getElem_cons_succ, List.getElem_cons_zero, List.setIfInBounds_toArray, List.set_cons_zero, List.set_cons_succ]
        refine wpAnyH_done (by kernel_rfl) ?_ _
        obtain ⟨hc0, hc1, -, -, hbw⟩ := hS
        have HB1 := Lib.hid (HB.out.trans (hbw.mono HB.out.size)); have HOWN1 := Lib.hid (ownsRow_belowB HOWN.out hbw)
        clear hbw
        have HAC : Hid (acc = ((l.take (k + 1)).filter fun x => ltN x (p, v))) := Lib.hid (by rw [HTK.out, HACC.out]; simp)
        go_wp2
        go_roundw
        case rel => exact ⟨k + 1, acc, by omega, by go_num, by omega, HAC, HOWN1.out, HB1⟩
        case measure => simp [intOf]; omega
      · go_upto_region 5 with fail
        refine wp_region_held_drew (S := fun w' => w'.cell? ⟨b, off + k * 2, none⟩ = some (.string (mkB y1)) ∧ w'.cell? ⟨b, off + k * 2 + 1, none⟩ = some (.string (mkB y2)) ∧ w'.cell? ⟨g, 0, none⟩ = some (.string (mkB p)) ∧ w'.cell? ⟨g, 1, none⟩ = some (.string (mkB v)) ∧ Below wr.heap.size wr w') (by kernel_rfl) (by exact ⟨cell_drew hc0, cell_drew hc1, cell_drew d0, cell_drew d1, below_q ⟨1, rfl⟩⟩) (fun hS => ?_)
        refine wpAnyH_take (i := 0) (v := ?_) rfl (by kernel_rfl) (by kernel_rfl) (by kernel_rfl) (fun _ _ _ h => h) (Or.inl ⟨by kernel_rfl, ?_⟩) hS ?_
        rotate_left
        · intro w hSw; (try dsimp only at hSw); go_simp; try (with_reducible rfl)
        simp only [Act.put, List.getElem_toArray, List.getElem_cons_zero, List.setIfInBounds_toArray, List.set_cons_zero, List.set_cons_succ]
        refine wpAnyH_take (i := 1) (v := ?_) rfl (by kernel_rfl) (by kernel_rfl) (by kernel_rfl) (fun _ _ _ h => h) (Or.inl ⟨by kernel_rfl, ?_⟩) hS ?_
        rotate_left
        · intro w hSw; (try dsimp only at hSw); go_simp; try (with_reducible rfl)
        simp only [Act.put, List.getElem_toArray, List.getElem_cons_succ, List.getElem_cons_zero, List.setIfInBounds_toArray, List.set_cons_zero, List.set_cons_succ]
        refine wpAnyH_take (i := 2) (v := ?_) rfl (by kernel_rfl) (by kernel_rfl) (by kernel_rfl) (fun _ _ _ h => h) (Or.inl ⟨by kernel_rfl, ?_⟩) hS ?_
        rotate_left
        · intro w hSw; (try dsimp only at hSw); go_simp; try (with_reducible rfl)
        simp only [Act.put, List.getElem_toArray, List.getElem_cons_succ, List.getElem_cons_zero, List.setIfInBounds_toArray, List.set_cons_zero, List.set_cons_succ]
        refine wpAnyH_take (i := 3) (v := ?_) rfl (by kernel_rfl) (by kernel_rfl) (by kernel_rfl) (fun _ _ _ h => h) (Or.inl ⟨by kernel_rfl, ?_⟩) hS ?_
        rotate_left
        · intro w hSw; (try dsimp only at hSw); go_simp; try (with_reducible rfl)
        simp only [Act.put, List.getElem_toArray, List.getElem_cons_succ, List.getElem_cons_zero, List.setIfInBounds_toArray, List.set_cons_zero, List.set_cons_succ]
        refine wpAnyH_take (i := 4) (v := ?_) rfl (by kernel_rfl) (by kernel_rfl) (by kernel_rfl) (fun _ _ _ h => h) (Or.inl ⟨by kernel_rfl, ?_⟩) hS ?_
        rotate_left
        · intro w hSw; (try dsimp only at hSw); go_simp; try (with_reducible rfl)
        simp only [Act.put, List.getElem_toArray, List.getElem_cons_succ, List.getElem_cons_zero, List.setIfInBounds_toArray, List.set_cons_zero, List.set_cons_succ]
        refine wpAnyH_ready (rs := [5]) (by kernel_rfl) (by simp) (AllReadyH.cons rfl (fun K hK => ?_) AllReadyH.nil)
        go_simp
        go_at_call 18; refine (hless _).mono ?_; rintro e w1 ⟨rfl, hb1⟩; clear hless
        refine hK.out _ _ (by exact ⟨cell_keep hS.1 hb1, cell_keep hS.2.1 hb1, cell_keep hS.2.2.1 hb1, cell_keep hS.2.2.2.1 hb1, below_step hS.2.2.2.2 hb1⟩) (fun hS => ?_)
        clear hK K
        try simp only [Act.put, List.getElem_toArray, List.getElem_cons_succ, List.getElem_cons_zero, List.setIfInBounds_toArray, List.set_cons_zero, List.set_cons_succ]
        refine wpAnyH_done (by kernel_rfl) ?_ _
        obtain ⟨hc0, hc1, -, -, hbw⟩ := hS
        have HB1 := Lib.hid (HB.out.trans (hbw.mono HB.out.size)); have HOWN1 := Lib.hid (ownsRow_belowB HOWN.out hbw)
        clear hbw
        go_wp2_with (at_builtin; refine wpList_append_new rfl _ _ 31 rfl W.heap.size 24 (.agg #[.string ByteArray.empty, .string ByteArray.empty]) 2 32 Tryz.underlying31 Tryz.info_node rfl (by decide) _ _ _ rfl HOWN1.out [.string (mkB y1), .string (mkB y2)] rfl rfl rfl (by omega) (by unfold maxLen; omega) HB1.out.size ?_)
        intro v' w' hown' hb'
        have e2 : ndsC acc ++ [.string (mkB y1), .string (mkB y2)] = ndsC (acc ++ [(y1, y2)]) := (ndsC_snoc acc (y1, y2)).symm
        rw [e2] at hown'
        have ho2 : w'.ownsRow W.heap.size 24 2 v' (acc ++ [(y1, y2)]).length (ndsC (acc ++ [(y1, y2)])) := by simpa using hown'
        have HO2 := Lib.hid ho2; have HBN := Lib.hid (HB1.out.trans hb'.toBelow)
        have HAC : Hid (acc ++ [(y1, y2)] = ((l.take (k + 1)).filter fun x => ltN x (p, v))) := Lib.hid (by rw [HTK.out, HACC.out]; simp)
        clear ho2 hown' hb'
        go_wp2
        go_roundw
        case rel => exact ⟨k + 1, acc ++ [(y1, y2)], by omega, by go_num, by simp; omega, HAC, HO2.out, HBN⟩
        case measure => simp [intOf]; omega
    · have e : n = k := by omega
      subst e
      have hac := HACC.out
      rw [List.take_of_length_le (i := n) (by rw [HN.out]; exact Nat.le_refl _)] at hac
      have d0 := cell_keep D0.out HB.out
      have d1 := cell_keep D1.out HB.out
      have HOWN := Lib.hid hown; have HAC0 := Lib.hid hac
      clear hown hac HACC
      go_wp2_with (at_builtin; refine wpList_append_new rfl _ _ 31 rfl W.heap.size 24 (.agg #[.string ByteArray.empty, .string ByteArray.empty]) 2 32 Tryz.underlying31 Tryz.info_node rfl (by decide) _ _ _ rfl HOWN.out [.string (mkB p), .string (mkB v)] rfl rfl rfl (by omega) (by unfold maxLen; omega) HB.out.size ?_)
      intro v' w' hown' hb'
      have e2 : ndsC acc ++ [.string (mkB p), .string (mkB v)] = ndsC (acc ++ [(p, v)]) := (ndsC_snoc acc (p, v)).symm
      rw [e2] at hown'
      have ho2 : w'.ownsRow W.heap.size 24 2 v' (acc ++ [(p, v)]).length (ndsC (acc ++ [(p, v)])) := by simpa using hown'
      have HO0 := Lib.hid ho2; have HB0 := Lib.hid (HB.out.trans hb'.toBelow)
      obtain ⟨P, hP⟩ : ∃ P, acc ++ [(p, v)] = P := ⟨_, rfl⟩
      have hPl : P.length ≤ n + 1 := by rw [← hP]; simp; omega
      rw [hP] at HO0
      have HPRE : Hid (P = (l.filter fun x => ltN x (p, v)) ++ [(p, v)]) := Lib.hid (by rw [← hP, HAC0.out])
      clear ho2 hown' hb' hP HAC0 e2 d0 d1 HOWN HB hal
      go_wp2
      go_loopw [5, 7] (fun o i wr => ∃ (k : Nat) (acc : List Nd), k ≤ n ∧ i = .int .i64 k ∧ acc.length ≤ n + 1 + k ∧ Hid (acc = (l.filter fun x => ltN x (p, v)) ++ [(p, v)] ++ ((l.take k).filter fun x => ltN (p, v) x)) ∧ wr.ownsRow W.heap.size 24 2 o acc.length (ndsC acc) ∧ Hid (Below W.heap.size W wr)) (fun _ i _ => n - (intOf i).toNat)
      case atStart => exact ⟨0, _, Nat.zero_le _, rfl, by simp; omega, Lib.hid (by rw [HPRE.out]; simp), HO0.out, HB0⟩
      case round =>
        obtain ⟨k, acc, hk, rfl, hal, HACC, hown, HB⟩ := hrel
        by_cases hlt : k < n
        · have hkl : k < l.length := by rw [HN.out]; exact hlt
          obtain ⟨b, off, rfl, -, hc0, hc1⟩ := (SU.out.below (below_step BW.out HB.out)).at k hkl
          have d0 := cell_keep D0.out HB.out
          have d1 := cell_keep D1.out HB.out
          have htk := filter_take_succ (f := fun x => ltN (p, v) x) hkl
          obtain ⟨y, hy⟩ : ∃ y, y = l.getD k ([], []) := ⟨_, rfl⟩
          have hsy : smallN y := by rw [hy]; exact SL.out _ (nd_mem hkl)
          have hoy : okN y = true := by rw [hy]; exact OL.out _ (nd_mem hkl)
          rw [← hy] at hc0 hc1 htk
          obtain ⟨y1, y2⟩ := y
          simp only at hc0 hc1
          obtain ⟨o, ho⟩ : ∃ o, ltN (p, v) (y1, y2) = o := ⟨_, rfl⟩
          rw [ho] at htk
          have hless := fun w => refless_any p v y1 y2 w HP.out HV.out hsy.1 hsy.2 ON.out hoy
          have ho' : ltN (p, v) (y1, y2) = o := ho
          rw [ho'] at hless
          have HTK := Lib.hid htk; have HOWN := Lib.hid hown
          have hkn : (k : Int) < (n : Int) := by omega
          clear hy hsy hoy htk ho ho' hown
          cases o
          · go_upto_region 11 with fail
            refine wp_region_held_drew (S := fun w' => w'.cell? ⟨b, off + k * 2, none⟩ = some (.string (mkB y1)) ∧ w'.cell? ⟨b, off + k * 2 + 1, none⟩ = some (.string (mkB y2)) ∧ w'.cell? ⟨g, 0, none⟩ = some (.string (mkB p)) ∧ w'.cell? ⟨g, 1, none⟩ = some (.string (mkB v)) ∧ Below wr.heap.size wr w') (by kernel_rfl) (by exact ⟨cell_drew hc0, cell_drew hc1, cell_drew d0, cell_drew d1, below_q ⟨1, rfl⟩⟩) (fun hS => ?_)
            refine wpAnyH_take (i := 0) (v := ?_) rfl (by kernel_rfl) (by kernel_rfl) (by kernel_rfl) (fun _ _ _ h => h) (Or.inl ⟨by kernel_rfl, ?_⟩) hS ?_
            rotate_left
            · intro w hSw; (try dsimp only at hSw); go_simp; try (with_reducible rfl)
            simp only [Act.put, List.getElem_toArray, List.getElem_cons_zero, List.setIfInBounds_toArray, List.set_cons_zero, List.set_cons_succ]
            refine wpAnyH_take (i := 1) (v := ?_) rfl (by kernel_rfl) (by kernel_rfl) (by kernel_rfl) (fun _ _ _ h => h) (Or.inl ⟨by kernel_rfl, ?_⟩) hS ?_
            rotate_left
            · intro w hSw; (try dsimp only at hSw); go_simp; try (with_reducible rfl)
            simp only [Act.put, List.getElem_toArray, List.getElem_cons_succ, List.getElem_cons_zero, List.setIfInBounds_toArray, List.set_cons_zero, List.set_cons_succ]
            refine wpAnyH_take (i := 2) (v := ?_) rfl (by kernel_rfl) (by kernel_rfl) (by kernel_rfl) (fun _ _ _ h => h) (Or.inl ⟨by kernel_rfl, ?_⟩) hS ?_
            rotate_left
            · intro w hSw; (try dsimp only at hSw); go_simp; try (with_reducible rfl)
            simp only [Act.put, List.getElem_toArray, List.getElem_cons_succ, List.getElem_cons_zero, List.setIfInBounds_toArray, List.set_cons_zero, List.set_cons_succ]
            refine wpAnyH_take (i := 3) (v := ?_) rfl (by kernel_rfl) (by kernel_rfl) (by kernel_rfl) (fun _ _ _ h => h) (Or.inl ⟨by kernel_rfl, ?_⟩) hS ?_
            rotate_left
            · intro w hSw; (try dsimp only at hSw); go_simp; try (with_reducible rfl)
            simp only [Act.put, List.getElem_toArray, List.getElem_cons_succ, List.getElem_cons_zero, List.setIfInBounds_toArray, List.set_cons_zero, List.set_cons_succ]
            refine wpAnyH_take (i := 4) (v := ?_) rfl (by kernel_rfl) (by kernel_rfl) (by kernel_rfl) (fun _ _ _ h => h) (Or.inl ⟨by kernel_rfl, ?_⟩) hS ?_
            rotate_left
            · intro w hSw; (try dsimp only at hSw); go_simp; try (with_reducible rfl)
            simp only [Act.put, List.getElem_toArray, List.getElem_cons_succ, List.getElem_cons_zero, List.setIfInBounds_toArray, List.set_cons_zero, List.set_cons_succ]
            refine wpAnyH_ready (rs := [5]) (by kernel_rfl) (by simp) (AllReadyH.cons rfl (fun K hK => ?_) AllReadyH.nil)
            go_simp
            go_at_call 18; refine (hless _).mono ?_; rintro e w1 ⟨rfl, hb1⟩; clear hless
            refine hK.out _ _ (by exact ⟨cell_keep hS.1 hb1, cell_keep hS.2.1 hb1, cell_keep hS.2.2.1 hb1, cell_keep hS.2.2.2.1 hb1, below_step hS.2.2.2.2 hb1⟩) (fun hS => ?_)
            clear hK K
            try simp only [Act.put, List.getElem_toArray, List.getElem_cons_succ, List.getElem_cons_zero, List.setIfInBounds_toArray, List.set_cons_zero, List.set_cons_succ]
            refine wpAnyH_done (by kernel_rfl) ?_ _
            obtain ⟨hc0, hc1, -, -, hbw⟩ := hS
            have HB1 := Lib.hid (HB.out.trans (hbw.mono HB.out.size)); have HOWN1 := Lib.hid (ownsRow_belowB HOWN.out hbw)
            clear hbw
            have HAC : Hid (acc = (l.filter fun x => ltN x (p, v)) ++ [(p, v)] ++ ((l.take (k + 1)).filter fun x => ltN (p, v) x)) := Lib.hid (by rw [HTK.out, HACC.out]; simp)
            go_wp2
            go_roundw
            case rel => exact ⟨k + 1, acc, by omega, by go_num, by omega, HAC, HOWN1.out, HB1⟩
            case measure => simp [intOf]; omega
          · go_upto_region 11 with fail
            refine wp_region_held_drew (S := fun w' => w'.cell? ⟨b, off + k * 2, none⟩ = some (.string (mkB y1)) ∧ w'.cell? ⟨b, off + k * 2 + 1, none⟩ = some (.string (mkB y2)) ∧ w'.cell? ⟨g, 0, none⟩ = some (.string (mkB p)) ∧ w'.cell? ⟨g, 1, none⟩ = some (.string (mkB v)) ∧ Below wr.heap.size wr w') (by kernel_rfl) (by exact ⟨cell_drew hc0, cell_drew hc1, cell_drew d0, cell_drew d1, below_q ⟨1, rfl⟩⟩) (fun hS => ?_)
            refine wpAnyH_take (i := 0) (v := ?_) rfl (by kernel_rfl) (by kernel_rfl) (by kernel_rfl) (fun _ _ _ h => h) (Or.inl ⟨by kernel_rfl, ?_⟩) hS ?_
            rotate_left
            · intro w hSw; (try dsimp only at hSw); go_simp; try (with_reducible rfl)
            simp only [Act.put, List.getElem_toArray, List.getElem_cons_zero, List.setIfInBounds_toArray, List.set_cons_zero, List.set_cons_succ]
            refine wpAnyH_take (i := 1) (v := ?_) rfl (by kernel_rfl) (by kernel_rfl) (by kernel_rfl) (fun _ _ _ h => h) (Or.inl ⟨by kernel_rfl, ?_⟩) hS ?_
            rotate_left
            · intro w hSw; (try dsimp only at hSw); go_simp; try (with_reducible rfl)
            simp only [Act.put, List.getElem_toArray, List.getElem_cons_succ, List.getElem_cons_zero, List.setIfInBounds_toArray, List.set_cons_zero, List.set_cons_succ]
            refine wpAnyH_take (i := 2) (v := ?_) rfl (by kernel_rfl) (by kernel_rfl) (by kernel_rfl) (fun _ _ _ h => h) (Or.inl ⟨by kernel_rfl, ?_⟩) hS ?_
            rotate_left
            · intro w hSw; (try dsimp only at hSw); go_simp; try (with_reducible rfl)
            simp only [Act.put, List.getElem_toArray, List.getElem_cons_succ, List.getElem_cons_zero, List.setIfInBounds_toArray, List.set_cons_zero, List.set_cons_succ]
            refine wpAnyH_take (i := 3) (v := ?_) rfl (by kernel_rfl) (by kernel_rfl) (by kernel_rfl) (fun _ _ _ h => h) (Or.inl ⟨by kernel_rfl, ?_⟩) hS ?_
            rotate_left
            · intro w hSw; (try dsimp only at hSw); go_simp; try (with_reducible rfl)
            simp only [Act.put, List.getElem_toArray, List.getElem_cons_succ, List.getElem_cons_zero, List.setIfInBounds_toArray, List.set_cons_zero, List.set_cons_succ]
            refine wpAnyH_take (i := 4) (v := ?_) rfl (by kernel_rfl) (by kernel_rfl) (by kernel_rfl) (fun _ _ _ h => h) (Or.inl ⟨by kernel_rfl, ?_⟩) hS ?_
            rotate_left
            · intro w hSw; (try dsimp only at hSw); go_simp; try (with_reducible rfl)
            simp only [Act.put, List.getElem_toArray, List.getElem_cons_succ, List.getElem_cons_zero, List.setIfInBounds_toArray, List.set_cons_zero, List.set_cons_succ]
            refine wpAnyH_ready (rs := [5]) (by kernel_rfl) (by simp) (AllReadyH.cons rfl (fun K hK => ?_) AllReadyH.nil)
            go_simp
            go_at_call 18; refine (hless _).mono ?_; rintro e w1 ⟨rfl, hb1⟩; clear hless
            refine hK.out _ _ (by exact ⟨cell_keep hS.1 hb1, cell_keep hS.2.1 hb1, cell_keep hS.2.2.1 hb1, cell_keep hS.2.2.2.1 hb1, below_step hS.2.2.2.2 hb1⟩) (fun hS => ?_)
            clear hK K
            try simp only [Act.put, List.getElem_toArray, List.getElem_cons_succ, List.getElem_cons_zero, List.setIfInBounds_toArray, List.set_cons_zero, List.set_cons_succ]
            refine wpAnyH_done (by kernel_rfl) ?_ _
            obtain ⟨hc0, hc1, -, -, hbw⟩ := hS
            have HB1 := Lib.hid (HB.out.trans (hbw.mono HB.out.size)); have HOWN1 := Lib.hid (ownsRow_belowB HOWN.out hbw)
            clear hbw
            go_wp2_with (at_builtin; refine wpList_append_new rfl _ _ 31 rfl W.heap.size 24 (.agg #[.string ByteArray.empty, .string ByteArray.empty]) 2 32 Tryz.underlying31 Tryz.info_node rfl (by decide) _ _ _ rfl HOWN1.out [.string (mkB y1), .string (mkB y2)] rfl rfl rfl (by omega) (by unfold maxLen; omega) HB1.out.size ?_)
            intro v' w' hown' hb'
            have e2 : ndsC acc ++ [.string (mkB y1), .string (mkB y2)] = ndsC (acc ++ [(y1, y2)]) := (ndsC_snoc acc (y1, y2)).symm
            rw [e2] at hown'
            have ho2 : w'.ownsRow W.heap.size 24 2 v' (acc ++ [(y1, y2)]).length (ndsC (acc ++ [(y1, y2)])) := by simpa using hown'
            have HO2 := Lib.hid ho2; have HBN := Lib.hid (HB1.out.trans hb'.toBelow)
            have HAC : Hid (acc ++ [(y1, y2)] = (l.filter fun x => ltN x (p, v)) ++ [(p, v)] ++ ((l.take (k + 1)).filter fun x => ltN (p, v) x)) := Lib.hid (by rw [HTK.out, HACC.out]; simp)
            clear ho2 hown' hb'
            go_wp2
            go_roundw
            case rel => exact ⟨k + 1, acc ++ [(y1, y2)], by omega, by go_num, by simp; omega, HAC, HO2.out, HBN⟩
            case measure => simp [intOf]; omega
        · have e : n = k := by omega
          subst e
          have hac := HACC.out
          rw [List.take_of_length_le (i := n) (by rw [HN.out]; exact Nat.le_refl _)] at hac
          have hfin : acc = R := by
            rw [hac, ← HR.out]; unfold withN; simp
          subst hfin
          obtain ⟨a2, c2, rfl, hnd⟩ := ndsO hown
          go_wp2
          go_ret
          exact ⟨a2, c2, rfl, hnd, below_step BW.out HB.out⟩

/-! ### The set of a list -/
set_option maxHeartbeats 1600000 in
theorem refnset_any (U : Value) (l : List Nd) (w : World) (hU : Nds w U l) (sl : ∀ n ∈ l, smallN n) (ol : ∀ n ∈ l, okN n = true) (hl : l.length ≤ 1000000) :
    Calls Tryz.prog 30 #[U] w fun e w' => ∃ a c, e = .returned (.slice a (setN l).length c) ∧ Nds w' (.slice a (setN l).length c) (setN l) ∧ Below w.heap.size w w' := by
  obtain ⟨a, c, rfl, h1, h2, -, -⟩ := hU.ex
  unfold maxLen at h2
  obtain ⟨n, hn⟩ : ∃ n, l.length = n := ⟨_, rfl⟩
  rw [hn] at h1 hU hl ⊢
  obtain ⟨R, hR⟩ : ∃ R, setN l = R := ⟨_, rfl⟩
  rw [hR]
  have SU := Lib.hid hU; have HN := Lib.hid hn; have HR := Lib.hid hR; have SL := Lib.hid sl; have OL := Lib.hid ol
  clear hU hn hR sl ol
  go_enter Tryz.func30, Tryz.ntmps30
  go_wp2
  go_loopw [3, 4] (fun o i wr => ∃ (k m : Nat) (ao : Option Addr) (co : Nat), k ≤ n ∧ i = .int .i64 k ∧ o = .slice ao m co ∧ m ≤ k ∧ Hid ((setN (l.take k)).length = m ∧ Nds wr (.slice ao m co) (setN (l.take k))) ∧ Hid (Below w.heap.size w wr)) (fun _ i _ => n - (intOf i).toNat)
  case atStart => exact ⟨0, 0, none, 0, Nat.zero_le _, rfl, rfl, Nat.le_refl _, Lib.hid ⟨rfl, nds_none _⟩, Lib.hid (Below.refl _ _)⟩
  case round =>
    obtain ⟨k, m, ao, co, hk, rfl, rfl, hm, HS, HB⟩ := hrel
    by_cases hlt : k < n
    · have hkl : k < l.length := by rw [HN.out]; exact hlt
      obtain ⟨b, off, rfl, -, hc0, hc1⟩ := (SU.out.below HB.out).at k hkl
      have hts := setN_take_succ hkl
      obtain ⟨y, hy⟩ : ∃ y, y = l.getD k ([], []) := ⟨_, rfl⟩
      have hsy : smallN y := by rw [hy]; exact SL.out _ (nd_mem hkl)
      have hoy : okN y = true := by rw [hy]; exact OL.out _ (nd_mem hkl)
      rw [← hy] at hc0 hc1 hts
      obtain ⟨y1, y2⟩ := y
      simp only at hc0 hc1
      have htl : ∀ n ∈ l.take k, okN n = true := fun n hn => OL.out n (List.mem_of_mem_take hn)
      have hso : ∀ n ∈ setN (l.take k), okN n = true := fun n hn => htl n ((setN_mem htl n).1 hn)
      have hss : ∀ n ∈ setN (l.take k), smallN n := fun n hn => SL.out n (List.mem_of_mem_take ((setN_mem htl n).1 hn))
      have hnx : (setN (l.take (k + 1))).length ≤ k + 1 := Nat.le_trans (setN_len _) (by rw [List.length_take]; omega)
      have hw := fun w h => refnwith_any (.slice ao m co) (setN (l.take k)) y1 y2 w h hss hso hsy.1 hsy.2 hoy (by rw [HS.out.1]; omega)
      rw [← hts] at hw
      obtain ⟨m2, hm2⟩ : ∃ m2, (setN (l.take (k + 1))).length = m2 := ⟨_, rfl⟩
      rw [hm2] at hw hnx
      have HM2 := Lib.hid hm2
      clear hts hy hsy hoy htl hso hss hm2
      go_wp2_with (go_at_call 34; refine (hw _ HS.out.2).mono ?_; rintro e w1 ⟨a1, c1, rfl, hn1, hb1⟩; have S1 := Lib.hid hn1; have B1 := Lib.hid (below_step HB.out hb1); clear hb1 hn1 hw)
      go_roundw
      case rel => exact ⟨k + 1, m2, a1, c1, by omega, by go_num, rfl, hnx, Lib.hid ⟨HM2.out, S1.out⟩, B1⟩
      case measure => simp [intOf]; omega
    · have e : k = n := by omega
      subst e
      have hs := HS.out
      rw [List.take_of_length_le (i := k) (by rw [HN.out]; exact Nat.le_refl _), HR.out] at hs
      obtain ⟨rfl, hs⟩ := hs
      go_wp2
      go_ret
      exact ⟨ao, co, rfl, hs, HB.out⟩
end Go.Proofs.YtdefphacdcbljaaGreat
