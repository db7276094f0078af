/- A list that changes: of the document. -/
import Derived.Test.YtlbibgofhhdgoaaGreatLisN
import Derived.Test.YtlbibgofhhdgoaaGreatNodS
import Derived.Test.YtlbibgofhhdgoaaGreatNodQ
import Derived.Deep.Draws
import Derived.Deep.QuietTactic
import Derived.BigQuiet
import Derived.Deep.RegionWith
import Derived.Deep.CutRange
import Derived.Deep.DeepCutAuto
import Derived.Deep.RegionHeld3
import Derived.Deep.DrawnRows
namespace Go.Proofs.YtlbibgofhhdgoaaGreat
open Go.RowKit
set_option linter.unusedVariables false
set_option maxRecDepth 100000
attribute [local go_sem ↓] Go.wp_at_zero Go.wp_at_succ

set_option maxHeartbeats 3200000 in
theorem refnminuso_any (U V : Value) (l m : List Nd) (w : World) (hU : Nds w U l) (hV : Nds w V m) (hl : l.length ≤ 1000000) :
    Calls Tryz.prog 46 #[U, V] w fun e w' => ∃ x, e = .returned x ∧ w'.ownsRow w.heap.size 55 2 x (minusN l m).length (ndsC (minusN l m)) ∧ Below w.heap.size w w' := by
  obtain ⟨a, c, rfl, h1, h2, -, -⟩ := hU.ex
  obtain ⟨a', c', rfl, h1', h2', -, -⟩ := hV.ex
  unfold maxLen at h2 h2'
  obtain ⟨n, hn⟩ : ∃ n, l.length = n := ⟨_, rfl⟩
  obtain ⟨n', hn'⟩ : ∃ n, m.length = n := ⟨_, rfl⟩
  rw [hn] at h1 hU hl ⊢
  rw [hn'] at h1' hV ⊢
  obtain ⟨R, hR⟩ : ∃ R, minusN l m = R := ⟨_, rfl⟩
  rw [hR]
  have SU := Lib.hid hU; have SV := Lib.hid hV; have HN := Lib.hid hn; have HN' := Lib.hid hn'; have HR := Lib.hid hR
  clear hU hV hn hn' hR
  go_enter Tryz.func46, Tryz.ntmps46
  go_wp2
  go_loopw [5, 6] (fun v i wr => ∃ (k : Nat) (acc : List Nd), k ≤ n ∧ i = .int .i64 k ∧ acc.length ≤ k ∧ Hid (acc = minusN (l.take k) m) ∧ wr.ownsRow w.heap.size 55 2 v acc.length (ndsC acc) ∧ Hid (Below w.heap.size w wr)) (fun _ i _ => n - (intOf i).toNat)
  case atStart => exact ⟨0, [], Nat.zero_le _, rfl, Nat.le_refl _, Lib.hid rfl, World.ownsRow_nil _ _ _ _, Lib.hid (Below.refl _ _)⟩
  case round =>
    obtain ⟨k, acc, hk, rfl, hal, HACC, hown, HB⟩ := hrel
    by_cases hlt : k < n
    · have hkl : k < l.length := by rw [HN.out]; exact hlt
      obtain ⟨b, off, rfl, -, hc0, hc1⟩ := (SU.out.below HB.out).at k hkl
      have htk := minusN_take_succ (l := l) (m := m) hkl
      obtain ⟨y, hy⟩ : ∃ y, y = l.getD k ([], []) := ⟨_, rfl⟩
      rw [← hy] at hc0 hc1 htk
      obtain ⟨o, ho⟩ : ∃ o, hasN m y = o := ⟨_, rfl⟩
      rw [ho] at htk
      have HTK := Lib.hid htk; have HO := Lib.hid ho; have HOWN := Lib.hid hown
      clear hy htk ho hown
      obtain ⟨y1, y2⟩ := y
      simp only at hc0 hc1
      cases o
      · go_wp2_with (first
          | (go_at_call 71; refine (refnhas_any _ m y1 y2 _ (SV.out.below HB.out)).mono ?_; rintro e w1 ⟨rfl, hb1⟩; rw [HO.out]; have HB1 := Lib.hid (below_step HB.out hb1); have HOWN1 := Lib.hid (ownsRow_belowB HOWN.out hb1); replace hc0 := cell_keep hc0 hb1; replace hc1 := cell_keep hc1 hb1; clear hb1)
          | (at_builtin; refine wpList_append_new rfl _ _ 22 rfl w.heap.size 55 (.agg #[.string ByteArray.empty, .string ByteArray.empty]) 2 32 Tryz.underlying22 Tryz.info_node rfl (by decide) _ _ _ rfl HOWN1.out [.string (mkB y1), .string (mkB y2)] rfl rfl rfl (by omega) (by unfold maxLen; omega) HB1.out.size ?_))
        intro v' w' hown' hb'
        have e2 : ndsC acc ++ [.string (mkB y1), .string (mkB y2)] = ndsC (acc ++ [(y1, y2)]) := (ndsC_snoc acc (y1, y2)).symm
        rw [e2] at hown'
        have ho2 : w'.ownsRow w.heap.size 55 2 v' (acc ++ [(y1, y2)]).length (ndsC (acc ++ [(y1, y2)])) := by simpa using hown'
        have HO2 := Lib.hid ho2; have HBN := Lib.hid (HB1.out.trans hb'.toBelow)
        have HAC : Hid (acc ++ [(y1, y2)] = minusN (l.take (k + 1)) m) := Lib.hid (by rw [HTK.out, HACC.out]; rfl)
        clear ho2 hown' hb'
        go_wp2
        go_roundw
        case rel => exact ⟨k + 1, acc ++ [(y1, y2)], by omega, by go_num, by simp; omega, HAC, HO2.out, HBN⟩
        case measure => simp [intOf]; omega
      · have HAC : Hid (acc = minusN (l.take (k + 1)) m) := Lib.hid (by rw [HTK.out, HACC.out]; simp)
        go_wp2_with (first
          | (go_at_call 71; refine (refnhas_any _ m y1 y2 _ (SV.out.below HB.out)).mono ?_; rintro e w1 ⟨rfl, hb1⟩; rw [HO.out]; have HB1 := Lib.hid (below_step HB.out hb1); have HOWN1 := Lib.hid (ownsRow_belowB HOWN.out hb1); clear hb1))
        go_roundw
        case rel => exact ⟨k + 1, acc, by omega, by go_num, by omega, HAC, HOWN1.out, HB1⟩
        case measure => simp [intOf]; omega
    · have e : k = n := by omega
      subst e
      have hac := HACC.out
      rw [List.take_of_length_le (by rw [HN.out]; exact Nat.le_refl _), HR.out] at hac
      subst hac
      go_wp2
      go_ret
      exact ⟨_, rfl, hown, HB.out⟩
set_option maxHeartbeats 6400000 in
theorem refnwitho_any (U : Value) (l : List Nd) (p v : List UInt8) (w : World) (hU : Nds w U l) (sl : ∀ n ∈ l, smallN n) (ol : ∀ n ∈ l, okN n = true) (hp : p.length ≤ 1000000000) (hv : v.length ≤ 1000000000) (on : okN (p, v) = true) (hl : l.length ≤ 1000000) :
    Calls Tryz.prog 47 #[U, .agg #[.string (mkB p), .string (mkB v)]] w fun e w' => ∃ x, e = .returned x ∧ w'.ownsRow w.heap.size 55 2 x (withN l (p, v)).length (ndsC (withN l (p, v))) ∧ Below w.heap.size w w' := by
  obtain ⟨a, c, rfl, h1, h2, -, -⟩ := hU.ex
  unfold maxLen at h2
  obtain ⟨n, hn⟩ : ∃ n, l.length = n := ⟨_, rfl⟩
  rw [hn] at h1 hU hl ⊢
  obtain ⟨R, hR⟩ : ∃ R, withN l (p, v) = R := ⟨_, rfl⟩
  rw [hR]
  have SU := Lib.hid hU; have HN := Lib.hid hn; have HR := Lib.hid hR; have SL := Lib.hid sl; have OL := Lib.hid ol; have HP := Lib.hid hp; have HV := Lib.hid hv; have ON := Lib.hid on
  clear hU hn hR sl ol hp hv on
  obtain ⟨W, g, hW, hg, d0, d1, hb⟩ := boxB1 w (.string (mkB p)) (.string (mkB v)) 55
  have HW := Lib.hid hW; have HG := Lib.hid hg; have BW := Lib.hid hb; have D0 := Lib.hid d0; have D1 := Lib.hid d1
  clear hW hg hb d0 d1
  go_enter Tryz.func47, Tryz.ntmps47
  go_upto_region 1 with fail
  rw [HW.out, HG.out]
  go_wp2
  go_loopw [5, 6] (fun o i wr => ∃ (k : Nat) (acc : List Nd), k ≤ n ∧ i = .int .i64 k ∧ acc.length ≤ k ∧ Hid (acc = ((l.take k).filter fun x => ltN x (p, v))) ∧ wr.ownsRow W.heap.size 55 2 o acc.length (ndsC acc) ∧ Hid (Below W.heap.size W wr)) (fun _ i _ => n - (intOf i).toNat)
  case atStart => exact ⟨0, [], Nat.zero_le _, rfl, Nat.le_refl _, Lib.hid rfl, World.ownsRow_nil _ _ _ _, Lib.hid (Below.refl _ _)⟩
  case round =>
    obtain ⟨k, acc, hk, rfl, hal, HACC, hown, HB⟩ := hrel
    by_cases hlt : k < n
    · have hkl : k < l.length := by rw [HN.out]; exact hlt
      obtain ⟨b, off, rfl, -, hc0, hc1⟩ := (SU.out.below (below_step BW.out HB.out)).at k hkl
      have d0 := cell_keep D0.out HB.out
      have d1 := cell_keep D1.out HB.out
      have htk := filter_take_succ (f := fun x => ltN x (p, v)) hkl
      obtain ⟨y, hy⟩ : ∃ y, y = l.getD k ([], []) := ⟨_, rfl⟩
      have hsy : smallN y := by rw [hy]; exact SL.out _ (nd_mem hkl)
      have hoy : okN y = true := by rw [hy]; exact OL.out _ (nd_mem hkl)
      rw [← hy] at hc0 hc1 htk
      obtain ⟨y1, y2⟩ := y
      simp only at hc0 hc1
      obtain ⟨o, ho⟩ : ∃ o, ltN (y1, y2) (p, v) = o := ⟨_, rfl⟩
      rw [ho] at htk
      have hless := fun w => refless_any y1 y2 p v w hsy.1 hsy.2 HP.out HV.out hoy ON.out
      have ho' : ltN (y1, y2) (p, v) = o := ho
      rw [ho'] at hless
      have HTK := Lib.hid htk; have HOWN := Lib.hid hown
      have hkn : (k : Int) < (n : Int) := by omega
      clear hy hsy hoy htk ho ho' hown
      cases o
      · go_upto_region 5 with fail
        refine wp_region_held_drew (S := fun w' => w'.cell? ⟨b, off + k * 2, none⟩ = some (.string (mkB y1)) ∧ w'.cell? ⟨b, off + k * 2 + 1, none⟩ = some (.string (mkB y2)) ∧ w'.cell? ⟨g, 0, none⟩ = some (.string (mkB p)) ∧ w'.cell? ⟨g, 1, none⟩ = some (.string (mkB v)) ∧ Below wr.heap.size wr w') (by kernel_rfl) (by exact ⟨cell_drew hc0, cell_drew hc1, cell_drew d0, cell_drew d1, below_q ⟨1, rfl⟩⟩) (fun hS => ?_)
        refine wpAnyH_take (i := 0) (v := ?_) rfl (by kernel_rfl) (by kernel_rfl) (by kernel_rfl) (fun _ _ _ h => h) (Or.inl ⟨by kernel_rfl, ?_⟩) hS ?_
        rotate_left
        · intro w hSw; (try dsimp only at hSw); go_simp; try (with_reducible rfl)
        simp only [Act.put, List.getElem_toArray, List.getElem_cons_zero, List.setIfInBounds_toArray, List.set_cons_zero, List.set_cons_succ]
        refine wpAnyH_take (i := 1) (v := ?_) rfl (by kernel_rfl) (by kernel_rfl) (by kernel_rfl) (fun _ _ _ h => h) (Or.inl ⟨by kernel_rfl, ?_⟩) hS ?_
        rotate_left
        · intro w hSw; (try dsimp only at hSw); go_simp; try (with_reducible rfl)
        simp only [Act.put, List.getElem_toArray, List.getElem_cons_succ, List.getElem_cons_zero, List.setIfInBounds_toArray, List.set_cons_zero, List.set_cons_succ]
        refine wpAnyH_take (i := 2) (v := ?_) rfl (by kernel_rfl) (by kernel_rfl) (by kernel_rfl) (fun _ _ _ h => h) (Or.inl ⟨by kernel_rfl, ?_⟩) hS ?_
        rotate_left
        · intro w hSw; (try dsimp only at hSw); go_simp; try (with_reducible rfl)
        simp only [Act.put, List.getElem_toArray, List.getElem_cons_succ, List.getElem_cons_zero, List.setIfInBounds_toArray, List.set_cons_zero, List.set_cons_succ]
        refine wpAnyH_take (i := 3) (v := ?_) rfl (by kernel_rfl) (by kernel_rfl) (by kernel_rfl) (fun _ _ _ h => h) (Or.inl ⟨by kernel_rfl, ?_⟩) hS ?_
        rotate_left
        · intro w hSw; (try dsimp only at hSw); go_simp; try (with_reducible rfl)
        simp only [Act.put, List.getElem_toArray, List.getElem_cons_succ, List.getElem_cons_zero, List.setIfInBounds_toArray, List.set_cons_zero, List.set_cons_succ]
        refine wpAnyH_take (i := 4) (v := ?_) rfl (by kernel_rfl) (by kernel_rfl) (by kernel_rfl) (fun _ _ _ h => h) (Or.inl ⟨by kernel_rfl, ?_⟩) hS ?_
        rotate_left
        · intro w hSw; (try dsimp only at hSw); go_simp; try (with_reducible rfl)
        simp only [Act.put, List.getElem_toArray, List.getElem_cons_succ, List.getElem_cons_zero, List.setIfInBounds_toArray, List.set_cons_zero, List.set_cons_succ]
        refine wpAnyH_ready (rs := [5]) (by kernel_rfl) (by simp) (AllReadyH.cons rfl (fun K hK => ?_) AllReadyH.nil)
        go_simp
        go_at_call 64; refine (hless _).mono ?_; rintro e w1 ⟨rfl, hb1⟩; clear hless
        refine hK.out _ _ (by exact ⟨cell_keep hS.1 hb1, cell_keep hS.2.1 hb1, cell_keep hS.2.2.1 hb1, cell_keep hS.2.2.2.1 hb1, below_step hS.2.2.2.2 hb1⟩) (fun hS => ?_)
        clear hK K
        try simp only [Act.put, List.getElem_toArray, List.getElem_cons_succ, List.getElem_cons_zero, List.setIfInBounds_toArray, List.set_cons_zero, List.set_cons_succ]
        refine wpAnyH_done (by kernel_rfl) ?_ _
        obtain ⟨hc0, hc1, -, -, hbw⟩ := hS
        have HB1 := Lib.hid (HB.out.trans (hbw.mono HB.out.size)); have HOWN1 := Lib.hid (ownsRow_belowB HOWN.out hbw)
        clear hbw
        have HAC : Hid (acc = ((l.take (k + 1)).filter fun x => ltN x (p, v))) := Lib.hid (by rw [HTK.out, HACC.out]; simp)
        go_wp2
        go_roundw
        case rel => exact ⟨k + 1, acc, by omega, by go_num, by omega, HAC, HOWN1.out, HB1⟩
        case measure => simp [intOf]; omega
      · go_upto_region 5 with fail
        refine wp_region_held_drew (S := fun w' => w'.cell? ⟨b, off + k * 2, none⟩ = some (.string (mkB y1)) ∧ w'.cell? ⟨b, off + k * 2 + 1, none⟩ = some (.string (mkB y2)) ∧ w'.cell? ⟨g, 0, none⟩ = some (.string (mkB p)) ∧ w'.cell? ⟨g, 1, none⟩ = some (.string (mkB v)) ∧ Below wr.heap.size wr w') (by kernel_rfl) (by exact ⟨cell_drew hc0, cell_drew hc1, cell_drew d0, cell_drew d1, below_q ⟨1, rfl⟩⟩) (fun hS => ?_)
        refine wpAnyH_take (i := 0) (v := ?_) rfl (by kernel_rfl) (by kernel_rfl) (by kernel_rfl) (fun _ _ _ h => h) (Or.inl ⟨by kernel_rfl, ?_⟩) hS ?_
        rotate_left
        · intro w hSw; (try dsimp only at hSw); go_simp; try (with_reducible rfl)
        simp only [Act.put, List.getElem_toArray, List.getElem_cons_zero, List.setIfInBounds_toArray, List.set_cons_zero, List.set_cons_succ]
        refine wpAnyH_take (i := 1) (v := ?_) rfl (by kernel_rfl) (by kernel_rfl) (by kernel_rfl) (fun _ _ _ h => h) (Or.inl ⟨by kernel_rfl, ?_⟩) hS ?_
        rotate_left
        · intro w hSw; (try dsimp only at hSw); go_simp; try (with_reducible rfl)
        simp only [Act.put, List.getElem_toArray, List.getElem_cons_succ, List.getElem_cons_zero, List.setIfInBounds_toArray, List.set_cons_zero, List.set_cons_succ]
        refine wpAnyH_take (i := 2) (v := ?_) rfl (by kernel_rfl) (by kernel_rfl) (by kernel_rfl) (fun _ _ _ h => h) (Or.inl ⟨by kernel_rfl, ?_⟩) hS ?_
        rotate_left
        · intro w hSw; (try dsimp only at hSw); go_simp; try (with_reducible rfl)
        simp only [Act.put, List.getElem_toArray, List.getElem_cons_succ, List.getElem_cons_zero, List.setIfInBounds_toArray, List.set_cons_zero, List.set_cons_succ]
        refine wpAnyH_take (i := 3) (v := ?_) rfl (by kernel_rfl) (by kernel_rfl) (by kernel_rfl) (fun _ _ _ h => h) (Or.inl ⟨by kernel_rfl, ?_⟩) hS ?_
        rotate_left
        · intro w hSw; (try dsimp only at hSw); go_simp; try (with_reducible rfl)
        simp only [Act.put, List.getElem_toArray, List.getElem_cons_succ, List.getElem_cons_zero, List.setIfInBounds_toArray, List.set_cons_zero, List.set_cons_succ]
        refine wpAnyH_take (i := 4) (v := ?_) rfl (by kernel_rfl) (by kernel_rfl) (by kernel_rfl) (fun _ _ _ h => h) (Or.inl ⟨by kernel_rfl, ?_⟩) hS ?_
        rotate_left
        · intro w hSw; (try dsimp only at hSw); go_simp; try (with_reducible rfl)
        simp only [Act.put, List.getElem_toArray, List.getElem_cons_succ, List.getElem_cons_zero, List.setIfInBounds_toArray, List.set_cons_zero, List.set_cons_succ]
        refine wpAnyH_ready (rs := [5]) (by kernel_rfl) (by simp) (AllReadyH.cons rfl (fun K hK => ?_) AllReadyH.nil)
        go_simp
        go_at_call 64; refine (hless _).mono ?_; rintro e w1 ⟨rfl, hb1⟩; clear hless
        refine hK.out _ _ (by exact ⟨cell_keep hS.1 hb1, cell_keep hS.2.1 hb1, cell_keep hS.2.2.1 hb1, cell_keep hS.2.2.2.1 hb1, below_step hS.2.2.2.2 hb1⟩) (fun hS => ?_)
        clear hK K
        try simp only [Act.put, List.getElem_toArray, List.getElem_cons_succ, List.getElem_cons_zero, List.setIfInBounds_toArray, List.set_cons_zero, List.set_cons_succ]
        refine wpAnyH_done (by kernel_rfl) ?_ _
        obtain ⟨hc0, hc1, -, -, hbw⟩ := hS
        have HB1 := Lib.hid (HB.out.trans (hbw.mono HB.out.size)); have HOWN1 := Lib.hid (ownsRow_belowB HOWN.out hbw)
        clear hbw
        go_wp2_with (at_builtin; refine wpList_append_new rfl _ _ 22 rfl W.heap.size 55 (.agg #[.string ByteArray.empty, .string ByteArray.empty]) 2 32 Tryz.underlying22 Tryz.info_node rfl (by decide) _ _ _ rfl HOWN1.out [.string (mkB y1), .string (mkB y2)] rfl rfl rfl (by omega) (by unfold maxLen; omega) HB1.out.size ?_)
        intro v' w' hown' hb'
        have e2 : ndsC acc ++ [.string (mkB y1), .string (mkB y2)] = ndsC (acc ++ [(y1, y2)]) := (ndsC_snoc acc (y1, y2)).symm
        rw [e2] at hown'
        have ho2 : w'.ownsRow W.heap.size 55 2 v' (acc ++ [(y1, y2)]).length (ndsC (acc ++ [(y1, y2)])) := by simpa using hown'
        have HO2 := Lib.hid ho2; have HBN := Lib.hid (HB1.out.trans hb'.toBelow)
        have HAC : Hid (acc ++ [(y1, y2)] = ((l.take (k + 1)).filter fun x => ltN x (p, v))) := Lib.hid (by rw [HTK.out, HACC.out]; simp)
        clear ho2 hown' hb'
        go_wp2
        go_roundw
        case rel => exact ⟨k + 1, acc ++ [(y1, y2)], by omega, by go_num, by simp; omega, HAC, HO2.out, HBN⟩
        case measure => simp [intOf]; omega
    · have e : n = k := by omega
      subst e
      have hac := HACC.out
      rw [List.take_of_length_le (i := n) (by rw [HN.out]; exact Nat.le_refl _)] at hac
      have d0 := cell_keep D0.out HB.out
      have d1 := cell_keep D1.out HB.out
      have HOWN := Lib.hid hown; have HAC0 := Lib.hid hac
      clear hown hac HACC
      go_wp2_with (at_builtin; refine wpList_append_new rfl _ _ 22 rfl W.heap.size 55 (.agg #[.string ByteArray.empty, .string ByteArray.empty]) 2 32 Tryz.underlying22 Tryz.info_node rfl (by decide) _ _ _ rfl HOWN.out [.string (mkB p), .string (mkB v)] rfl rfl rfl (by omega) (by unfold maxLen; omega) HB.out.size ?_)
      intro v' w' hown' hb'
      have e2 : ndsC acc ++ [.string (mkB p), .string (mkB v)] = ndsC (acc ++ [(p, v)]) := (ndsC_snoc acc (p, v)).symm
      rw [e2] at hown'
      have ho2 : w'.ownsRow W.heap.size 55 2 v' (acc ++ [(p, v)]).length (ndsC (acc ++ [(p, v)])) := by simpa using hown'
      have HO0 := Lib.hid ho2; have HB0 := Lib.hid (HB.out.trans hb'.toBelow)
      obtain ⟨P, hP⟩ : ∃ P, acc ++ [(p, v)] = P := ⟨_, rfl⟩
      have hPl : P.length ≤ n + 1 := by rw [← hP]; simp; omega
      rw [hP] at HO0
      have HPRE : Hid (P = (l.filter fun x => ltN x (p, v)) ++ [(p, v)]) := Lib.hid (by rw [← hP, HAC0.out])
      clear ho2 hown' hb' hP HAC0 e2 d0 d1 HOWN HB hal
      go_wp2
      go_loopw [5, 7] (fun o i wr => ∃ (k : Nat) (acc : List Nd), k ≤ n ∧ i = .int .i64 k ∧ acc.length ≤ n + 1 + k ∧ Hid (acc = (l.filter fun x => ltN x (p, v)) ++ [(p, v)] ++ ((l.take k).filter fun x => ltN (p, v) x)) ∧ wr.ownsRow W.heap.size 55 2 o acc.length (ndsC acc) ∧ Hid (Below W.heap.size W wr)) (fun _ i _ => n - (intOf i).toNat)
      case atStart => exact ⟨0, _, Nat.zero_le _, rfl, by simp; omega, Lib.hid (by rw [HPRE.out]; simp), HO0.out, HB0⟩
      case round =>
        obtain ⟨k, acc, hk, rfl, hal, HACC, hown, HB⟩ := hrel
        by_cases hlt : k < n
        · have hkl : k < l.length := by rw [HN.out]; exact hlt
          obtain ⟨b, off, rfl, -, hc0, hc1⟩ := (SU.out.below (below_step BW.out HB.out)).at k hkl
          have d0 := cell_keep D0.out HB.out
          have d1 := cell_keep D1.out HB.out
          have htk := filter_take_succ (f := fun x => ltN (p, v) x) hkl
          obtain ⟨y, hy⟩ : ∃ y, y = l.getD k ([], []) := ⟨_, rfl⟩
          have hsy : smallN y := by rw [hy]; exact SL.out _ (nd_mem hkl)
          have hoy : okN y = true := by rw [hy]; exact OL.out _ (nd_mem hkl)
          rw [← hy] at hc0 hc1 htk
          obtain ⟨y1, y2⟩ := y
          simp only at hc0 hc1
          obtain ⟨o, ho⟩ : ∃ o, ltN (p, v) (y1, y2) = o := ⟨_, rfl⟩
          rw [ho] at htk
          have hless := fun w => refless_any p v y1 y2 w HP.out HV.out hsy.1 hsy.2 ON.out hoy
          have ho' : ltN (p, v) (y1, y2) = o := ho
          rw [ho'] at hless
          have HTK := Lib.hid htk; have HOWN := Lib.hid hown
          have hkn : (k : Int) < (n : Int) := by omega
          clear hy hsy hoy htk ho ho' hown
          cases o
          · go_upto_region 11 with fail
            refine wp_region_held_drew (S := fun w' => w'.cell? ⟨b, off + k * 2, none⟩ = some (.string (mkB y1)) ∧ w'.cell? ⟨b, off + k * 2 + 1, none⟩ = some (.string (mkB y2)) ∧ w'.cell? ⟨g, 0, none⟩ = some (.string (mkB p)) ∧ w'.cell? ⟨g, 1, none⟩ = some (.string (mkB v)) ∧ Below wr.heap.size wr w') (by kernel_rfl) (by exact ⟨cell_drew hc0, cell_drew hc1, cell_drew d0, cell_drew d1, below_q ⟨1, rfl⟩⟩) (fun hS => ?_)
            refine wpAnyH_take (i := 0) (v := ?_) rfl (by kernel_rfl) (by kernel_rfl) (by kernel_rfl) (fun _ _ _ h => h) (Or.inl ⟨by kernel_rfl, ?_⟩) hS ?_
            rotate_left
            · intro w hSw; (try dsimp only at hSw); go_simp; try (with_reducible rfl)
            simp only [Act.put, List.getElem_toArray, List.getElem_cons_zero, List.setIfInBounds_toArray, List.set_cons_zero, List.set_cons_succ]
            refine wpAnyH_take (i := 1) (v := ?_) rfl (by kernel_rfl) (by kernel_rfl) (by kernel_rfl) (fun _ _ _ h => h) (Or.inl ⟨by kernel_rfl, ?_⟩) hS ?_
            rotate_left
            · intro w hSw; (try dsimp only at hSw); go_simp; try (with_reducible rfl)
            simp only [Act.put, List.getElem_toArray, List.getElem_cons_succ, List.getElem_cons_zero, List.setIfInBounds_toArray, List.set_cons_zero, List.set_cons_succ]
            refine wpAnyH_take (i := 2) (v := ?_) rfl (by kernel_rfl) (by kernel_rfl) (by kernel_rfl) (fun _ _ _ h => h) (Or.inl ⟨by kernel_rfl, ?_⟩) hS ?_
            rotate_left
            · intro w hSw; (try dsimp only at hSw); go_simp; try (with_reducible rfl)
            simp only [Act.put, List.getElem_toArray, List.getElem_cons_succ, List.getElem_cons_zero, List.setIfInBounds_toArray, List.set_cons_zero, List.set_cons_succ]
            refine wpAnyH_take (i := 3) (v := ?_) rfl (by kernel_rfl) (by kernel_rfl) (by kernel_rfl) (fun _ _ _ h => h) (Or.inl ⟨by kernel_rfl, ?_⟩) hS ?_
            rotate_left
            · intro w hSw; (try dsimp only at hSw); go_simp; try (with_reducible rfl)
            simp only [Act.put, List.getElem_toArray, List.getElem_cons_succ, List.getElem_cons_zero, List.setIfInBounds_toArray, List.set_cons_zero, List.set_cons_succ]
            refine wpAnyH_take (i := 4) (v := ?_) rfl (by kernel_rfl) (by kernel_rfl) (by kernel_rfl) (fun _ _ _ h => h) (Or.inl ⟨by kernel_rfl, ?_⟩) hS ?_
            rotate_left
            · intro w hSw; (try dsimp only at hSw); go_simp; try (with_reducible rfl)
            simp only [Act.put, List.getElem_toArray, List.getElem_cons_succ, List.getElem_cons_zero, List.setIfInBounds_toArray, List.set_cons_zero, List.set_cons_succ]
            refine wpAnyH_ready (rs := [5]) (by kernel_rfl) (by simp) (AllReadyH.cons rfl (fun K hK => ?_) AllReadyH.nil)
            go_simp
            go_at_call 64; refine (hless _).mono ?_; rintro e w1 ⟨rfl, hb1⟩; clear hless
            refine hK.out _ _ (by exact ⟨cell_keep hS.1 hb1, cell_keep hS.2.1 hb1, cell_keep hS.2.2.1 hb1, cell_keep hS.2.2.2.1 hb1, below_step hS.2.2.2.2 hb1⟩) (fun hS => ?_)
            clear hK K
            try simp only [Act.put, List.getElem_toArray, List.getElem_cons_succ, List.getElem_cons_zero, List.setIfInBounds_toArray, List.set_cons_zero, List.set_cons_succ]
            refine wpAnyH_done (by kernel_rfl) ?_ _
            obtain ⟨hc0, hc1, -, -, hbw⟩ := hS
            have HB1 := Lib.hid (HB.out.trans (hbw.mono HB.out.size)); have HOWN1 := Lib.hid (ownsRow_belowB HOWN.out hbw)
            clear hbw
            have HAC : Hid (acc = (l.filter fun x => ltN x (p, v)) ++ [(p, v)] ++ ((l.take (k + 1)).filter fun x => ltN (p, v) x)) := Lib.hid (by rw [HTK.out, HACC.out]; simp)
            go_wp2
            go_roundw
            case rel => exact ⟨k + 1, acc, by omega, by go_num, by omega, HAC, HOWN1.out, HB1⟩
            case measure => simp [intOf]; omega
          · go_upto_region 11 with fail
            refine wp_region_held_drew (S := fun w' => w'.cell? ⟨b, off + k * 2, none⟩ = some (.string (mkB y1)) ∧ w'.cell? ⟨b, off + k * 2 + 1, none⟩ = some (.string (mkB y2)) ∧ w'.cell? ⟨g, 0, none⟩ = some (.string (mkB p)) ∧ w'.cell? ⟨g, 1, none⟩ = some (.string (mkB v)) ∧ Below wr.heap.size wr w') (by kernel_rfl) (by exact ⟨cell_drew hc0, cell_drew hc1, cell_drew d0, cell_drew d1, below_q ⟨1, rfl⟩⟩) (fun hS => ?_)
            refine wpAnyH_take (i := 0) (v := ?_) rfl (by kernel_rfl) (by kernel_rfl) (by kernel_rfl) (fun _ _ _ h => h) (Or.inl ⟨by kernel_rfl, ?_⟩) hS ?_
            rotate_left
            · intro w hSw; (try dsimp only at hSw); go_simp; try (with_reducible rfl)
            simp only [Act.put, List.getElem_toArray, List.getElem_cons_zero, List.setIfInBounds_toArray, List.set_cons_zero, List.set_cons_succ]
            refine wpAnyH_take (i := 1) (v := ?_) rfl (by kernel_rfl) (by kernel_rfl) (by kernel_rfl) (fun _ _ _ h => h) (Or.inl ⟨by kernel_rfl, ?_⟩) hS ?_
            rotate_left
            · intro w hSw; (try dsimp only at hSw); go_simp; try (with_reducible rfl)
            simp only [Act.put, List.getElem_toArray, List.getElem_cons_succ, List.getElem_cons_zero, List.setIfInBounds_toArray, List.set_cons_zero, List.set_cons_succ]
            refine wpAnyH_take (i := 2) (v := ?_) rfl (by kernel_rfl) (by kernel_rfl) (by kernel_rfl) (fun _ _ _ h => h) (Or.inl ⟨by kernel_rfl, ?_⟩) hS ?_
            rotate_left
            · intro w hSw; (try dsimp only at hSw); go_simp; try (with_reducible rfl)
            simp only [Act.put, List.getElem_toArray, List.getElem_cons_succ, List.getElem_cons_zero, List.setIfInBounds_toArray, List.set_cons_zero, List.set_cons_succ]
            refine wpAnyH_take (i := 3) (v := ?_) rfl (by kernel_rfl) (by kernel_rfl) (by kernel_rfl) (fun _ _ _ h => h) (Or.inl ⟨by kernel_rfl, ?_⟩) hS ?_
            rotate_left
            · intro w hSw; (try dsimp only at hSw); go_simp; try (with_reducible rfl)
            simp only [Act.put, List.getElem_toArray, List.getElem_cons_succ, List.getElem_cons_zero, List.setIfInBounds_toArray, List.set_cons_zero, List.set_cons_succ]
            refine wpAnyH_take (i := 4) (v := ?_) rfl (by kernel_rfl) (by kernel_rfl) (by kernel_rfl) (fun _ _ _ h => h) (Or.inl ⟨by kernel_rfl, ?_⟩) hS ?_
            rotate_left
            · intro w hSw; (try dsimp only at hSw); go_simp; try (with_reducible rfl)
            simp only [Act.put, List.getElem_toArray, List.getElem_cons_succ, List.getElem_cons_zero, List.setIfInBounds_toArray, List.set_cons_zero, List.set_cons_succ]
            refine wpAnyH_ready (rs := [5]) (by kernel_rfl) (by simp) (AllReadyH.cons rfl (fun K hK => ?_) AllReadyH.nil)
            go_simp
            go_at_call 64; refine (hless _).mono ?_; rintro e w1 ⟨rfl, hb1⟩; clear hless
            refine hK.out _ _ (by exact ⟨cell_keep hS.1 hb1, cell_keep hS.2.1 hb1, cell_keep hS.2.2.1 hb1, cell_keep hS.2.2.2.1 hb1, below_step hS.2.2.2.2 hb1⟩) (fun hS => ?_)
            clear hK K
            try simp only [Act.put, List.getElem_toArray, List.getElem_cons_succ, List.getElem_cons_zero, List.setIfInBounds_toArray, List.set_cons_zero, List.set_cons_succ]
            refine wpAnyH_done (by kernel_rfl) ?_ _
            obtain ⟨hc0, hc1, -, -, hbw⟩ := hS
            have HB1 := Lib.hid (HB.out.trans (hbw.mono HB.out.size)); have HOWN1 := Lib.hid (ownsRow_belowB HOWN.out hbw)
            clear hbw
            go_wp2_with (at_builtin; refine wpList_append_new rfl _ _ 22 rfl W.heap.size 55 (.agg #[.string ByteArray.empty, .string ByteArray.empty]) 2 32 Tryz.underlying22 Tryz.info_node rfl (by decide) _ _ _ rfl HOWN1.out [.string (mkB y1), .string (mkB y2)] rfl rfl rfl (by omega) (by unfold maxLen; omega) HB1.out.size ?_)
            intro v' w' hown' hb'
            have e2 : ndsC acc ++ [.string (mkB y1), .string (mkB y2)] = ndsC (acc ++ [(y1, y2)]) := (ndsC_snoc acc (y1, y2)).symm
            rw [e2] at hown'
            have ho2 : w'.ownsRow W.heap.size 55 2 v' (acc ++ [(y1, y2)]).length (ndsC (acc ++ [(y1, y2)])) := by simpa using hown'
            have HO2 := Lib.hid ho2; have HBN := Lib.hid (HB1.out.trans hb'.toBelow)
            have HAC : Hid (acc ++ [(y1, y2)] = (l.filter fun x => ltN x (p, v)) ++ [(p, v)] ++ ((l.take (k + 1)).filter fun x => ltN (p, v) x)) := Lib.hid (by rw [HTK.out, HACC.out]; simp)
            clear ho2 hown' hb'
            go_wp2
            go_roundw
            case rel => exact ⟨k + 1, acc ++ [(y1, y2)], by omega, by go_num, by simp; omega, HAC, HO2.out, HBN⟩
            case measure => simp [intOf]; omega
        · have e : n = k := by omega
          subst e
          have hac := HACC.out
          rw [List.take_of_length_le (i := n) (by rw [HN.out]; exact Nat.le_refl _)] at hac
          have hfin : acc = R := by
            rw [hac, ← HR.out]; unfold withN; simp
          subst hfin
          go_wp2
          go_ret
          exact ⟨_, rfl, row_base hown BW.out.size, below_step BW.out HB.out⟩


open Go.Maps in
set_option maxHeartbeats 6400000 in
theorem refapply_any (U V : Value) (l : List Nd) (c : List Ch) (w : World) (hU : Nds w U l) (hV : Chs w V c) (sl : ∀ n ∈ l, smallN n) (sc : ∀ x ∈ c, smallC x) (ll : l.length ≤ 100000) (lc : c.length ≤ 100000) (ol : okL l = true) (oc : okCs c = true) :
    Calls Tryz.prog 24 #[U, V] w fun e w' => ∃ x, e = .returned (.tuple #[x, .bool (fitsL l c)]) ∧ Nds w' x (applyE l c).1 ∧ Below w.heap.size w w' := by
  obtain ⟨A, d, rfl, h1, h2, -, -⟩ := hU.ex
  obtain ⟨A', d', rfl, h1', h2', -, -⟩ := hV.ex
  unfold maxLen at h2 h2'
  have kp := fun p w h => refpick_any (.slice A l.length d) l p w h
  obtain ⟨n, hn⟩ : ∃ n, l.length = n := ⟨_, rfl⟩
  obtain ⟨m, hm⟩ : ∃ m, c.length = m := ⟨_, rfl⟩
  rw [hn] at h1 hU kp ll ⊢
  rw [hm] at h1' hV lc ⊢
  have SU := Lib.hid hU; have SV := Lib.hid hV; have HN := Lib.hid hn; have HM := Lib.hid hm
  obtain ⟨E, hE⟩ : ∃ E, applyE l c = E := ⟨_, rfl⟩
  obtain ⟨G, hG⟩ : ∃ G, fitsL l c = G := ⟨_, rfl⟩
  rw [hE, hG]
  have HEN := Lib.hid (show fitsL l c = false → E.1 = [] ∧ G = false from fun q => ⟨by rw [← hE, applyE_off ol oc q], by rw [← hG]; exact q⟩)
  have HEY := Lib.hid (show fitsL l c = true → E.1 = c.foldl stepL l ∧ G = true from fun q => ⟨by rw [← hE, applyE_yes ol oc q, steps_apply ol oc q], by rw [← hG]; exact q⟩)
  have KP0 := Lib.hid kp; have SC := Lib.hid sc; have SL := Lib.hid sl; have OL := Lib.hid ol; have OC := Lib.hid oc
  clear kp hU hV hn hm sl sc ol oc hE hG
  have e1 : ∀ args w, (callFunc 19 args).run Tryz.prog w = .ok (.enter 19 args) w := enters_of Tryz.func19 (by kernel_rfl) rfl
  have e2 : ∀ args w, (callFunc 46 args).run Tryz.prog w = .ok (.enter 46 args) w := enters_of Tryz.func46 (by kernel_rfl) rfl
  have e3 : ∀ args w, (callFunc 47 args).run Tryz.prog w = .ok (.enter 47 args) w := enters_of Tryz.func47 (by kernel_rfl) rfl
  go_enter Tryz.func24, Tryz.ntmps24
  go_wp2
  go_loopw [6, 7] (fun v i wr => ∃ (k : Nat) (X : Value), k ≤ n ∧ i = .int .i64 k ∧ X = v ∧ Hid (wr.ownsRow w.heap.size 55 2 X k (ndsC (l.take k))) ∧ Hid (Below w.heap.size w wr)) (fun _ i _ => n - (intOf i).toNat)
  case atStart => exact ⟨0, _, Nat.zero_le _, rfl, rfl, Lib.hid (World.ownsRow_nil _ _ _ _), Lib.hid (Below.refl _ _)⟩
  case round =>
    obtain ⟨k, X, hk, rfl, rfl, HX, HB⟩ := hrel
    by_cases hlt : k < n
    · have hkl : k < l.length := by rw [HN.out]; exact hlt
      have hkb : (k : Int) < (n : Int) := by omega
      obtain ⟨bl, off, rfl, -, c0, c1⟩ := (SU.out.below HB.out).at k hkl
      have htk : l.take (k + 1) = l.take k ++ [l.getD k ([], [])] := by rw [List.take_succ_eq_append_getElem hkl, gd_at hkl]
      obtain ⟨y, hy⟩ : ∃ y, l.getD k ([], []) = y := ⟨_, rfl⟩
      rw [hy] at c0 c1 htk
      obtain ⟨y1, y2⟩ := y
      simp only at c0 c1
      have HTK := Lib.hid htk; have HNS := Lib.hid HB.out.size
      clear hkl htk hy
      go_wp2_with (at_builtin; refine wpList_push_ndT rfl _ _ rfl w.heap.size X (l.take k) k rfl HX.out y1 y2 _ rfl rfl (by omega) HNS.out ?_; intro a7 c7 w7 h7 hg7; have HX7 := Lib.hid h7; have HB7 := Lib.hid (HB.out.grown hg7 HNS.out (fun b e => (own_lt HX.out e).1)); clear h7 hg7 c0 c1)
      go_roundw
      case rel => exact ⟨k + 1, _, by omega, by go_num, rfl, Lib.hid (by rw [HTK.out]; exact HX7.out), HB7⟩
      case measure => simp [intOf]; omega
    · have e : k = n := by omega
      subst e
      have SO0 : Hid (Nds wr X l) := Lib.hid (Nds.owned (base := w.heap.size) (e := 55) (by
        have h3 := HX.out
        rw [List.take_of_length_le (by rw [HN.out]; exact Nat.le_refl _)] at h3
        rw [HN.out]; exact h3))
      have B := HB
      clear HX HB
      go_wp2
      obtain ⟨w4, hw4⟩ : ∃ v, v = wr := ⟨_, rfl⟩
      subst hw4
      go_loopw [6, 8] (fun v i wr => ∃ (j : Nat) (O : List Nd) (X : Value), j ≤ m ∧ i = .int .i64 j ∧ X = v ∧ Hid (okL O = true) ∧ Hid (∀ x ∈ O, smallN x) ∧ Hid (∀ p, pickL O p = updF (pickL l) (c.take j) p) ∧ Hid (O.length ≤ k + j) ∧ Hid (∀ i, i < j → pickL l (c.getD i zC).1 = (c.getD i zC).2.1) ∧ Hid (O = (c.take j).foldl stepL l) ∧ Hid (Nds wr X O) ∧ Hid (Below w4.heap.size w4 wr)) (fun _ i _ => m - (intOf i).toNat)
      case atStart => exact ⟨0, l, X, Nat.zero_le _, rfl, rfl, OL, SL, Lib.hid fun p => rfl, Lib.hid (by rw [HN.out]; exact Nat.le_add_right _ _), Lib.hid fun i hi => absurd hi (Nat.not_lt_zero i), Lib.hid rfl, SO0, Lib.hid (Below.refl _ _)⟩
      case round =>
        obtain ⟨j, O, X, hj, rfl, rfl, HOK, HSM, HPK, HLN, HFT, HST, SO, HB5⟩ := hrel
        by_cases hlt2 : j < m
        · have hbw := below_step B.out HB5.out
          have hkl2 : j < c.length := by rw [HM.out]; exact hlt2
          have hkb : (j : Int) < (m : Int) := by omega
          obtain ⟨bl, off, rfl, -, c0, c1, c2⟩ := (SV.out.below hbw).at j hkl2
          have SU5 := Lib.hid (SU.out.below hbw)
          have hin := gd_in (z := zC) hkl2
          have hsy := SC.out _ hin
          have hch := (okCs_iff.1 OC.out).1 _ hin
          have hup := fun p => updF_take (f := pickL l) hkl2 p
          have hno := fun q => fitsL_no (l := l) hkl2 q
          have htk : c.take (j + 1) = c.take j ++ [c.getD j zC] := by rw [List.take_succ_eq_append_getElem hkl2, gd_at hkl2]
          have hpo : pickL O (c.getD j zC).1 = pickL l (c.getD j zC).1 := by
            rw [HPK.out]
            refine updF_none fun x hx e => ?_
            obtain ⟨i, hi, rfl⟩ := List.getElem_of_mem hx
            rw [List.length_take] at hi
            rw [List.getElem_take] at e
            have h5 := List.pairwise_iff_getElem.1 (okCs_iff.1 OC.out).2 i j (by omega) hkl2 (by omega)
            rw [gd_at hkl2] at e
            exact ltB_ne h5 e
          obtain ⟨y, hy⟩ : ∃ y, c.getD j zC = y := ⟨_, rfl⟩
          rw [hy] at c0 c1 c2 hsy hch hup hno hpo htk
          obtain ⟨y0, y1, y2⟩ := y
          simp only at c0 c1 c2 hup hno hpo
          have kp := fun w h => KP0.out y0 w h
          obtain ⟨z, hz0⟩ : ∃ z, pickL l y0 = z := ⟨_, rfl⟩
          rw [hz0] at kp
          have HY := Lib.hid hy; have HSY := Lib.hid hsy; have HCH := Lib.hid hch; have HUP := Lib.hid hup; have HNO := Lib.hid hno; have HPO := Lib.hid hpo; have HTK := Lib.hid htk; have HZ := Lib.hid hz0; have KP := Lib.hid kp; have HKN := Lib.hid hlt2
          have C0 := Lib.hid c0; have C1 := Lib.hid c1; have C2 := Lib.hid c2
          have HLO0 := Lib.hid (show O.length ≤ 1000000 by have := HLN.out; omega)
          obtain ⟨w5, hw5⟩ : ∃ v, v = wr := ⟨_, rfl⟩
          subst hw5
          have HNW := Lib.hid (Nat.le_refl w5.heap.size)
          clear hbw hkl2 c0 c1 c2 hin hsy hch hup hno hpo htk hy hz0 kp
          go_upto_region 9 with fail
          by_cases hz : z = y1
          · have HEQ := Lib.hid (show decide (z = y1) = true by simp [hz])
            obtain ⟨s1, s2⟩ := step_is HOK.out HCH.out (by show pickL O y0 = y1; rw [HPO.out, HZ.out]; exact hz)
            obtain ⟨O1, hO1⟩ : ∃ O1, (if y1 = [] then O else minusN O [(y0, y1)]) = O1 := ⟨_, rfl⟩
            obtain ⟨O2, hO2⟩ : ∃ O2, stepL O (y0, y1, y2) = O2 := ⟨_, rfl⟩
            have hO2b : O2 = if y2 = [] then O1 else withN O1 (y0, y2) := by rw [← hO2, ← hO1]; rfl
            rw [hO2] at s1 s2
            have hl1 : O1.length ≤ k + j := by rw [← hO1]; split; exact HLN.out; exact Nat.le_trans (minusN_len _ _) HLN.out
            have hs1 : ∀ x ∈ O1, smallN x := fun x hx => by
              rw [← hO1] at hx; split at hx
              · exact HSM.out x hx
              · exact HSM.out x ((minusN_mem x).1 hx).1
            have ho1 : ∀ x ∈ O1, okN x = true := fun x hx => by
              rw [← hO1] at hx; split at hx
              · exact (okL_iff.1 HOK.out).1 x hx
              · exact (okL_iff.1 HOK.out).1 x ((minusN_mem x).1 hx).1
            have hon : ¬ y2 = [] → okN (y0, y2) = true := fun h => okN_of (okCh_iff.1 HCH.out).1 ((okCh_iff.1 HCH.out).2.2.1.resolve_left h)
            have HOK2 := Lib.hid s1
            have HSM2 : Hid (∀ x ∈ O2, smallN x) := Lib.hid (fun x hx => by
              rw [hO2b] at hx; split at hx
              · exact hs1 x hx
              · rename_i h
                rcases (withN_mem ho1 (hon h) x).1 hx with q | rfl
                · exact hs1 x q
                · exact ⟨HSY.out.1, HSY.out.2.2⟩)
            have HPK2 : Hid (∀ p, pickL O2 p = updF (pickL l) (c.take (j + 1)) p) := Lib.hid (fun p => by
              rw [s2 p, HUP.out p]; unfold setF; simp only
              by_cases e : p = y0
              · rw [if_pos e, if_pos e]
              · rw [if_neg e, if_neg e, HPK.out p])
            have HLN2 : Hid (O2.length ≤ k + (j + 1)) := Lib.hid (by rw [hO2b]; split; omega; have := withN_len1 O1 (y0, y2); omega)
            have HFT2 : Hid (∀ i, i < j + 1 → pickL l (c.getD i zC).1 = (c.getD i zC).2.1) := Lib.hid (fun i hj => by
              rcases Nat.lt_succ_iff_lt_or_eq.1 hj with q | rfl
              · exact HFT.out i q
              · rw [HY.out]; show pickL l y0 = y1; rw [HZ.out]; exact hz)
            have HST2 : Hid (O2 = (c.take (j + 1)).foldl stepL l) := Lib.hid (by rw [HTK.out, List.foldl_append, ← HST.out, ← hO2]; rfl)
            have HO1 := Lib.hid hO1; have HO2 := Lib.hid hO2b; have HSO := Lib.hid hs1; have HOO := Lib.hid ho1; have HON := Lib.hid hon; have HLO := Lib.hid (show O1.length ≤ 1000000 by omega)
            clear hz s1 s2 hO1 hO2 hO2b hl1 hs1 ho1 hon
            refine rol_run (by kernel_rfl) [[], [], [], [1, 2], [1, 2, 3], [1, 2, 3, 4], [0, 1, 2, 3, 4, 5], [], [], [7, 8], [7, 8, 9], [7, 8, 9, 10], [0, 1, 2, 3, 4, 5, 6, 7, 8, 9, 10, 11]] (by kernel_rfl) [28, 29, 30, 31, 32, 33, 34, 35, 36, 37, 38, 39, 40] [[], [], [], [1, 2], [3], [4], [0, 5], [], [], [7, 8], [9], [10], [6, 11]] [0, 0, 0, 0, 0, 0, 0, 0, 0, 0, 0, 0, 0] [0, 0, 0, 0, 0, 0, 0, 0, 0, 0, 0, 0, 0] [1000, 1000, 1000, 1000, 1000, 1000, 1000, 1000, 1000, 1000, 1000, 1000, 1000] [.val 28 (.slice A k d), .val 29 (.slice (some ⟨bl, off, none⟩) m d'), .val 30 (.int .i64 (j : Int)), .val 31 (.pointer (some ⟨bl, off + j * 3, none⟩)), .val 32 (.pointer (some ⟨bl, off + j * 3, none⟩)), .val 33 (.string (mkB y0)), .val 34 (.string (mkB z)), .val 35 (.slice (some ⟨bl, off, none⟩) m d'), .val 36 (.int .i64 (j : Int)), .val 37 (.pointer (some ⟨bl, off + j * 3, none⟩)), .val 38 (.pointer (some ⟨bl, off + j * 3 + 1, none⟩)), .val 39 (.string (mkB y1)), .val 40 (.bool false)] (by kernel_rfl) ?_ (w5.heap.size) (w5.heap.size) rfl (Below.refl _ _) rfl (fun _ => 0) ?_ ?_ ?_
            · intro j hj
              have hj3 : j < 13 := hj
              have hj2 : j = 0 ∨ j = 1 ∨ j = 2 ∨ j = 3 ∨ j = 4 ∨ j = 5 ∨ j = 6 ∨ j = 7 ∨ j = 8 ∨ j = 9 ∨ j = 10 ∨ j = 11 ∨ j = 12 := by omega
              clear hj hj3
              rcases hj2 with rfl | rfl | rfl | rfl | rfl | rfl | rfl | rfl | rfl | rfl | rfl | rfl | rfl
              · exact trivial
              · exact trivial
              · exact trivial
              · exact trivial
              · exact trivial
              · exact trivial
              · exact trivial
              · exact trivial
              · exact trivial
              · exact trivial
              · exact trivial
              · exact trivial
              · exact trivial
            · intro j hj0 hj
              exact absurd hj (Nat.not_lt.2 hj0)
            · intro i hi a wx who hG hF
              have hz : a.tmps.size = 81 := hG.size
              have hi3 : i < 13 := hi
              have hi2 : i = 0 ∨ i = 1 ∨ i = 2 ∨ i = 3 ∨ i = 4 ∨ i = 5 ∨ i = 6 ∨ i = 7 ∨ i = 8 ∨ i = 9 ∨ i = 10 ∨ i = 11 ∨ i = 12 := by omega
              clear hi hi3
              rcases hi2 with rfl | rfl | rfl | rfl | rfl | rfl | rfl | rfl | rfl | rfl | rfl | rfl | rfl
              · exact rol_val rfl rfl rfl (by rw [hz]; decide) (ex_move (Or.inl rfl) (eval_slot ((hG.slots 0 (by decide)).trans rfl))) hG.below
              · exact rol_val rfl rfl rfl (by rw [hz]; decide) (ex_move (Or.inl rfl) (eval_slot ((hG.slots 1 (by decide)).trans rfl))) hG.below
              · exact rol_val rfl rfl rfl (by rw [hz]; decide) (ex_move (Or.inl rfl) (eval_slot ((hG.slots 8 (by decide)).trans rfl))) hG.below
              · exact rol_val rfl rfl rfl (by rw [hz]; decide) (ex_index rfl (eval_slot (hF 1 (by decide))) (eval_slot (hF 2 (by decide))) (idx_ch HKN.out)) hG.below
              · exact rol_val rfl rfl rfl (by rw [hz]; decide) (ex_field rfl (eval_slot (hF 3 (by decide))) (by go_simp)) hG.below
              · exact rol_val rfl rfl rfl (by rw [hz]; decide) (ex_load rfl (eval_slot (hF 4 (by decide))) (ld_strT (cell_keep C0.out hG.below))) hG.below
              · refine rol_call rfl rfl rfl (by rw [hz]; decide) (ex_call rfl (by simp [eval_slot (hF 0 (by decide)), eval_slot (hF 5 (by decide))]) e1) (KP.out wx (SU5.out.below hG.below)) ?_ hG.below (Nat.le_trans HNW.out hG.new)
                rintro e w1 ⟨rfl, hb1⟩
                exact ⟨_, rfl, hb1, .inl rfl⟩
              · exact rol_val rfl rfl rfl (by rw [hz]; decide) (ex_move (Or.inl rfl) (eval_slot ((hG.slots 1 (by decide)).trans rfl))) hG.below
              · exact rol_val rfl rfl rfl (by rw [hz]; decide) (ex_move (Or.inl rfl) (eval_slot ((hG.slots 8 (by decide)).trans rfl))) hG.below
              · exact rol_val rfl rfl rfl (by rw [hz]; decide) (ex_index rfl (eval_slot (hF 7 (by decide))) (eval_slot (hF 8 (by decide))) (idx_ch HKN.out)) hG.below
              · exact rol_val rfl rfl rfl (by rw [hz]; decide) (ex_field rfl (eval_slot (hF 9 (by decide))) (by go_simp)) hG.below
              · exact rol_val rfl rfl rfl (by rw [hz]; decide) (ex_load rfl (eval_slot (hF 10 (by decide))) (ld_strT (cell_keep C1.out hG.below))) hG.below
              · exact rol_val rfl rfl rfl (by rw [hz]; decide) (ex_bin rfl (eval_slot (hF 6 (by decide))) (eval_slot (hF 11 (by decide))) (by go_simp) (bin_neL HEQ.out rfl)) hG.below
            · intro a wx who hG hF
              have fv40 : a.tmps.getD 40 undef = .bool false := eval_slot (s := 40) (hF 12 (of_decide_eq_true (by kernel_rfl)) (of_decide_eq_true (by kernel_rfl)))
              have hbx := hG.below
              have hnx := hG.new
              rw [hG.frame]
              simp only [List.foldl_cons, List.foldl_nil, List.setIfInBounds_toArray, List.set_cons_zero, List.set_cons_succ]
              generalize a.tmps.getD 28 undef = u28
              generalize a.tmps.getD 29 undef = u29
              generalize a.tmps.getD 30 undef = u30
              generalize a.tmps.getD 31 undef = u31
              generalize a.tmps.getD 32 undef = u32
              generalize a.tmps.getD 33 undef = u33
              generalize a.tmps.getD 34 undef = u34
              generalize a.tmps.getD 35 undef = u35
              generalize a.tmps.getD 36 undef = u36
              generalize a.tmps.getD 37 undef = u37
              generalize a.tmps.getD 38 undef = u38
              generalize a.tmps.getD 39 undef = u39
              rw [fv40]
              clear hF hG fv40
              have hbr := hbx
              obtain ⟨w6, hw6⟩ : ∃ v, v = wx := ⟨_, rfl⟩
              subst hw6
              have SO6 := Lib.hid (SO.out.below hbr); have HB6 := Lib.hid (below_step HB5.out hbr)
              replace C0 := Lib.hid (cell_keep C0.out hbr); replace C1 := Lib.hid (cell_keep C1.out hbr); replace C2 := Lib.hid (cell_keep C2.out hbr)
              clear hbx hnx hbr SO HB5 HNW SU5
              have hc1 := C1.out
              have hnz1 := nil_beq y1
              obtain ⟨oe1, ho1⟩ : ∃ o, decide (y1 = []) = o := ⟨_, rfl⟩
              rw [ho1] at hnz1
              obtain ⟨oe2, ho2⟩ : ∃ o, decide (y2 = []) = o := ⟨_, rfl⟩
              have HE1 := Lib.hid ho1; have HE2 := Lib.hid ho2
              clear ho1 ho2
              cases oe1 with
              | true =>
                have hO1 : O1 = O := by rw [← HO1.out, if_pos (of_decide_eq_true HE1.out)]
                go_upto_region 13 with fail
                clear hc1 hnz1
                obtain ⟨w7, hw7⟩ : ∃ v, v = w6 := ⟨_, rfl⟩
                subst hw7
                have SO7 : Hid (Nds w7 X O1) := Lib.hid (by rw [hO1]; exact SO6.out)
                have HB7 := HB6
                clear hO1 SO6 HB6
                have HNW := Lib.hid (Nat.le_refl w7.heap.size)
                cases oe2 with
                | true =>
                  have hz2 : y2 = [] := of_decide_eq_true HE2.out
                  have hO2 : O2 = O1 := by rw [HO2.out, if_pos hz2]
                  have SO8 : Hid (Nds w7 X O2) := Lib.hid (by rw [hO2]; exact SO7.out)
                  have hnz := nil_beq y2
                  rw [HE2.out] at hnz
                  have hc2 := C2.out
                  clear hz2 hO2
                  go_wp2
                  go_roundw
                  case rel => exact ⟨j + 1, O2, _, by omega, by go_num, rfl, HOK2, HSM2, HPK2, HLN2, HFT2, HST2, SO8, HB7⟩
                  case measure => simp [intOf]; omega
                | false =>
                  have hnz := nil_beq y2
                  rw [HE2.out] at hnz
                  have hc2 := C2.out
                  have hz2 : ¬ y2 = [] := of_decide_eq_false HE2.out
                  have hO2 : O2 = withN O1 (y0, y2) := by rw [HO2.out, if_neg hz2]
                  have kw := fun w h => refnwitho_any X O1 y0 y2 w h HSO.out HOO.out HSY.out.1 HSY.out.2.2 (HON.out hz2) HLO.out
                  rw [← hO2] at kw
                  obtain ⟨t2, ht2⟩ : ∃ t, O2.length = t := ⟨_, rfl⟩
                  rw [ht2] at kw
                  have KW := Lib.hid kw; have HT2 := Lib.hid ht2
                  clear kw ht2 hz2 hO2
                  go_upto_region 14 with fail
                  clear hnz hc2
                  refine rol_run (by kernel_rfl) [[], [], [], [1, 2], [1, 2, 3], [1, 2, 3, 4], [], [], [6, 7], [6, 7, 8], [6, 7, 8, 9], [1, 2, 3, 4, 5, 6, 7, 8, 9, 10], [0, 1, 2, 3, 4, 5, 6, 7, 8, 9, 10, 11], [0, 1, 2, 3, 4, 5, 6, 7, 8, 9, 10, 11, 12]] (by kernel_rfl) [67, 68, 69, 70, 71, 72, 73, 74, 75, 76, 77, 78, 79, 6] [[14], [], [], [1, 2], [3], [4], [], [], [6, 7], [8], [9], [5, 10], [0, 11], [12]] [0, 0, 0, 0, 0, 0, 0, 0, 0, 0, 0, 0, 1, 1, 0] [0, 0, 0, 0, 0, 0, 0, 0, 0, 0, 0, 0, 1, 0] [1000, 1000, 1000, 1000, 1000, 1000, 1000, 1000, 1000, 1000, 1000, 1000, 1000, 1000, 13] [.val 67 (X), .val 68 (.slice (some ⟨bl, off, none⟩) m d'), .val 69 (.int .i64 (j : Int)), .val 70 (.pointer (some ⟨bl, off + j * 3, none⟩)), .val 71 (.pointer (some ⟨bl, off + j * 3, none⟩)), .val 72 (.string (mkB y0)), .val 73 (.slice (some ⟨bl, off, none⟩) m d'), .val 74 (.int .i64 (j : Int)), .val 75 (.pointer (some ⟨bl, off + j * 3, none⟩)), .val 76 (.pointer (some ⟨bl, off + j * 3 + 2, none⟩)), .val 77 (.string (mkB y2)), .val 78 (.agg #[.string (mkB y0), .string (mkB y2)]), .mem 79 (rowG w7.heap.size 55 2 t2 (ndsC O2)), .mem 6 (rowG w7.heap.size 55 2 t2 (ndsC O2)), .val 6 X] (by kernel_rfl) ?_ (w7.heap.size) (w7.heap.size) rfl (Below.refl _ _) rfl (fun _ => 0) ?_ ?_ ?_
                  · intro j hj
                    have hj3 : j < 15 := hj
                    have hj2 : j = 0 ∨ j = 1 ∨ j = 2 ∨ j = 3 ∨ j = 4 ∨ j = 5 ∨ j = 6 ∨ j = 7 ∨ j = 8 ∨ j = 9 ∨ j = 10 ∨ j = 11 ∨ j = 12 ∨ j = 13 ∨ j = 14 := by omega
                    clear hj hj3
                    rcases hj2 with rfl | rfl | rfl | rfl | rfl | rfl | rfl | rfl | rfl | rfl | rfl | rfl | rfl | rfl | rfl
                    · exact trivial
                    · exact trivial
                    · exact trivial
                    · exact trivial
                    · exact trivial
                    · exact trivial
                    · exact trivial
                    · exact trivial
                    · exact trivial
                    · exact trivial
                    · exact trivial
                    · exact trivial
                    · exact rowG_near
                    · exact rowG_near
                    · exact trivial
                  · intro j hj0 hj
                    have hj1 : 14 ≤ j := hj0
                    have hj3 : j < 15 := hj
                    have hj2 : j = 14 := by omega
                    clear hj0 hj hj1 hj3
                    rcases hj2 with rfl
                    · exact rfl
                  · intro i hi a wx who hG hF
                    have hz : a.tmps.size = 81 := hG.size
                    have hi3 : i < 14 := hi
                    have hi2 : i = 0 ∨ i = 1 ∨ i = 2 ∨ i = 3 ∨ i = 4 ∨ i = 5 ∨ i = 6 ∨ i = 7 ∨ i = 8 ∨ i = 9 ∨ i = 10 ∨ i = 11 ∨ i = 12 ∨ i = 13 := by omega
                    clear hi hi3
                    rcases hi2 with rfl | rfl | rfl | rfl | rfl | rfl | rfl | rfl | rfl | rfl | rfl | rfl | rfl | rfl
                    · exact rol_val rfl rfl rfl (by rw [hz]; decide) (ex_move (Or.inl rfl) (eval_slot (hF 14 (by decide)))) hG.below
                    · exact rol_val rfl rfl rfl (by rw [hz]; decide) (ex_move (Or.inl rfl) (eval_slot ((hG.slots 1 (by decide)).trans rfl))) hG.below
                    · exact rol_val rfl rfl rfl (by rw [hz]; decide) (ex_move (Or.inl rfl) (eval_slot ((hG.slots 8 (by decide)).trans rfl))) hG.below
                    · exact rol_val rfl rfl rfl (by rw [hz]; decide) (ex_index rfl (eval_slot (hF 1 (by decide))) (eval_slot (hF 2 (by decide))) (idx_ch HKN.out)) hG.below
                    · exact rol_val rfl rfl rfl (by rw [hz]; decide) (ex_field rfl (eval_slot (hF 3 (by decide))) (by go_simp)) hG.below
                    · exact rol_val rfl rfl rfl (by rw [hz]; decide) (ex_load rfl (eval_slot (hF 4 (by decide))) (ld_strT (cell_keep C0.out hG.below))) hG.below
                    · exact rol_val rfl rfl rfl (by rw [hz]; decide) (ex_move (Or.inl rfl) (eval_slot ((hG.slots 1 (by decide)).trans rfl))) hG.below
                    · exact rol_val rfl rfl rfl (by rw [hz]; decide) (ex_move (Or.inl rfl) (eval_slot ((hG.slots 8 (by decide)).trans rfl))) hG.below
                    · exact rol_val rfl rfl rfl (by rw [hz]; decide) (ex_index rfl (eval_slot (hF 6 (by decide))) (eval_slot (hF 7 (by decide))) (idx_ch HKN.out)) hG.below
                    · exact rol_val rfl rfl rfl (by rw [hz]; decide) (ex_field rfl (eval_slot (hF 8 (by decide))) (by go_simp)) hG.below
                    · exact rol_val rfl rfl rfl (by rw [hz]; decide) (ex_load rfl (eval_slot (hF 9 (by decide))) (ld_strT (cell_keep C2.out hG.below))) hG.below
                    · exact rol_val rfl rfl rfl (by rw [hz]; decide) (ex_build rfl (vs := #[(0, .string (mkB y0)), (1, .string (mkB y2))]) (by simp only [List.map_toArray, List.map_cons, List.map_nil, eval_slot (hF 5 (by decide)), eval_slot (hF 10 (by decide))]) build_ndT) hG.below
                    · refine rol_call rfl rfl rfl (by rw [hz]; decide) (ex_call rfl (by simp [eval_slot (hF 0 (by decide)), eval_slot (hF 11 (by decide))]) e3) (KW.out wx (SO7.out.below hG.below)) ?_ hG.below (Nat.le_trans HNW.out hG.new)
                      rintro e w1 ⟨v1, rfl, hr1, hb1⟩
                      exact ⟨v1, rfl, hb1, .inr ⟨_, v1.ownBlock, rfl, fun b e => ⟨(own_lt hr1 e).1, (own_lt hr1 e).2⟩, row_base hr1 (Nat.le_trans HNW.out hG.new), rfl⟩⟩
                    · exact rol_move rfl rfl rfl (by rw [hz]; decide) (Or.inr rfl) (hF 12 (by decide)) hG.below
                  · intro a wx who hG hF
                    obtain ⟨v6, ob6, fv6, fo6, fp6⟩ := hF 13 (of_decide_eq_true (by kernel_rfl)) (of_decide_eq_true (by kernel_rfl))
                    replace fv6 : a.tmps.getD 6 undef = v6 := eval_slot (s := 6) fv6
                    have hbx := hG.below
                    have hnx := hG.new
                    rw [hG.frame]
                    simp only [List.foldl_cons, List.foldl_nil, List.setIfInBounds_toArray, List.set_cons_zero, List.set_cons_succ]
                    generalize a.tmps.getD 67 undef = u67
                    generalize a.tmps.getD 68 undef = u68
                    generalize a.tmps.getD 69 undef = u69
                    generalize a.tmps.getD 70 undef = u70
                    generalize a.tmps.getD 71 undef = u71
                    generalize a.tmps.getD 72 undef = u72
                    generalize a.tmps.getD 73 undef = u73
                    generalize a.tmps.getD 74 undef = u74
                    generalize a.tmps.getD 75 undef = u75
                    generalize a.tmps.getD 76 undef = u76
                    generalize a.tmps.getD 77 undef = u77
                    generalize a.tmps.getD 78 undef = u78
                    generalize a.tmps.getD 79 undef = u79
                    rw [fv6]
                    clear hF hG fv6
                    have SO8 : Hid (Nds wx v6 O2) := Lib.hid (Nds.owned (by rw [HT2.out]; exact fp6.1))
                    replace HB7 := Lib.hid (below_step HB7.out hbx)
                    clear fo6 fp6 hbx hnx
                    go_wp2
                    go_roundw
                    case rel => exact ⟨j + 1, O2, _, by omega, by go_num, rfl, HOK2, HSM2, HPK2, HLN2, HFT2, HST2, SO8, HB7⟩
                    case measure => simp [intOf]; omega
              | false =>
                have km := fun w V h h' => refnminuso_any X V O [(y0, y1)] w h h' HLO0.out
                have hO1 : minusN O [(y0, y1)] = O1 := by rw [← HO1.out, if_neg (of_decide_eq_false HE1.out)]
                rw [hO1] at km
                obtain ⟨t1, ht1⟩ : ∃ t, O1.length = t := ⟨_, rfl⟩
                rw [ht1] at km
                have KM := Lib.hid km; have HT1 := Lib.hid ht1; have HNW := Lib.hid (Nat.le_refl w6.heap.size)
                clear km ht1 hO1
                go_upto_region 12 with fail
                clear hc1 hnz1
                refine rol_run (by kernel_rfl) [[], [], [], [1, 2], [1, 2, 3], [1, 2, 3, 4], [], [], [6, 7], [6, 7, 8], [6, 7, 8, 9], [1, 2, 3, 4, 5, 6, 7, 8, 9, 10], [1, 2, 3, 4, 5, 6, 7, 8, 9, 10, 11], [0, 1, 2, 3, 4, 5, 6, 7, 8, 9, 10, 11, 12], [0, 1, 2, 3, 4, 5, 6, 7, 8, 9, 10, 11, 12, 13]] (by kernel_rfl) [47, 48, 49, 50, 51, 52, 53, 54, 55, 56, 57, 58, 59, 60, 6] [[15], [], [], [1, 2], [3], [4], [], [], [6, 7], [8], [9], [5, 10], [11], [0, 12], [13]] [0, 0, 0, 0, 0, 0, 0, 0, 0, 0, 0, 0, 2, 1, 1, 0] [0, 0, 0, 0, 0, 0, 0, 0, 0, 0, 0, 0, 0, 1, 0] [1000, 1000, 1000, 1000, 1000, 1000, 1000, 1000, 1000, 1000, 1000, 1000, 1000, 1000, 1000, 14] [.val 47 (X), .val 48 (.slice (some ⟨bl, off, none⟩) m d'), .val 49 (.int .i64 (j : Int)), .val 50 (.pointer (some ⟨bl, off + j * 3, none⟩)), .val 51 (.pointer (some ⟨bl, off + j * 3, none⟩)), .val 52 (.string (mkB y0)), .val 53 (.slice (some ⟨bl, off, none⟩) m d'), .val 54 (.int .i64 (j : Int)), .val 55 (.pointer (some ⟨bl, off + j * 3, none⟩)), .val 56 (.pointer (some ⟨bl, off + j * 3 + 1, none⟩)), .val 57 (.string (mkB y1)), .val 58 (.agg #[.string (mkB y0), .string (mkB y1)]), .mem 59 (blkG 55 #[.string (mkB y0), .string (mkB y1)] 1), .mem 60 (rowG w6.heap.size 55 2 t1 (ndsC O1)), .mem 6 (rowG w6.heap.size 55 2 t1 (ndsC O1)), .val 6 X] (by kernel_rfl) ?_ (w6.heap.size) (w6.heap.size) rfl (Below.refl _ _) rfl (fun _ => 0) ?_ ?_ ?_
                · intro j hj
                  have hj3 : j < 16 := hj
                  have hj2 : j = 0 ∨ j = 1 ∨ j = 2 ∨ j = 3 ∨ j = 4 ∨ j = 5 ∨ j = 6 ∨ j = 7 ∨ j = 8 ∨ j = 9 ∨ j = 10 ∨ j = 11 ∨ j = 12 ∨ j = 13 ∨ j = 14 ∨ j = 15 := by omega
                  clear hj hj3
                  rcases hj2 with rfl | rfl | rfl | rfl | rfl | rfl | rfl | rfl | rfl | rfl | rfl | rfl | rfl | rfl | rfl | rfl
                  · exact trivial
                  · exact trivial
                  · exact trivial
                  · exact trivial
                  · exact trivial
                  · exact trivial
                  · exact trivial
                  · exact trivial
                  · exact trivial
                  · exact trivial
                  · exact trivial
                  · exact trivial
                  · exact blkG_near
                  · exact rowG_near
                  · exact rowG_near
                  · exact trivial
                · intro j hj0 hj
                  have hj1 : 15 ≤ j := hj0
                  have hj3 : j < 16 := hj
                  have hj2 : j = 15 := by omega
                  clear hj0 hj hj1 hj3
                  rcases hj2 with rfl
                  · exact rfl
                · intro i hi a wx who hG hF
                  have hz : a.tmps.size = 81 := hG.size
                  have hi3 : i < 15 := hi
                  have hi2 : i = 0 ∨ i = 1 ∨ i = 2 ∨ i = 3 ∨ i = 4 ∨ i = 5 ∨ i = 6 ∨ i = 7 ∨ i = 8 ∨ i = 9 ∨ i = 10 ∨ i = 11 ∨ i = 12 ∨ i = 13 ∨ i = 14 := by omega
                  clear hi hi3
                  rcases hi2 with rfl | rfl | rfl | rfl | rfl | rfl | rfl | rfl | rfl | rfl | rfl | rfl | rfl | rfl | rfl
                  · exact rol_val rfl rfl rfl (by rw [hz]; decide) (ex_move (Or.inl rfl) (eval_slot (hF 15 (by decide)))) hG.below
                  · exact rol_val rfl rfl rfl (by rw [hz]; decide) (ex_move (Or.inl rfl) (eval_slot ((hG.slots 1 (by decide)).trans rfl))) hG.below
                  · exact rol_val rfl rfl rfl (by rw [hz]; decide) (ex_move (Or.inl rfl) (eval_slot ((hG.slots 8 (by decide)).trans rfl))) hG.below
                  · exact rol_val rfl rfl rfl (by rw [hz]; decide) (ex_index rfl (eval_slot (hF 1 (by decide))) (eval_slot (hF 2 (by decide))) (idx_ch HKN.out)) hG.below
                  · exact rol_val rfl rfl rfl (by rw [hz]; decide) (ex_field rfl (eval_slot (hF 3 (by decide))) (by go_simp)) hG.below
                  · exact rol_val rfl rfl rfl (by rw [hz]; decide) (ex_load rfl (eval_slot (hF 4 (by decide))) (ld_strT (cell_keep C0.out hG.below))) hG.below
                  · exact rol_val rfl rfl rfl (by rw [hz]; decide) (ex_move (Or.inl rfl) (eval_slot ((hG.slots 1 (by decide)).trans rfl))) hG.below
                  · exact rol_val rfl rfl rfl (by rw [hz]; decide) (ex_move (Or.inl rfl) (eval_slot ((hG.slots 8 (by decide)).trans rfl))) hG.below
                  · exact rol_val rfl rfl rfl (by rw [hz]; decide) (ex_index rfl (eval_slot (hF 6 (by decide))) (eval_slot (hF 7 (by decide))) (idx_ch HKN.out)) hG.below
                  · exact rol_val rfl rfl rfl (by rw [hz]; decide) (ex_field rfl (eval_slot (hF 8 (by decide))) (by go_simp)) hG.below
                  · exact rol_val rfl rfl rfl (by rw [hz]; decide) (ex_load rfl (eval_slot (hF 9 (by decide))) (ld_strT (cell_keep C1.out hG.below))) hG.below
                  · exact rol_val rfl rfl rfl (by rw [hz]; decide) (ex_build rfl (vs := #[(0, .string (mkB y0)), (1, .string (mkB y1))]) (by simp only [List.map_toArray, List.map_cons, List.map_nil, eval_slot (hF 5 (by decide)), eval_slot (hF 10 (by decide))]) build_ndT) hG.below
                  · exact rol_newO rfl rfl rfl (by rw [hz]; decide) (x := .cells #[.string (mkB y0), .string (mkB y1)] 55) (v := .slice (some ⟨wx.heap.size, 0, none⟩) 1 1) (ex_slice rfl (vs := #[(0, .agg #[.string (mkB y0), .string (mkB y1)])]) (by simp only [List.map_toArray, List.map_cons, List.map_nil, eval_slot (hF 11 (by decide))]) (by go_simp)) ⟨_, rfl, rfl, heap_alloc_new _ _⟩ hG.below (Nat.le_trans HNW.out hG.new)
                  · obtain ⟨v2, ob2, hv2, ho2, b2, rfl, rfl, hh⟩ := hF 12 (by decide)
                    refine rol_call rfl rfl rfl (by rw [hz]; decide) (ex_call rfl (by simp [eval_slot (hF 0 (by decide)), eval_slot hv2]) e2) (KM.out wx _ (SO6.out.below hG.below) (blk_nds hh)) ?_ hG.below (Nat.le_trans HNW.out hG.new)
                    rintro e w1 ⟨v1, rfl, hr1, hb1⟩
                    exact ⟨v1, rfl, hb1, .inr ⟨_, v1.ownBlock, rfl, fun b e => ⟨(own_lt hr1 e).1, (own_lt hr1 e).2⟩, row_base hr1 (Nat.le_trans HNW.out hG.new), rfl⟩⟩
                  · exact rol_move rfl rfl rfl (by rw [hz]; decide) (Or.inr rfl) (hF 13 (by decide)) hG.below
                · intro a wx who hG hF
                  obtain ⟨v6, ob6, fv6, fo6, fp6⟩ := hF 14 (of_decide_eq_true (by kernel_rfl)) (of_decide_eq_true (by kernel_rfl))
                  replace fv6 : a.tmps.getD 6 undef = v6 := eval_slot (s := 6) fv6
                  have hbx := hG.below
                  have hnx := hG.new
                  rw [hG.frame]
                  simp only [List.foldl_cons, List.foldl_nil, List.setIfInBounds_toArray, List.set_cons_zero, List.set_cons_succ]
                  generalize a.tmps.getD 47 undef = u47
                  generalize a.tmps.getD 48 undef = u48
                  generalize a.tmps.getD 49 undef = u49
                  generalize a.tmps.getD 50 undef = u50
                  generalize a.tmps.getD 51 undef = u51
                  generalize a.tmps.getD 52 undef = u52
                  generalize a.tmps.getD 53 undef = u53
                  generalize a.tmps.getD 54 undef = u54
                  generalize a.tmps.getD 55 undef = u55
                  generalize a.tmps.getD 56 undef = u56
                  generalize a.tmps.getD 57 undef = u57
                  generalize a.tmps.getD 58 undef = u58
                  generalize a.tmps.getD 59 undef = u59
                  generalize a.tmps.getD 60 undef = u60
                  rw [fv6]
                  clear hF hG fv6
                  have hbr := hbx
                  have SO7 : Hid (Nds wx v6 O1) := Lib.hid (Nds.owned (by rw [HT1.out]; exact fp6.1))
                  obtain ⟨w7, hw7⟩ : ∃ v, v = wx := ⟨_, rfl⟩
                  subst hw7
                  have HB7 := Lib.hid (below_step HB6.out hbr)
                  replace C0 := Lib.hid (cell_keep C0.out hbr); replace C1 := Lib.hid (cell_keep C1.out hbr); replace C2 := Lib.hid (cell_keep C2.out hbr)
                  obtain ⟨X1, hX1⟩ : ∃ x, v6 = x := ⟨_, rfl⟩
                  rw [hX1] at SO7 ⊢
                  clear fo6 fp6 hbx hnx hbr SO6 HB6 HNW hX1 v6
                  go_upto_region 13 with fail
                  have HNW := Lib.hid (Nat.le_refl w7.heap.size)
                  cases oe2 with
                  | true =>
                    have hz2 : y2 = [] := of_decide_eq_true HE2.out
                    have hO2 : O2 = O1 := by rw [HO2.out, if_pos hz2]
                    have SO8 : Hid (Nds w7 X1 O2) := Lib.hid (by rw [hO2]; exact SO7.out)
                    have hnz := nil_beq y2
                    rw [HE2.out] at hnz
                    have hc2 := C2.out
                    clear hz2 hO2
                    go_wp2
                    go_roundw
                    case rel => exact ⟨j + 1, O2, _, by omega, by go_num, rfl, HOK2, HSM2, HPK2, HLN2, HFT2, HST2, SO8, HB7⟩
                    case measure => simp [intOf]; omega
                  | false =>
                    have hnz := nil_beq y2
                    rw [HE2.out] at hnz
                    have hc2 := C2.out
                    have hz2 : ¬ y2 = [] := of_decide_eq_false HE2.out
                    have hO2 : O2 = withN O1 (y0, y2) := by rw [HO2.out, if_neg hz2]
                    have kw := fun w h => refnwitho_any X1 O1 y0 y2 w h HSO.out HOO.out HSY.out.1 HSY.out.2.2 (HON.out hz2) HLO.out
                    rw [← hO2] at kw
                    obtain ⟨t2, ht2⟩ : ∃ t, O2.length = t := ⟨_, rfl⟩
                    rw [ht2] at kw
                    have KW := Lib.hid kw; have HT2 := Lib.hid ht2
                    clear kw ht2 hz2 hO2
                    go_upto_region 14 with fail
                    clear hnz hc2
                    refine rol_run (by kernel_rfl) [[], [], [], [1, 2], [1, 2, 3], [1, 2, 3, 4], [], [], [6, 7], [6, 7, 8], [6, 7, 8, 9], [1, 2, 3, 4, 5, 6, 7, 8, 9, 10], [0, 1, 2, 3, 4, 5, 6, 7, 8, 9, 10, 11], [0, 1, 2, 3, 4, 5, 6, 7, 8, 9, 10, 11, 12]] (by kernel_rfl) [67, 68, 69, 70, 71, 72, 73, 74, 75, 76, 77, 78, 79, 6] [[14], [], [], [1, 2], [3], [4], [], [], [6, 7], [8], [9], [5, 10], [0, 11], [12]] [0, 0, 0, 0, 0, 0, 0, 0, 0, 0, 0, 0, 1, 1, 0] [0, 0, 0, 0, 0, 0, 0, 0, 0, 0, 0, 0, 1, 0] [1000, 1000, 1000, 1000, 1000, 1000, 1000, 1000, 1000, 1000, 1000, 1000, 1000, 1000, 13] [.val 67 (X1), .val 68 (.slice (some ⟨bl, off, none⟩) m d'), .val 69 (.int .i64 (j : Int)), .val 70 (.pointer (some ⟨bl, off + j * 3, none⟩)), .val 71 (.pointer (some ⟨bl, off + j * 3, none⟩)), .val 72 (.string (mkB y0)), .val 73 (.slice (some ⟨bl, off, none⟩) m d'), .val 74 (.int .i64 (j : Int)), .val 75 (.pointer (some ⟨bl, off + j * 3, none⟩)), .val 76 (.pointer (some ⟨bl, off + j * 3 + 2, none⟩)), .val 77 (.string (mkB y2)), .val 78 (.agg #[.string (mkB y0), .string (mkB y2)]), .mem 79 (rowG w7.heap.size 55 2 t2 (ndsC O2)), .mem 6 (rowG w7.heap.size 55 2 t2 (ndsC O2)), .val 6 X1] (by kernel_rfl) ?_ (w7.heap.size) (w7.heap.size) rfl (Below.refl _ _) rfl (fun _ => 0) ?_ ?_ ?_
                    · intro j hj
                      have hj3 : j < 15 := hj
                      have hj2 : j = 0 ∨ j = 1 ∨ j = 2 ∨ j = 3 ∨ j = 4 ∨ j = 5 ∨ j = 6 ∨ j = 7 ∨ j = 8 ∨ j = 9 ∨ j = 10 ∨ j = 11 ∨ j = 12 ∨ j = 13 ∨ j = 14 := by omega
                      clear hj hj3
                      rcases hj2 with rfl | rfl | rfl | rfl | rfl | rfl | rfl | rfl | rfl | rfl | rfl | rfl | rfl | rfl | rfl
                      · exact trivial
                      · exact trivial
                      · exact trivial
                      · exact trivial
                      · exact trivial
                      · exact trivial
                      · exact trivial
                      · exact trivial
                      · exact trivial
                      · exact trivial
                      · exact trivial
                      · exact trivial
                      · exact rowG_near
                      · exact rowG_near
                      · exact trivial
                    · intro j hj0 hj
                      have hj1 : 14 ≤ j := hj0
                      have hj3 : j < 15 := hj
                      have hj2 : j = 14 := by omega
                      clear hj0 hj hj1 hj3
                      rcases hj2 with rfl
                      · exact rfl
                    · intro i hi a wx who hG hF
                      have hz : a.tmps.size = 81 := hG.size
                      have hi3 : i < 14 := hi
                      have hi2 : i = 0 ∨ i = 1 ∨ i = 2 ∨ i = 3 ∨ i = 4 ∨ i = 5 ∨ i = 6 ∨ i = 7 ∨ i = 8 ∨ i = 9 ∨ i = 10 ∨ i = 11 ∨ i = 12 ∨ i = 13 := by omega
                      clear hi hi3
                      rcases hi2 with rfl | rfl | rfl | rfl | rfl | rfl | rfl | rfl | rfl | rfl | rfl | rfl | rfl | rfl
                      · exact rol_val rfl rfl rfl (by rw [hz]; decide) (ex_move (Or.inl rfl) (eval_slot (hF 14 (by decide)))) hG.below
                      · exact rol_val rfl rfl rfl (by rw [hz]; decide) (ex_move (Or.inl rfl) (eval_slot ((hG.slots 1 (by decide)).trans rfl))) hG.below
                      · exact rol_val rfl rfl rfl (by rw [hz]; decide) (ex_move (Or.inl rfl) (eval_slot ((hG.slots 8 (by decide)).trans rfl))) hG.below
                      · exact rol_val rfl rfl rfl (by rw [hz]; decide) (ex_index rfl (eval_slot (hF 1 (by decide))) (eval_slot (hF 2 (by decide))) (idx_ch HKN.out)) hG.below
                      · exact rol_val rfl rfl rfl (by rw [hz]; decide) (ex_field rfl (eval_slot (hF 3 (by decide))) (by go_simp)) hG.below
                      · exact rol_val rfl rfl rfl (by rw [hz]; decide) (ex_load rfl (eval_slot (hF 4 (by decide))) (ld_strT (cell_keep C0.out hG.below))) hG.below
                      · exact rol_val rfl rfl rfl (by rw [hz]; decide) (ex_move (Or.inl rfl) (eval_slot ((hG.slots 1 (by decide)).trans rfl))) hG.below
                      · exact rol_val rfl rfl rfl (by rw [hz]; decide) (ex_move (Or.inl rfl) (eval_slot ((hG.slots 8 (by decide)).trans rfl))) hG.below
                      · exact rol_val rfl rfl rfl (by rw [hz]; decide) (ex_index rfl (eval_slot (hF 6 (by decide))) (eval_slot (hF 7 (by decide))) (idx_ch HKN.out)) hG.below
                      · exact rol_val rfl rfl rfl (by rw [hz]; decide) (ex_field rfl (eval_slot (hF 8 (by decide))) (by go_simp)) hG.below
                      · exact rol_val rfl rfl rfl (by rw [hz]; decide) (ex_load rfl (eval_slot (hF 9 (by decide))) (ld_strT (cell_keep C2.out hG.below))) hG.below
                      · exact rol_val rfl rfl rfl (by rw [hz]; decide) (ex_build rfl (vs := #[(0, .string (mkB y0)), (1, .string (mkB y2))]) (by simp only [List.map_toArray, List.map_cons, List.map_nil, eval_slot (hF 5 (by decide)), eval_slot (hF 10 (by decide))]) build_ndT) hG.below
                      · refine rol_call rfl rfl rfl (by rw [hz]; decide) (ex_call rfl (by simp [eval_slot (hF 0 (by decide)), eval_slot (hF 11 (by decide))]) e3) (KW.out wx (SO7.out.below hG.below)) ?_ hG.below (Nat.le_trans HNW.out hG.new)
                        rintro e w1 ⟨v1, rfl, hr1, hb1⟩
                        exact ⟨v1, rfl, hb1, .inr ⟨_, v1.ownBlock, rfl, fun b e => ⟨(own_lt hr1 e).1, (own_lt hr1 e).2⟩, row_base hr1 (Nat.le_trans HNW.out hG.new), rfl⟩⟩
                      · exact rol_move rfl rfl rfl (by rw [hz]; decide) (Or.inr rfl) (hF 12 (by decide)) hG.below
                    · intro a wx who hG hF
                      obtain ⟨v6, ob6, fv6, fo6, fp6⟩ := hF 13 (of_decide_eq_true (by kernel_rfl)) (of_decide_eq_true (by kernel_rfl))
                      replace fv6 : a.tmps.getD 6 undef = v6 := eval_slot (s := 6) fv6
                      have hbx := hG.below
                      have hnx := hG.new
                      rw [hG.frame]
                      simp only [List.foldl_cons, List.foldl_nil, List.setIfInBounds_toArray, List.set_cons_zero, List.set_cons_succ]
                      generalize a.tmps.getD 67 undef = u67
                      generalize a.tmps.getD 68 undef = u68
                      generalize a.tmps.getD 69 undef = u69
                      generalize a.tmps.getD 70 undef = u70
                      generalize a.tmps.getD 71 undef = u71
                      generalize a.tmps.getD 72 undef = u72
                      generalize a.tmps.getD 73 undef = u73
                      generalize a.tmps.getD 74 undef = u74
                      generalize a.tmps.getD 75 undef = u75
                      generalize a.tmps.getD 76 undef = u76
                      generalize a.tmps.getD 77 undef = u77
                      generalize a.tmps.getD 78 undef = u78
                      generalize a.tmps.getD 79 undef = u79
                      rw [fv6]
                      clear hF hG fv6
                      have SO8 : Hid (Nds wx v6 O2) := Lib.hid (Nds.owned (by rw [HT2.out]; exact fp6.1))
                      replace HB7 := Lib.hid (below_step HB7.out hbx)
                      clear fo6 fp6 hbx hnx
                      go_wp2
                      go_roundw
                      case rel => exact ⟨j + 1, O2, _, by omega, by go_num, rfl, HOK2, HSM2, HPK2, HLN2, HFT2, HST2, SO8, HB7⟩
                      case measure => simp [intOf]; omega
          · have HEQ := Lib.hid (show decide (z = y1) = false by simp [hz])
            have HE := Lib.hid (HEN.out (HNO.out (by rw [HZ.out]; exact hz)))
            clear hz
            refine rol_run (by kernel_rfl) [[], [], [], [1, 2], [1, 2, 3], [1, 2, 3, 4], [0, 1, 2, 3, 4, 5], [], [], [7, 8], [7, 8, 9], [7, 8, 9, 10], [0, 1, 2, 3, 4, 5, 6, 7, 8, 9, 10, 11]] (by kernel_rfl) [28, 29, 30, 31, 32, 33, 34, 35, 36, 37, 38, 39, 40] [[], [], [], [1, 2], [3], [4], [0, 5], [], [], [7, 8], [9], [10], [6, 11]] [0, 0, 0, 0, 0, 0, 0, 0, 0, 0, 0, 0, 0] [0, 0, 0, 0, 0, 0, 0, 0, 0, 0, 0, 0, 0] [1000, 1000, 1000, 1000, 1000, 1000, 1000, 1000, 1000, 1000, 1000, 1000, 1000] [.val 28 (.slice A k d), .val 29 (.slice (some ⟨bl, off, none⟩) m d'), .val 30 (.int .i64 (j : Int)), .val 31 (.pointer (some ⟨bl, off + j * 3, none⟩)), .val 32 (.pointer (some ⟨bl, off + j * 3, none⟩)), .val 33 (.string (mkB y0)), .val 34 (.string (mkB z)), .val 35 (.slice (some ⟨bl, off, none⟩) m d'), .val 36 (.int .i64 (j : Int)), .val 37 (.pointer (some ⟨bl, off + j * 3, none⟩)), .val 38 (.pointer (some ⟨bl, off + j * 3 + 1, none⟩)), .val 39 (.string (mkB y1)), .val 40 (.bool true)] (by kernel_rfl) ?_ (w5.heap.size) (w5.heap.size) rfl (Below.refl _ _) rfl (fun _ => 0) ?_ ?_ ?_
            · intro j hj
              have hj3 : j < 13 := hj
              have hj2 : j = 0 ∨ j = 1 ∨ j = 2 ∨ j = 3 ∨ j = 4 ∨ j = 5 ∨ j = 6 ∨ j = 7 ∨ j = 8 ∨ j = 9 ∨ j = 10 ∨ j = 11 ∨ j = 12 := by omega
              clear hj hj3
              rcases hj2 with rfl | rfl | rfl | rfl | rfl | rfl | rfl | rfl | rfl | rfl | rfl | rfl | rfl
              · exact trivial
              · exact trivial
              · exact trivial
              · exact trivial
              · exact trivial
              · exact trivial
              · exact trivial
              · exact trivial
              · exact trivial
              · exact trivial
              · exact trivial
              · exact trivial
              · exact trivial
            · intro j hj0 hj
              exact absurd hj (Nat.not_lt.2 hj0)
            · intro i hi a wx who hG hF
              have hz : a.tmps.size = 81 := hG.size
              have hi3 : i < 13 := hi
              have hi2 : i = 0 ∨ i = 1 ∨ i = 2 ∨ i = 3 ∨ i = 4 ∨ i = 5 ∨ i = 6 ∨ i = 7 ∨ i = 8 ∨ i = 9 ∨ i = 10 ∨ i = 11 ∨ i = 12 := by omega
              clear hi hi3
              rcases hi2 with rfl | rfl | rfl | rfl | rfl | rfl | rfl | rfl | rfl | rfl | rfl | rfl | rfl
              · exact rol_val rfl rfl rfl (by rw [hz]; decide) (ex_move (Or.inl rfl) (eval_slot ((hG.slots 0 (by decide)).trans rfl))) hG.below
              · exact rol_val rfl rfl rfl (by rw [hz]; decide) (ex_move (Or.inl rfl) (eval_slot ((hG.slots 1 (by decide)).trans rfl))) hG.below
              · exact rol_val rfl rfl rfl (by rw [hz]; decide) (ex_move (Or.inl rfl) (eval_slot ((hG.slots 8 (by decide)).trans rfl))) hG.below
              · exact rol_val rfl rfl rfl (by rw [hz]; decide) (ex_index rfl (eval_slot (hF 1 (by decide))) (eval_slot (hF 2 (by decide))) (idx_ch HKN.out)) hG.below
              · exact rol_val rfl rfl rfl (by rw [hz]; decide) (ex_field rfl (eval_slot (hF 3 (by decide))) (by go_simp)) hG.below
              · exact rol_val rfl rfl rfl (by rw [hz]; decide) (ex_load rfl (eval_slot (hF 4 (by decide))) (ld_strT (cell_keep C0.out hG.below))) hG.below
              · refine rol_call rfl rfl rfl (by rw [hz]; decide) (ex_call rfl (by simp [eval_slot (hF 0 (by decide)), eval_slot (hF 5 (by decide))]) e1) (KP.out wx (SU5.out.below hG.below)) ?_ hG.below (Nat.le_trans HNW.out hG.new)
                rintro e w1 ⟨rfl, hb1⟩
                exact ⟨_, rfl, hb1, .inl rfl⟩
              · exact rol_val rfl rfl rfl (by rw [hz]; decide) (ex_move (Or.inl rfl) (eval_slot ((hG.slots 1 (by decide)).trans rfl))) hG.below
              · exact rol_val rfl rfl rfl (by rw [hz]; decide) (ex_move (Or.inl rfl) (eval_slot ((hG.slots 8 (by decide)).trans rfl))) hG.below
              · exact rol_val rfl rfl rfl (by rw [hz]; decide) (ex_index rfl (eval_slot (hF 7 (by decide))) (eval_slot (hF 8 (by decide))) (idx_ch HKN.out)) hG.below
              · exact rol_val rfl rfl rfl (by rw [hz]; decide) (ex_field rfl (eval_slot (hF 9 (by decide))) (by go_simp)) hG.below
              · exact rol_val rfl rfl rfl (by rw [hz]; decide) (ex_load rfl (eval_slot (hF 10 (by decide))) (ld_strT (cell_keep C1.out hG.below))) hG.below
              · exact rol_val rfl rfl rfl (by rw [hz]; decide) (ex_bin rfl (eval_slot (hF 6 (by decide))) (eval_slot (hF 11 (by decide))) (by go_simp) (bin_neL HEQ.out rfl)) hG.below
            · intro a wx who hG hF
              have fv40 : a.tmps.getD 40 undef = .bool true := eval_slot (s := 40) (hF 12 (of_decide_eq_true (by kernel_rfl)) (of_decide_eq_true (by kernel_rfl)))
              have hbx := hG.below
              have hnx := hG.new
              rw [hG.frame]
              simp only [List.foldl_cons, List.foldl_nil, List.setIfInBounds_toArray, List.set_cons_zero, List.set_cons_succ]
              generalize a.tmps.getD 28 undef = u28
              generalize a.tmps.getD 29 undef = u29
              generalize a.tmps.getD 30 undef = u30
              generalize a.tmps.getD 31 undef = u31
              generalize a.tmps.getD 32 undef = u32
              generalize a.tmps.getD 33 undef = u33
              generalize a.tmps.getD 34 undef = u34
              generalize a.tmps.getD 35 undef = u35
              generalize a.tmps.getD 36 undef = u36
              generalize a.tmps.getD 37 undef = u37
              generalize a.tmps.getD 38 undef = u38
              generalize a.tmps.getD 39 undef = u39
              rw [fv40]
              clear hF hG fv40
              have HB6 := Lib.hid (below_step HB5.out hbx)
              clear hbx hnx
              go_wp2
              go_ret2
              exact ⟨_, (by rw [HE.out.2]; try rfl), by rw [HE.out.1]; exact nds_none _, below_step B.out HB6.out⟩
        · have e : j = m := by omega
          subst e
          have hct : c.take j = c := List.take_of_length_le (by rw [HM.out]; exact Nat.le_refl _)
          have hfit : fitsL l c = true := fitsL_iff.2 fun x hx => by
            obtain ⟨i, hi, rfl⟩ := List.getElem_of_mem hx
            have := HFT.out i (by rw [← HM.out]; exact hi)
            rwa [gd_at hi] at this
          have hO := HST.out
          rw [hct, ← (HEY.out hfit).1] at hO
          have HO := Lib.hid hO; have HGT := Lib.hid (HEY.out hfit).2
          clear hct hfit hO
          go_wp2
          go_ret2
          exact ⟨_, (by rw [HGT.out]; try rfl), by rw [← HO.out]; exact SO.out, below_step B.out HB5.out⟩
end Go.Proofs.YtlbibgofhhdgoaaGreat
