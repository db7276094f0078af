/- Of rows and of one node more: their build lists: plain facts. -/
import Derived.Test.YtlbibgofhhdgoaaGreatLisR
import Derived.Test.YtlbibgofhhdgoaaGreatTalS
namespace Go.Proofs.YtlbibgofhhdgoaaGreat
set_option linter.unusedVariables false
set_option maxRecDepth 100000

theorem lastV_mem {l : List Tx} (h : l ≠ []) : lastV l ∈ l := by
  unfold lastV
  have : 0 < l.length := List.length_pos_iff.2 h
  exact gd_in (by omega)
theorem lastV_max {l : List Tx} (h : l.Pairwise fun a b => ltV a b = true) : ∀ u ∈ l, cmpT u (lastV l) ≤ 0 := fun u hu => by
  obtain ⟨t, ht, rfl⟩ := List.mem_iff_getElem.1 hu
  cases hl : ltV (lastV l) l[t]
  · have := ltV_no.1 hl
    rw [cmpT_swap] at this
    omega
  · unfold lastV at hl
    have h2 := vers_up h (t := t) (m := l.length - 1) (by omega) (by omega) hl
    rw [gd_at ht, ltV_irrefl] at h2
    cases h2
def verL (l : List Rw) (p : Tx) : Tx := if rwVer l p = [] then [] else lastV (rwVer l p)
theorem verL_yes {l : List Rw} {p : Tx} (h : rwVer l p ≠ []) : verL l p = lastV (rwVer l p) := by unfold verL; rw [if_neg h]
theorem build_ok {l : List Rw} (h : okR l = true) : okL (buildL l) = true := by
  obtain ⟨h1, h2⟩ := okR_iff.1 h
  refine okL_iff.2 ⟨fun n hn => ?_, List.pairwise_map.2 (h2.imp fun {a b} k => ltB_iff.2 (ltP_iff.1 k))⟩
  obtain ⟨r, hr, rfl⟩ := List.mem_map.1 hn
  obtain ⟨k1, -, k3⟩ := fitV_iff.1 (h1 r hr).2
  exact okN_of (h1 r hr).1 (k1 _ (lastV_mem k3))
theorem build_pick {l : List Rw} (h : okR l = true) (p : Tx) : pickL (buildL l) p = verL l p := by
  unfold verL
  by_cases e : ∃ r ∈ l, r.1 = p
  · obtain ⟨r, hr, rfl⟩ := e
    have h3 := (fitV_iff.1 ((okR_iff.1 h).1 r hr).2).2.2
    obtain ⟨s, t, rfl⟩ := List.append_of_mem hr
    rw [ver_at h, if_neg h3]
    exact pick_in (n := (r.1, lastV r.2)) (okL_iff.1 (build_ok h)).2 (List.mem_map.2 ⟨r, hr, rfl⟩)
  · have e2 : ∀ r ∈ l, r.1 ≠ p := fun r hr q => e ⟨r, hr, q⟩
    rw [ver_none e2, if_pos rfl]
    refine pick_none fun n hn => ?_
    obtain ⟨r, hr, rfl⟩ := List.mem_map.1 hn
    exact e2 r hr
theorem build_small {l : List Rw} {k : Nat} (h : SzR k l) : ∀ n ∈ buildL l, smallN n := fun n hn => by
  obtain ⟨r, hr, rfl⟩ := List.mem_map.1 hn
  refine ⟨h.path r hr, ?_⟩
  show (lastV r.2).length ≤ 1000000000
  by_cases e : r.2 = []
  · rw [e]; exact Nat.zero_le _
  · exact h.text r hr _ (lastV_mem e)
theorem build_len (l : List Rw) : (buildL l).length = l.length := List.length_map _
theorem ver_same {l la : List Rw} {q : Tx} (hl : okR l = true) (ha : okR la = true) (h : ∀ u, u ∈ rwVer l q ↔ u ∈ rwVer la q) : verL l q = verL la q := by
  by_cases e : rwVer l q = []
  · have e2 : rwVer la q = [] := List.eq_nil_iff_forall_not_mem.2 fun u hu => by
      have := (h u).2 hu; rw [e] at this; cases this
    unfold verL; rw [e, e2]
  · have h1 := lastV_mem e
    have h2 := (h _).1 h1
    have e2 : rwVer la q ≠ [] := fun k => by rw [k] at h2; cases h2
    have h3 := lastV_mem e2
    have k1 := lastV_max (ver_pair ha q) _ h2
    have k2 := lastV_max (ver_pair hl q) _ ((h _).2 h3)
    rw [cmpT_swap] at k2
    rw [verL_yes e, verL_yes e2]
    exact cmpT_eq (ver_ok hl q _ h1) (ver_ok ha q _ h3) (by omega)
theorem above_more {l la : List Rw} (hl : okR l = true) (ha : okR la = true) (hm : ∀ q u, u ∈ rwVer l q → u ∈ rwVer la q) : aboveL (buildL l) (buildL la) = true := above_iff.2 fun n hn => by
  have h1 := pick_in (okL_iff.1 (build_ok hl)).2 hn
  have h2 := okN_ver ((okL_iff.1 (build_ok hl)).1 n hn)
  rw [build_pick hl] at h1
  have h3 : rwVer l n.1 ≠ [] := fun e => by unfold verL at h1; rw [if_pos e] at h1; exact h2 h1.symm
  rw [verL_yes h3] at h1
  have h4 := hm _ _ (lastV_mem h3)
  have h5 : rwVer la n.1 ≠ [] := fun e => by rw [e] at h4; cases h4
  rw [build_pick ha, verL_yes h5]
  refine ⟨fun e => ?_, ?_⟩
  · have := ver_ok ha _ _ (lastV_mem h5)
    rw [e, okV_nil] at this; cases this
  · have := lastV_max (ver_pair ha n.1) _ h4
    rw [← h1, cmpT_swap]; omega
theorem delta_one {l la : List Rw} (p : Tx) (hl : okR l = true) (ha : okR la = true) (h : ∀ q, q ≠ p → verL l q = verL la q) : (deltaL (buildL l) (buildL la)).length ≤ 1 := by
  have hp := (okCs_iff.1 (delta_ok (build_ok hl) (build_ok ha))).2
  have hx : ∀ x ∈ deltaL (buildL l) (buildL la), x.1 = p := fun x hx => by
    obtain ⟨-, -, -, k⟩ := deltaP_mem.1 hx
    refine Classical.byContradiction fun e => k ?_
    rw [build_pick hl, build_pick ha, h _ e]
  generalize deltaL (buildL l) (buildL la) = d at hp hx
  match d, hp, hx with
  | [], _, _ => exact Nat.zero_le _
  | [_], _, _ => exact Nat.le_refl _
  | x :: y :: d, hp, hx =>
    have h1 := (List.pairwise_cons.1 hp).1 y List.mem_cons_self
    exact absurd ((hx x List.mem_cons_self).trans (hx y (List.mem_cons_of_mem _ List.mem_cons_self)).symm) (ltB_ne h1)
structure MoreIs (l la : List Rw) (p : Tx) : Prop where
  above : aboveE (buildL l) (buildL la) = (true, 0)
  delta : (deltaE (buildL l) (buildL la)).2 = 0
  many : (deltaE (buildL l) (buildL la)).1.length ≤ 1
  pick : pickE (buildL la) p = (lastV (rwVer la p), 0)
  best : bestE la p = (lastV (rwVer la p), 0)
  chk : lchkE (buildL la) = 0
theorem more_is {l : List Rw} {n : Nd} (hl : okR l = true) (hn : okN n = true) : MoreIs l (rwOf (withN (rwAll l) n)) n.1 := by
  have hwc := withN_check (all_check hl) hn
  have ha := of_ok hwc
  have hv : ∀ q u, u ∈ rwVer (rwOf (withN (rwAll l) n)) q ↔ u ∈ rwVer l q ∨ (q, u) = n := fun q u => by
    rw [ver_mem, all_of, withN_mem (all_okN hl) hn, ver_mem]
  have h1 : n.2 ∈ rwVer (rwOf (withN (rwAll l) n)) n.1 := (hv _ _).2 (.inr rfl)
  generalize rwOf (withN (rwAll l) n) = la at ha hv h1
  have h0 : rwVer la n.1 ≠ [] := fun e => by rw [e] at h1; cases h1
  have hp := (okN_parts hn).1
  have he : ∀ q, q ≠ n.1 → verL l q = verL la q := fun q hq => by
    refine ver_same hl ha fun u => ?_
    rw [hv]
    exact ⟨.inl, fun k => k.elim id fun e => absurd (congrArg Prod.fst e) hq⟩
  have hbk : pickL (buildL la) n.1 = lastV (rwVer la n.1) := by rw [build_pick ha, verL_yes h0]
  have hde : deltaE (buildL l) (buildL la) = (deltaL (buildL l) (buildL la), 0) := deltaE_yes (build_ok hl) (build_ok ha)
  refine ⟨?_, by rw [hde], by rw [hde]; exact delta_one n.1 hl ha he, ?_, bestE_yes ha hp h0, lchkE_yes (build_ok ha)⟩
  · rw [aboveE_yes (build_ok hl) (build_ok ha), above_more hl ha fun q u k => (hv q u).2 (.inl k)]
  · rw [pickE_yes (build_ok ha) hp (by rw [hbk]; exact fun e => by have := ver_ok ha _ _ (lastV_mem h0); rw [e, okV_nil] at this; cases this), hbk]
end Go.Proofs.YtlbibgofhhdgoaaGreat
