/- Lists of nodes in memory. -/
import Derived.Test.YtijhdjdjnolpcaaNodB
import Derived.Test.YtijhdjdjnolpcaaNodC
namespace Go.Proofs.Ytijhdjdjnolpcaa
open Go.RowKit
set_option maxRecDepth 100000

/-- A slice of nodes, in memory: nil, empty, or cells that hold them, two each. -/
structure Nds (w : World) (v : Value) (ns : List Nd) : Prop where
  ex : ∃ a c, v = .slice a ns.length c ∧ ns.length ≤ c ∧ c ≤ maxLen ∧ (a = none → c = 0) ∧ (0 < ns.length → ∃ b off, a = some ⟨b, off, none⟩ ∧ b < w.heap.size ∧ ∀ j, j < ns.length →
    w.cell? ⟨b, off + j * 2, none⟩ = some (.string (mkB (ns.getD j ([], [])).1)) ∧ w.cell? ⟨b, off + j * 2 + 1, none⟩ = some (.string (mkB (ns.getD j ([], [])).2)))
theorem Nds.below {w w' : World} {v : Value} {zs : List Nd} (h : Nds w v zs) (hb : Below w.heap.size w w') : Nds w' v zs := by
  obtain ⟨a, c, hv, h1, h2, hn, h3⟩ := h.ex
  refine ⟨a, c, hv, h1, h2, hn, fun hp => ?_⟩
  obtain ⟨b, off, ha, hlt, hc⟩ := h3 hp
  exact ⟨b, off, ha, Nat.lt_of_lt_of_le hlt hb.size, fun j hj => ⟨by rw [hb.cell (by exact hlt)]; exact (hc j hj).1, by rw [hb.cell (by exact hlt)]; exact (hc j hj).2⟩⟩

theorem make_map (n : Int) (w : World) : (Instr.makeMap 58 (some (.int .i64 n))).run Try.prog w = .ok (.map (some w.heap.size)) (w.alloc (.map #[] 0)) := by
  simp [Instr.makeMap, run_underlying Try.underlying58, asInt, asIntOf, Result.andThen]

set_option maxHeartbeats 800000 in
theorem gather_any (v : Value) (ns : List Nd) (w : World) (h : Nds w v ns) (hf : ∀ n ∈ ns, fitsN n) :
    Calls Try.prog 36 #[v] w fun e w' => ∃ b, e = .returned (.map (some b)) ∧ NMap w' b ns.length ns ∧ w.heap.size ≤ b ∧ Below w.heap.size w w' := by
  obtain ⟨a, c, rfl, h1, h2, _, h3⟩ := h.ex
  clear h
  unfold maxLen at h2
  have hmm := make_map
  obtain ⟨n, hn⟩ : ∃ n, ns.length = n := ⟨_, rfl⟩
  rw [hn] at h1 h3 ⊢
  have H3 := Lib.hid h3; have HF := Lib.hid hf; have HN := Lib.hid hn
  clear h3 hf hn
  go_enter Try.func36, Try.ntmps36
  go_wp2
  obtain ⟨W, hW⟩ : ∃ W, w.alloc (.map #[] 0) = W := ⟨_, rfl⟩
  have M0 := Lib.hid (NMap.made w)
  have B0 := Lib.hid ((Below.refl w.heap.size w).alloc (Nat.le_refl _) (.map #[] 0))
  rw [hW] at M0 B0 ⊢
  obtain ⟨g, hg⟩ : ∃ g, w.heap.size = g := ⟨_, rfl⟩
  have HG := Lib.hid hg
  rw [hg] at M0 B0 H3 ⊢
  clear hW hg
  go_loopw [11] (fun i wr => ∃ k : Nat, k ≤ n ∧ i = .int .i64 k ∧ Hid (NMap wr g k (ns.take k)) ∧ Hid (Below g w wr)) (fun i _ => n - (intOf i).toNat)
  case atStart => exact ⟨0, Nat.zero_le _, rfl, Lib.hid (by simpa using M0.out), B0⟩
  case round =>
    obtain ⟨k, hk, rfl, HM, HB⟩ := hrel
    by_cases hlt : k < n
    · obtain ⟨b, off, rfl, hbk, hc⟩ := H3.out (by omega)
      obtain ⟨y, hy⟩ : ∃ y, y = ns.getD k ([], []) := ⟨_, rfl⟩
      have hck := hc k hlt
      rw [← hy] at hck
      have hc0 := (HB.out.cell (p := ⟨b, off + k * 2, none⟩) hbk).trans hck.1
      have hc1 := (HB.out.cell (p := ⟨b, off + k * 2 + 1, none⟩) hbk).trans hck.2
      clear hc hck
      have HY := Lib.hid hy; clear hy
      have hyf : fitsN y := by rw [HY.out]; exact HF.out _ (nd_mem (by rw [HN.out]; exact hlt))
      have htk : ns.take (k + 1) = ns.take k ++ [y] := by
        have hl : k < ns.length := by rw [HN.out]; exact hlt
        rw [List.take_succ_eq_append_getElem hl, HY.out, nd_getD hl]
      have HTK := Lib.hid htk; have HYF := Lib.hid hyf; clear htk hyf
      obtain ⟨hfk, D, hown, hD⟩ := HM.out
      have HFK := Lib.hid hfk; have HD := Lib.hid hD; clear hfk hD
      go_wp2_with (at_mapUpdate; refine wpList_mapUpdate_own _ rfl _ _ _ 58 rfl 23 59 node_keyed Try.underlying58 unitElem g k D rfl (hown.alloc _) (by unfold maxLen; omega) _ _ (litN y) rfl rfl (key_n y HYF.out.1 HYF.out.2) (.agg []) [] unitElem_mk ?_; intro w1 hown1 hgrow1)
      have hM : NMap w1 g (k + 1) (ns.take (k + 1)) := by
        rw [HTK.out]
        exact ⟨fits_step HFK.out HYF.out, _, hown1, has_step hown.isMap HYF.out HD.out⟩
      have hB : Below g w w1 := by
        have hgs : g ≤ w.heap.size := by rw [HG.out]; exact Nat.le_refl _
        have h0 : g ≤ wr.heap.size := Nat.le_trans hgs HB.out.size
        exact (HB.out.alloc h0 _).grown hgrow1 (by simp; omega) (fun j e => by cases e; exact Nat.le_refl _)
      have HMN := Lib.hid hM; have HBN := Lib.hid hB
      clear hM hB hown1 hgrow1 hown
      go_roundw
      case rel => exact ⟨k + 1, by omega, by go_num, HMN, HBN⟩
      case measure => simp [intOf]; omega
    · go_wp2
      go_ret
      have e : k = n := by omega
      subst e
      have hM := HM.out
      rw [List.take_of_length_le (by rw [HN.out]; exact Nat.le_refl _)] at hM
      exact ⟨g, rfl, hM, by rw [HG.out]; exact Nat.le_refl _, by rw [HG.out]; exact HB.out⟩
end Go.Proofs.Ytijhdjdjnolpcaa
