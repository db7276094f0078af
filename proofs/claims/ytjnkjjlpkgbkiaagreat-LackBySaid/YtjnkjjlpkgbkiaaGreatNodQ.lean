/- The document's own: a set without another one's nodes. -/
import Derived.Test.YtjnkjjlpkgbkiaaGreatNodP
namespace Go.Proofs.YtjnkjjlpkgbkiaaGreat
open Go.RowKit
set_option maxRecDepth 100000

set_option maxHeartbeats 3200000 in
theorem refnminus_any (U V : Value) (l m : List Nd) (w : World) (hU : Nds w U l) (hV : Nds w V m) (hl : l.length ≤ 1000000) :
    Calls Tryz.prog 15 #[U, V] w fun e w' => ∃ a c, e = .returned (.slice a (minusN l m).length c) ∧ Nds w' (.slice a (minusN l m).length c) (minusN l m) ∧ Below w.heap.size w w' := by
  obtain ⟨a, c, rfl, h1, h2, -, -⟩ := hU.ex
  obtain ⟨a', c', rfl, h1', h2', -, -⟩ := hV.ex
  unfold maxLen at h2 h2'
  obtain ⟨n, hn⟩ : ∃ n, l.length = n := ⟨_, rfl⟩
  obtain ⟨n', hn'⟩ : ∃ n, m.length = n := ⟨_, rfl⟩
  rw [hn] at h1 hU hl ⊢
  rw [hn'] at h1' hV ⊢
  obtain ⟨R, hR⟩ : ∃ R, minusN l m = R := ⟨_, rfl⟩
  rw [hR]
  have SU := Lib.hid hU; have SV := Lib.hid hV; have HN := Lib.hid hn; have HN' := Lib.hid hn'; have HR := Lib.hid hR
  clear hU hV hn hn' hR
  go_enter Tryz.func15, Tryz.ntmps15
  go_wp2
  go_loopw [5, 6] (fun v i wr => ∃ (k : Nat) (acc : List Nd), k ≤ n ∧ i = .int .i64 k ∧ acc.length ≤ k ∧ Hid (acc = minusN (l.take k) m) ∧ wr.ownsRow w.heap.size 42 2 v acc.length (ndsC acc) ∧ Hid (Below w.heap.size w wr)) (fun _ i _ => n - (intOf i).toNat)
  case atStart => exact ⟨0, [], Nat.zero_le _, rfl, Nat.le_refl _, Lib.hid rfl, World.ownsRow_nil _ _ _ _, Lib.hid (Below.refl _ _)⟩
  case round =>
    obtain ⟨k, acc, hk, rfl, hal, HACC, hown, HB⟩ := hrel
    by_cases hlt : k < n
    · have hkl : k < l.length := by rw [HN.out]; exact hlt
      obtain ⟨b, off, rfl, -, hc0, hc1⟩ := (SU.out.below HB.out).at k hkl
      have htk := minusN_take_succ (l := l) (m := m) hkl
      obtain ⟨y, hy⟩ : ∃ y, y = l.getD k ([], []) := ⟨_, rfl⟩
      rw [← hy] at hc0 hc1 htk
      obtain ⟨o, ho⟩ : ∃ o, hasN m y = o := ⟨_, rfl⟩
      rw [ho] at htk
      have HTK := Lib.hid htk; have HO := Lib.hid ho; have HOWN := Lib.hid hown
      clear hy htk ho hown
      obtain ⟨y1, y2⟩ := y
      simp only at hc0 hc1
      cases o
      · go_wp2_with (first
          | (go_at_call 24; refine (refnhas_any _ m y1 y2 _ (SV.out.below HB.out)).mono ?_; rintro e w1 ⟨rfl, hb1⟩; rw [HO.out]; have HB1 := Lib.hid (below_step HB.out hb1); have HOWN1 := Lib.hid (ownsRow_belowB HOWN.out hb1); replace hc0 := cell_keep hc0 hb1; replace hc1 := cell_keep hc1 hb1; clear hb1)
          | (at_builtin; refine wpList_append_new rfl _ _ 22 rfl w.heap.size 42 (.agg #[.string ByteArray.empty, .string ByteArray.empty]) 2 32 Tryz.underlying22 Tryz.info_node rfl (by decide) _ _ _ rfl HOWN1.out [.string (mkB y1), .string (mkB y2)] rfl rfl rfl (by omega) (by unfold maxLen; omega) HB1.out.size ?_))
        intro v' w' hown' hb'
        have e2 : ndsC acc ++ [.string (mkB y1), .string (mkB y2)] = ndsC (acc ++ [(y1, y2)]) := (ndsC_snoc acc (y1, y2)).symm
        rw [e2] at hown'
        have ho2 : w'.ownsRow w.heap.size 42 2 v' (acc ++ [(y1, y2)]).length (ndsC (acc ++ [(y1, y2)])) := by simpa using hown'
        have HO2 := Lib.hid ho2; have HBN := Lib.hid (HB1.out.trans hb'.toBelow)
        have HAC : Hid (acc ++ [(y1, y2)] = minusN (l.take (k + 1)) m) := Lib.hid (by rw [HTK.out, HACC.out]; rfl)
        clear ho2 hown' hb'
        go_wp2
        go_roundw
        case rel => exact ⟨k + 1, acc ++ [(y1, y2)], by omega, by go_num, by simp; omega, HAC, HO2.out, HBN⟩
        case measure => simp [intOf]; omega
      · have HAC : Hid (acc = minusN (l.take (k + 1)) m) := Lib.hid (by rw [HTK.out, HACC.out]; simp)
        go_wp2_with (first
          | (go_at_call 24; refine (refnhas_any _ m y1 y2 _ (SV.out.below HB.out)).mono ?_; rintro e w1 ⟨rfl, hb1⟩; rw [HO.out]; have HB1 := Lib.hid (below_step HB.out hb1); have HOWN1 := Lib.hid (ownsRow_belowB HOWN.out hb1); clear hb1))
        go_roundw
        case rel => exact ⟨k + 1, acc, by omega, by go_num, by omega, HAC, HOWN1.out, HB1⟩
        case measure => simp [intOf]; omega
    · have e : k = n := by omega
      subst e
      have hac := HACC.out
      rw [List.take_of_length_le (by rw [HN.out]; exact Nat.le_refl _), HR.out] at hac
      subst hac
      go_wp2
      go_ret
      obtain ⟨a2, c2, rfl, hnd⟩ := ndsO hown
      exact ⟨a2, c2, rfl, hnd, HB.out⟩
end Go.Proofs.YtjnkjjlpkgbkiaaGreat
