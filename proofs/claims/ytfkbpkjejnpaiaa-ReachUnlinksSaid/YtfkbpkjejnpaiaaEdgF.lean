/- Edges with a pair so often; how often a pair is there: of the program. -/
import Derived.Test.YtfkbpkjejnpaiaaEdgE
namespace Go.Proofs.Ytfkbpkjejnpaiaa
open Go.RowKit
set_option maxRecDepth 100000

set_option maxHeartbeats 1600000 in
theorem set_any (V : Value) (l : List Ed) (x1 x2 x3 : Int) (w : World) (h : Eds w V l) (hl : l.length ≤ 1000000) :
    Calls Try.prog 54 #[V, .agg #[.int .i64 x1, .int .i64 x2, .int .i64 x3]] w fun e w' => ∃ v, e = .returned v ∧ w'.ownsRow w.heap.size 43 3 v (withE l (x1, x2, x3)).length (edC (withE l (x1, x2, x3))) ∧ Below w.heap.size w w' := by
  obtain ⟨a, c, rfl, -⟩ := h.ex
  have hmf := makef
  have k1 := fun V g w h => wahead_any V l x1 x2 x3 g w h hl
  have k2 := fun V g w h => wbehind_any V l x1 x2 x3 g w h hl
  have hF1 := List.length_filter_le (fun e : Ed => ltE e (x1, x2, x3)) l
  have hF2 := List.length_filter_le (fun e : Ed => ltE (x1, x2, x3) e) l
  have hR : withE l (x1, x2, x3) = (l.filter fun e => ltE e (x1, x2, x3)) ++ midE (x1, x2, x3) ++ l.filter fun e => ltE (x1, x2, x3) e := rfl
  obtain ⟨R, hR0⟩ : ∃ R, withE l (x1, x2, x3) = R := ⟨_, rfl⟩
  rw [hR0] at hR ⊢
  obtain ⟨F1, hf1⟩ : ∃ F, (l.filter fun e : Ed => ltE e (x1, x2, x3)) = F := ⟨_, rfl⟩
  obtain ⟨F2, hf2⟩ : ∃ F, (l.filter fun e : Ed => ltE (x1, x2, x3) e) = F := ⟨_, rfl⟩
  rw [hf1] at k1 hF1 hR
  rw [hf2] at k2 hF2 hR
  obtain ⟨m1, hm1⟩ : ∃ m, F1.length = m := ⟨_, rfl⟩
  obtain ⟨m2, hm2⟩ : ∃ m, F2.length = m := ⟨_, rfl⟩
  obtain ⟨n, hn⟩ : ∃ n, l.length = n := ⟨_, rfl⟩
  rw [hm1] at k1 hF1
  rw [hm2] at k2 hF2
  rw [hn] at hF1 hF2 hl h ⊢
  have HM2 := Lib.hid hm2; have HM1 := Lib.hid hm1; have HR := Lib.hid hR
  obtain ⟨W, g, hW, hg, d0, d1, d2, hb⟩ := boxE1 w (.int .i64 x1) (.int .i64 x2) (.int .i64 x3) 43
  have ST := Lib.hid (h.below hb); have B := Lib.hid hb; have HW := Lib.hid hW; have HG := Lib.hid hg; have BW := Lib.hid (Below.refl W.heap.size W)
  have D0 := Lib.hid d0; have D1 := Lib.hid d1; have D2 := Lib.hid d2
  clear h hb hW hg hR0 hf1 hf2 hm1 hm2 hn hR
  by_cases h3 : 0 < x3
  · have hmid : midE (x1, x2, x3) = [(x1, x2, x3)] := if_pos h3
    rw [hmid] at HR
    clear hmid
    go_enter Try.func54, Try.ntmps54
    go_upto_region 1 with fail
    rw [HW.out, HG.out]
    go_upto_region 2 with (go_at_call 63; refine (k1 _ _ _ ST.out d0 d1 d2).mono ?_; rintro e w1 ⟨v1, rfl, hown, hb1⟩; have HOWN := Lib.hid hown; replace BW := Lib.hid (below_step BW.out hb1); replace d0 := cell_keep d0 hb1; replace d1 := cell_keep d1 hb1; replace d2 := cell_keep d2 hb1; clear hown hb1 k1)
    go_upto_region 4 with (at_builtin; refine wpList_append_new rfl _ _ 22 rfl W.heap.size 43 (.agg #[.int .i64 0, .int .i64 0, .int .i64 0]) 3 24 Try.underlying22 Try.info_edge rfl (by decide) _ m1 _ rfl HOWN.out [.int .i64 x1, .int .i64 x2, .int .i64 x3] rfl rfl rfl (by omega) (by unfold maxLen; omega) BW.out.size ?_; intro v2 w2 hown2 hb2; replace HOWN := Lib.hid hown2; replace BW := Lib.hid (BW.out.trans hb2.toBelow); clear hown2 hb2 d0 d1 d2)
    go_wp2_with (first
      | (go_at_call 63; refine (k2 _ _ _ (ST.out.below BW.out) (cell_keep D0.out BW.out) (cell_keep D1.out BW.out) (cell_keep D2.out BW.out)).mono ?_; rintro e w3 ⟨v3, rfl, hown, hb3⟩; obtain ⟨a3, c3, rfl, hE3⟩ := edsO (by rw [HM2.out]; exact hown); rw [HM2.out] at hE3 ⊢; have SE := Lib.hid hE3; replace HOWN := Lib.hid (ownsRow_belowB HOWN.out hb3); replace BW := Lib.hid (below_step BW.out hb3); clear hown hb3 hE3 k2)
      | (at_builtin; refine wpList_append_src rfl _ _ 22 rfl W.heap.size 43 (.agg #[.int .i64 0, .int .i64 0, .int .i64 0]) 3 24 Try.underlying22 Try.info_edge rfl (by decide) _ (m1 + 1) _ rfl HOWN.out a3 m2 c3 (edC F2) rfl (by rw [edC_len, HM2.out]) SE.out.nil (fun ad e => by subst e; exact SE.out.cells) (edC_one F2) (by omega) (by unfold maxLen; omega) BW.out.size ?_; intro v4 w4 hown4 hb4; have HO4 := Lib.hid hown4; replace BW := Lib.hid (BW.out.trans hb4.toBelow); clear hown4 hb4))
    go_ret
    have hO := HO4.out
    refine ⟨_, rfl, ?_, B.out.trans (BW.out.mono B.out.size)⟩
    rw [HR.out, edC_app, edC_app]
    have e : (F1 ++ [(x1, x2, x3)] ++ F2).length = m1 + 1 + m2 := by rw [List.length_append, List.length_append, HM1.out, HM2.out]; rfl
    rw [e]
    exact row_base hO B.out.size
  · have hmid : midE (x1, x2, x3) = [] := if_neg h3
    rw [hmid, List.append_nil] at HR
    clear hmid
    go_enter Try.func54, Try.ntmps54
    go_upto_region 1 with fail
    rw [HW.out, HG.out]
    go_upto_region 2 with (go_at_call 63; refine (k1 _ _ _ ST.out d0 d1 d2).mono ?_; rintro e w1 ⟨v1, rfl, hown, hb1⟩; have HOWN := Lib.hid hown; replace BW := Lib.hid (below_step BW.out hb1); replace d0 := cell_keep d0 hb1; replace d1 := cell_keep d1 hb1; replace d2 := cell_keep d2 hb1; clear hown hb1 k1)
    go_wp2_with (first
      | (go_at_call 63; refine (k2 _ _ _ (ST.out.below BW.out) (cell_keep D0.out BW.out) (cell_keep D1.out BW.out) (cell_keep D2.out BW.out)).mono ?_; rintro e w3 ⟨v3, rfl, hown, hb3⟩; obtain ⟨a3, c3, rfl, hE3⟩ := edsO (by rw [HM2.out]; exact hown); rw [HM2.out] at hE3 ⊢; have SE := Lib.hid hE3; replace HOWN := Lib.hid (ownsRow_belowB HOWN.out hb3); replace BW := Lib.hid (below_step BW.out hb3); clear hown hb3 hE3 k2)
      | (at_builtin; refine wpList_append_src rfl _ _ 22 rfl W.heap.size 43 (.agg #[.int .i64 0, .int .i64 0, .int .i64 0]) 3 24 Try.underlying22 Try.info_edge rfl (by decide) _ m1 _ rfl HOWN.out a3 m2 c3 (edC F2) rfl (by rw [edC_len, HM2.out]) SE.out.nil (fun ad e => by subst e; exact SE.out.cells) (edC_one F2) (by omega) (by unfold maxLen; omega) BW.out.size ?_; intro v4 w4 hown4 hb4; have HO4 := Lib.hid hown4; replace BW := Lib.hid (BW.out.trans hb4.toBelow); clear hown4 hb4))
    go_ret
    have hO := HO4.out
    refine ⟨_, rfl, ?_, B.out.trans (BW.out.mono B.out.size)⟩
    rw [HR.out, edC_app]
    have e : (F1 ++ F2).length = m1 + m2 := by rw [List.length_append, HM1.out, HM2.out]
    rw [e]
    exact row_base hO B.out.size
end Go.Proofs.Ytfkbpkjejnpaiaa
