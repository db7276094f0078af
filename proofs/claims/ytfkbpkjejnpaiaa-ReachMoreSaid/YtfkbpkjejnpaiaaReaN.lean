/- Unlink: of the program. -/
import Derived.Test.YtfkbpkjejnpaiaaReaK
namespace Go.Proofs.Ytfkbpkjejnpaiaa
open Go.RowKit Go.Maps
set_option linter.unusedVariables false
set_option maxRecDepth 100000

/-! ### Plain facts -/
structure UnlkOk (g : Gr) (f t : Int) (M : List Ed) : Prop where
  okg : okG g = true
  ok : okE M = true
  ed : ∀ x y, toE g.1 x y ↔ toE M x y ∨ (x = f ∧ y = t)
  len : M.length ≤ 2 * g.1.length + 1
  to0 : 0 ≤ t
theorem unlk_ok {g : Gr} {f t : Int} (h : unlkK g f t = 0) : UnlkOk g f t (unlkL g f t) ∧ ((∀ e ∈ g.1, fitE e) → fitI f → fitI t → ∀ e ∈ unlkL g f t, fitE e) := by
  unfold unlkK at h
  unfold unlkL
  by_cases ho : okG g = true
  · rw [if_pos ho] at h ⊢
    have hm : mayE g.1 f t = true := by
      unfold dropK at h; by_cases hm : mayE g.1 f t = true
      · exact hm
      · rw [if_neg hm] at h; cases h
    obtain ⟨hok, hf, ht⟩ := mayE_ok hm
    have hne : manyE g.1 f t ≠ 0 := fun e => by unfold dropK at h; rw [if_pos hm, if_pos e] at h; cases h
    have hb := many_bd hok f t
    have he : dropL g.1 f t = withE g.1 (f, t, manyE g.1 f t - 1) := by unfold dropL; rw [if_pos h]
    rw [he]
    have h0 : 0 ≤ (f, t, manyE g.1 f t - 1).2.2 := by show 0 ≤ manyE g.1 f t - 1; omega
    have hok2 := with_ok (x := (f, t, manyE g.1 f t - 1)) hok hf ht (by show manyE g.1 f t - 1 ≤ topE; omega)
    refine ⟨⟨ho, hok2, fun x y => ?_, withE_len _ _, ht⟩, fun a b c => with_fit a b c (top_fit h0 (by show manyE g.1 f t - 1 ≤ topE; omega))⟩
    rw [to_there hok2, to_there hok, with_many h0]
    by_cases e : isP x y (f, t, manyE g.1 f t - 1) = true
    · rw [if_pos e]
      have := isP_iff.1 e
      simp only at this ⊢
      refine ⟨fun _ => .inr ⟨this.1.symm, this.2.symm⟩, fun _ => by rw [← this.1, ← this.2]; omega⟩
    · rw [if_neg e]
      refine ⟨.inl, fun h => h.elim id fun h => absurd (isP_iff.2 ⟨h.1.symm, h.2.symm⟩) e⟩
  · rw [if_neg ho] at h; cases h
noncomputable def unlkG (g : Gr) (f t : Int) : Gr := if unlkK g f t = 0 then (unlkL g f t, liveE (unlkL g f t)) else g
noncomputable def unlkD (g : Gr) (f t : Int) : List Int := if unlkK g f t = 0 then minusI g.2 (liveE (unlkL g f t)) else []
theorem minus_left {l : List Ed} {g : Gr} (hg : okG g = true) {T : List Int} (hT : ∀ z, z ∈ T ↔ Way l (-1) z) : minusI g.2 T = minusI g.2 (liveE l) := by
  unfold minusI
  refine List.filter_congr fun z hz => ?_
  rw [(okG_iff.1 hg).2] at hz
  have hne := (live_mem.1 hz).1
  have : hasB T z = hasB (liveE l) z := by
    unfold hasB; exact decide_eq_decide.2 (by rw [hT, live_mem]; simp [hne])
  rw [this]

/-! ### In memory -/
/-- What graph answers: these edges, and a row of the call's own. -/
def graP (A : Option Addr) (n c N : Nat) (L : List Int) : World → Value → Option Nat → Prop := fun w v ob => ∃ B m d, v = .agg #[.slice A n c, .slice B m d] ∧ w.ownsRow N 3 1 (.slice B m d) L.length (intZ L) ∧ ob = (Value.slice B m d).ownBlock
theorem graP_near {A : Option Addr} {n c N : Nat} {L : List Int} : ∀ (w w' : World) (v : Value) (ob : Option Nat), (∀ b, ob = some b → w'.heap[b]? = w.heap[b]?) → graP A n c N L w v ob → graP A n c N L w' v ob := by
  rintro w w' v ob hb ⟨B, m, d, rfl, h, rfl⟩
  exact ⟨B, m, d, rfl, row_heapR h hb, rfl⟩
section
variable {ops : Array Oper} {Q : Exit → Act → World → Prop} {a : Act} {w w0 : World} {who : Nat → Nat} {i B r ro : Nat} {o : Oper}
theorem rol_boxPR (ho : ops[i]? = some o) (hw : Region.wanted o (yielded ops a.tmps) = true) (hd : o.dst = none) {x : Operand} {t g : Nat} (hop : o.op = .store 25 x (.tmp t)) (hx : a.eval x = .pointer (some ⟨g, 0, none⟩)) {A : Option Addr} {n c N : Nat} {L : List Int} {r2 : Nat} (h : (RLeaf.mem t (graP A n c N L)).holds r2 a w who)
    {x0 y0 : Value} {ty : TypeId} (hg : (RLeaf.box g (.cells #[x0, y0] ty)).holds r a w who) (hb : Below B w0 w) (hB : B ≤ g) : wpOp Try.prog ops Q i (RPost ops i r r (.mem t (boxR g ty)) B w0 a w who) a w := by
  obtain ⟨v, ob, hv, -, b, m, d, rfl, -, -⟩ := h
  exact rol_putboxR ho hw hd hv rfl hg hB (ex_store hop hx (eval_slot hv) (store_gra hg.1)) hb
end

set_option maxHeartbeats 6400000 in
theorem unlk_any (V : Value) (g : Gr) (f t : Int) (w : World) (h : Gra w V g) (hl : g.1.length ≤ 90) (hl2 : g.2.length ≤ 900) (hf : ∀ e ∈ g.1, fitE e) (hff : fitI f) (hft : fitI t) :
    Calls Try.prog 25 #[V, .int .i64 f, .int .i64 t] w fun e w' => ∃ v u, e = .returned (.tuple #[v, u, .int .i64 (unlkK g f t)]) ∧ GraO w' w.heap.size v (unlkG g f t).1 (unlkG g f t).2 ∧ w'.ownsRow w.heap.size 3 1 u (unlkD g f t).length (intZ (unlkD g f t)) ∧ Below w.heap.size w w' := by
  obtain ⟨a, c, b, d, rfl, u1, u2⟩ := h.ex
  obtain ⟨W, p, q, hW, hp, hq, r0, r1, hb⟩ := boxR2 w (.slice a g.1.length c) (.slice b g.2.length d) (.slice none 0 0) (.slice none 0 0) 25 25
  have kc := fun w h => chdrop_any (.agg #[.slice a g.1.length c, .slice b g.2.length d]) g f t w h (by omega) hf
  have hG := Lib.hid (h.below hb)
  have kk := fun w h hf => known_any (.agg #[.slice a g.1.length c, .slice b g.2.length d]) g w h (by omega) hf
  obtain ⟨n1, hn1⟩ : ∃ n, g.1.length = n := ⟨_, rfl⟩
  obtain ⟨n2, hn2⟩ : ∃ n, g.2.length = n := ⟨_, rfl⟩
  rw [hn1, hn2] at hW r0 hG kc ⊢
  rw [hn1] at u1 hl
  rw [hn2] at u2 hl2
  rw [hn1, hn2] at kk
  obtain ⟨d0, d1, -, -⟩ := row2 r0
  have hwq : w.heap.size ≤ q := by omega
  have hwW : w.heap.size + 2 ≤ W.heap.size := by have := (Array.getElem?_eq_some_iff.1 r1).1; omega
  have U20 := Lib.hid u2; have hl20 : g.2.length ≤ 1000000 := by omega
  have hnn1 : n2 + 1 ≤ 1000 := by omega
  have U1 := Lib.hid (u1.below hb); have U2 := Lib.hid (u2.belowB hb); have HW := Lib.hid hW; have HP := Lib.hid hp; have HQ := Lib.hid hq; have BB := Lib.hid hb; have R0 := Lib.hid r0; have R1 := Lib.hid r1; have HN1 := Lib.hid hn1; have HN2 := Lib.hid hn2
  clear h u1 u2 hb hW hp hq r0 r1 hn1 hn2
  have e1 : ∀ args w, (callFunc 42 args).run Try.prog w = .ok (.enter 42 args) w := enters_of Try.func42 (by kernel_rfl) rfl
  have e2 : ∀ args w, (callFunc 44 args).run Try.prog w = .ok (.enter 44 args) w := enters_of Try.func44 (by kernel_rfl) rfl
  have e3 : ∀ args w, (callFunc 32 args).run Try.prog w = .ok (.enter 32 args) w := enters_of Try.func32 (by kernel_rfl) rfl
  by_cases hk : unlkK g f t = 0
  · obtain ⟨hLO, hLF⟩ := unlk_ok hk
    have hg2 : unlkG g f t = (unlkL g f t, liveE (unlkL g f t)) := by unfold unlkG; rw [if_pos hk]
    have hd2 : unlkD g f t = minusI g.2 (liveE (unlkL g f t)) := by unfold unlkD; rw [if_pos hk]
    rw [hg2, hd2, hk]
    rw [hk] at kc
    have hmf := hLF hf hff hft
    have hok := hLO.ok
    have hKW := fun z => known_way hLO.okg (S := addI (setI g.2) (-1)) (fun z => known_mem) z
    have hgf : ∀ z ∈ g.2, fitI z := by rw [(okG_iff.1 hLO.okg).2]; exact live_fit hf
    have hoff := fun hfS => unlink_off hLO.ed hKW hfS
    have hww : ∀ x ∈ addI (setI g.2) (-1), Way (unlkL g f t) (-1) x ∨ Way (unlkL g f t) t x := fun x hx => way_or hLO.ed ((hKW x).1 hx)
    have hS0 : -1 ∈ addI (setI g.2) (-1) := known_mem.2 (.inr rfl)
    have hSf : ∀ x ∈ addI (setI g.2) (-1), fitI x := fun x hx => by
      rcases known_mem.1 hx with h | rfl
      · exact hgf x h
      · exact ⟨by decide, by decide⟩
    have hdd := fun T hT => minus_left (l := unlkL g f t) hLO.okg (T := T) hT
    have hml := hLO.len
    have ht0 := hLO.to0
    rw [HN1.out] at hml
    obtain ⟨M, hM⟩ : ∃ M, unlkL g f t = M := ⟨_, rfl⟩
    obtain ⟨S, hS⟩ : ∃ S, addI (setI g.2) (-1) = S := ⟨_, rfl⟩
    rw [hM] at kc hmf hok hml
    simp only [hM, hS] at hoff hww hS0 hSf hdd ⊢
    rw [hS] at kk
    have hlm := live_len M
    have kd := fun (bb : Nat) (V : Value) (w' : World) h hz => doubt_any V M bb (n2 + 1) S t w' h hz hok hmf hft hSf hww hS0 ht0 (by omega) hnn1
    have kg := fun (A : Option Addr) (n c bb nn : Nat) (SS : List Int) (w' : World) hz hS hnn => graph_any A n c M bb nn SS w' hz hmf hS hnn
    obtain ⟨m, hm⟩ : ∃ m, M.length = m := ⟨_, rfl⟩
    rw [hm] at kc hml hlm
    obtain ⟨L, hL⟩ : ∃ L, liveE M = L := ⟨_, rfl⟩
    simp only [hL] at kg hlm hdd ⊢
    obtain ⟨D, hD⟩ : ∃ D, minusI g.2 L = D := ⟨_, rfl⟩
    rw [hD]
    simp only [hD] at hdd
    have khas := fun (bb nn : Nat) (w' : World) h => has_any bb nn S f w' h hff
    obtain ⟨o, ho⟩ : ∃ o, hasB S f = o := ⟨_, rfl⟩
    rw [ho] at khas
    have KK := Lib.hid (fun (w : World) h => kk w h hgf); have KD := Lib.hid kd; have KG := Lib.hid kg; have KH := Lib.hid khas; have HOFF := Lib.hid hoff; have HO := Lib.hid ho; have HM := Lib.hid hm; have GRA := hG; have HDD := Lib.hid hdd; have HGF := Lib.hid hgf; have HL2 := Lib.hid hl20
    clear hLO hLF hg2 hd2 hk hmf hok hKW hgf hoff hM hS kd kg khas kk hm hL hD ho hf hff hft hww hS0 hSf hdd ht0 hl20 hnn1
    go_enter Try.func25, Try.ntmps25
    go_upto_region 1 with fail
    rw [HW.out, HQ.out, HP.out]
    go_upto_region 4 with (go_at_call 39; refine (kc _ hG.out).mono ?_; rintro e w1 ⟨v, rfl, hx, hb1⟩; obtain ⟨a1, c1, rfl, -⟩ := edsO (by rw [HM.out]; exact hx); rw [HM.out] at hx ⊢; have HE := Lib.hid hx; replace BB := Lib.hid (below_step BB.out hb1); replace R1 := Lib.hid (row_keepB R1.out hb1); replace R0 := Lib.hid (row_keepB R0.out hb1); replace GRA := Lib.hid (GRA.out.below hb1); replace d0 := cell_keep d0 hb1; replace d1 := cell_keep d1 hb1; clear hb1 hx kc)
    have hq1 : q < w1.heap.size := (Array.getElem?_eq_some_iff.1 R1.out).1
    go_upto_region 5 with (go_at_call 42; refine (KK.out _ GRA.out).mono ?_; rintro e w4 ⟨p2, rfl, hp2, hm2, hb4⟩; have HZ4 := Lib.hid hm2; have HE4 := Lib.hid (ownsRow_belowB HE.out hb4); have RQ4 := Lib.hid (row_keepB R1.out hb4); have RP4 := Lib.hid (row_keepB R0.out hb4); have B4 := Lib.hid (below_step BB.out hb4); have HPN := Lib.hid (show w.heap.size + 2 ≤ p2 by have := HQ.out; omega); have HQ2 := Lib.hid (show q ≠ p2 by omega); have HP2 := Lib.hid (show p ≠ p2 by have := HP.out; have := HQ.out; omega); clear hb4 hm2 hp2)
    cases o
    · have hno : f ∉ S := by have := HO.out; simpa [hasB] using this
      have HS6 := Lib.hid (HOFF.out hno)
      clear hno
      go_upto_region 7 with (go_at_call 43; refine (KH.out _ _ _ HZ4.out).mono ?_; rintro e w6 ⟨rfl, hb6⟩; have HZ6 := Lib.hid (HZ4.out.below hb6); have HE6 := Lib.hid (ownsRow_belowB HE4.out hb6); have RQ6 := Lib.hid (row_keepB RQ4.out hb6); have RP6 := Lib.hid (row_keepB RP4.out hb6); have B6 := Lib.hid (below_step B4.out hb6); clear hb6)
      obtain ⟨mm6, hmm⟩ : ∃ mm, n2 + 1 = mm := ⟨_, rfl⟩
      obtain ⟨S6, hS6⟩ : ∃ SS, SS = S := ⟨_, rfl⟩
      rw [hmm, ← hS6] at HZ6
      rw [← hS6] at HS6
      have hmm6 : mm6 ≤ 1000000 := by omega
      clear hS6
      have HD6 := Lib.hid (HDD.out S6 HS6.out); have HPQ := Lib.hid (show p2 ≠ q from fun e => HQ2.out e.symm); have HPP := Lib.hid (show p ≠ q ∧ p ≠ p2 by have := HQ.out; have := HP.out; have := HPN.out; omega)
      have HEX := Lib.hid (show w6.ownsRow w.heap.size 43 3 (.slice a1 m c1) M.length (edC M) from by rw [HM.out]; exact row_base HE6.out (by omega))
      have hne2 : ∀ b, (∃ cs t fr, w6.heap[b]? = some (.cells cs t fr)) → b ≠ p2 := fun b ⟨cs, t, fr, h⟩ e => by
        obtain ⟨_, D0, ⟨es, clock, he, _⟩, _⟩ := HZ6.out
        rw [e, he] at h; cases h
      have HEB := Lib.hid (fun b (e : (Value.slice a1 m c1).ownBlock = some b) => (show b < w6.heap.size ∧ b ≠ q ∧ b ≠ p2 from ⟨(row_cells HE6.out e).1, by have := (row_cells HE6.out e).2.1; have := HQ.out; omega, hne2 b (row_cells HE6.out e).2.2⟩))
      clear hne2
      refine rol_run (by kernel_rfl) [[], [], [0, 1], [], [], [4], [0, 1, 2, 3, 4, 5], [0, 1, 2, 3, 4, 5, 6], [0, 1, 2, 3, 4, 5, 6, 7], [0, 1, 2, 3, 4, 5, 6, 7, 8]] (by kernel_rfl) [33, 34, 35, 36, 37, 38, 39, 7, 8] [[], [], [0, 1, 12], [], [], [4, 10], [3, 5, 12], [2, 11], [6], []] [0, 0, 1, 0, 0, 0, 1, 2, 1, 0, 3, 2, 4, 3] [0, 0, 0, 0, 0, 0, 0, 2, 0, 0] [1000, 1000, 1000, 1000, 1000, 1000, 1000, 1000, 1000, 1000, 1000, 7, 1000, 1000] [.val 33 (.slice a1 m c1), .val 34 (.map (some p2)), .mem 35 (graP a1 m c1 w.heap.size L), .val 36 (.map (some p2)), .val 37 (.pointer (some ⟨p, 1, none⟩)), .val 38 (.slice b n2 d), .mem 39 (rowR w.heap.size 3 1 D.length (intZ D)), .mem 35 (boxR q 25), .mem 7 (rowR w.heap.size 3 1 D.length (intZ D)), .val 8 (.int .i64 0), .box (p) (.cells #[.slice a n1 c, .slice b n2 d] 25), .box (q) (.cells #[.slice none 0 0, .slice none 0 0] 25), .mem 11 (setX p2 mm6 S6), .mem 9 (edsX (.slice a1 m c1) w.heap.size M)] (by kernel_rfl) ?_ (w.heap.size) (w6.heap.size) rfl B6.out rfl (fun k => if k = q then 2 else if k = p2 then 4 else 3) ?_ ?_ ?_
      · intro j hj
        have hj3 : j < 14 := hj
        have hj2 : j = 0 ∨ j = 1 ∨ j = 2 ∨ j = 3 ∨ j = 4 ∨ j = 5 ∨ j = 6 ∨ j = 7 ∨ j = 8 ∨ j = 9 ∨ j = 10 ∨ j = 11 ∨ j = 12 ∨ j = 13 := by omega
        clear hj hj3
        rcases hj2 with rfl | rfl | rfl | rfl | rfl | rfl | rfl | rfl | rfl | rfl | rfl | rfl | rfl | rfl
        · exact trivial
        · exact trivial
        · exact graP_near
        · exact trivial
        · exact trivial
        · exact trivial
        · exact rowR_near
        · exact boxR_near
        · exact rowR_near
        · exact trivial
        · exact trivial
        · exact trivial
        · exact setX_near
        · exact edsX_near
      · intro j hj0 hj
        have hj1 : 10 ≤ j := hj0
        have hj3 : j < 14 := hj
        have hj2 : j = 10 ∨ j = 11 ∨ j = 12 ∨ j = 13 := by omega
        clear hj0 hj hj1 hj3
        rcases hj2 with rfl | rfl | rfl | rfl
        · exact ⟨RP6.out, (by simp [HPP.out.1, HPP.out.2])⟩
        · exact ⟨RQ6.out, if_pos rfl⟩
        · exact ⟨_, some p2, rfl, fun b e => by cases e; exact ⟨HZ6.out.lt, by simp [HPQ.out]⟩, rfl, HZ6.out.near rfl⟩
        · exact ⟨_, _, rfl, fun b e => ⟨(HEB.out b e).1, by have h5 := (HEB.out b e).2; simp [h5.1, h5.2]⟩, row_heapR HEX.out (fun _ _ => rfl), rfl⟩
      · intro i hi a wx who hG hF
        have hz : a.tmps.size = 40 := hG.size
        have hi3 : i < 10 := hi
        have hi2 : i = 0 ∨ i = 1 ∨ i = 2 ∨ i = 3 ∨ i = 4 ∨ i = 5 ∨ i = 6 ∨ i = 7 ∨ i = 8 ∨ i = 9 := by omega
        clear hi hi3
        rcases hi2 with rfl | rfl | rfl | rfl | rfl | rfl | rfl | rfl | rfl | rfl
        · exact rol_val rfl rfl rfl (by rw [hz]; decide) (ex_move (Or.inl rfl) (eval_slot ((hG.slots 9 (by decide)).trans rfl))) hG.below
        · exact rol_val rfl rfl rfl (by rw [hz]; decide) (ex_move (Or.inl rfl) (eval_slot ((hG.slots 11 (by decide)).trans rfl))) hG.below
        · obtain ⟨_, _, _, _, rfl, hm⟩ := hF 12 (by decide)
          refine rol_calls rfl rfl rfl (by rw [hz]; decide) (ex_call rfl (by simp [eval_slot (hF 0 (by decide)), eval_slot (hF 1 (by decide))]) e3) (KG.out a1 m c1 _ _ S6 wx hm HS6.out hmm6) ?_ hG.below (Nat.le_trans B6.out.size hG.new)
          rintro e w9 ⟨b9, m9, d9, rfl, hown, hb9⟩
          exact ⟨_, rfl, hb9, .inr (.inl ⟨_, _, rfl, fun b e => hown.lt b e, b9, m9, d9, rfl, row_base hown (Nat.le_trans B6.out.size hG.new), rfl⟩)⟩
        · exact rol_val rfl rfl rfl (by rw [hz]; decide) (ex_move (Or.inl rfl) (eval_slot ((hG.slots 11 (by decide)).trans rfl))) hG.below
        · exact rol_val rfl rfl rfl (by rw [hz]; decide) (ex_field rfl (eval_slot ((hG.slots 3 (by decide)).trans rfl)) (by go_simp)) hG.below
        · exact rol_val rfl rfl rfl (by rw [hz]; decide) (ex_load rfl (eval_slot (hF 4 (by decide))) (ld_ints (row2 (hF 10 (by decide)).1).2.1)) hG.below
        · obtain ⟨_, _, _, _, rfl, hm⟩ := hF 12 (by decide)
          refine rol_calls rfl rfl rfl (by rw [hz]; decide) (ex_call rfl (by simp [eval_slot (hF 3 (by decide)), eval_slot (hF 5 (by decide))]) e2) (lacks_any _ _ S6 (.slice b n2 d) g.2 wx hm (U20.out.belowB hG.below) HL2.out HGF.out) ?_ hG.below (Nat.le_trans B6.out.size hG.new)
          rw [HD6.out]
          rintro e w9 ⟨u, rfl, hown, hb9⟩
          exact ⟨u, rfl, hb9, .inr (.inl ⟨_, u.ownBlock, rfl, fun b e => hown.lt b e, row_base hown (Nat.le_trans B6.out.size hG.new), rfl⟩)⟩
        · exact rol_boxPR rfl rfl rfl rfl (eval_slot ((hG.slots 6 (by decide)).trans rfl)) (hF 2 (by decide)) (hF 11 (by decide)) hG.below hwq
        · exact rol_move rfl rfl rfl (by rw [hz]; decide) (Or.inr rfl) (hF 6 (by decide)) hG.below
        · exact rol_val rfl rfl rfl (by rw [hz]; decide) (ex_move (Or.inr rfl) rfl) hG.below
      · intro a wx who hG hF
        obtain ⟨v7, ob7, fv7, fo7, fp7⟩ := hF 8 (of_decide_eq_true (by kernel_rfl)) (of_decide_eq_true (by kernel_rfl))
        replace fv7 : a.tmps.getD 7 undef = v7 := eval_slot (s := 7) fv7
        have fv8 : a.tmps.getD 8 undef = .int .i64 0 := eval_slot (s := 8) (hF 9 (of_decide_eq_true (by kernel_rfl)) (of_decide_eq_true (by kernel_rfl)))
        obtain ⟨v35, ob35, fv35, fo35, fp35⟩ := hF 2 (of_decide_eq_true (by kernel_rfl)) (of_decide_eq_true (by kernel_rfl))
        replace fv35 : a.tmps.getD 35 undef = v35 := eval_slot (s := 35) fv35
        have hbox := hF 7 (of_decide_eq_true (by kernel_rfl)) (of_decide_eq_true (by kernel_rfl))
        have heds := hF 13 (of_decide_eq_true (by kernel_rfl)) (of_decide_eq_true (by kernel_rfl))
        obtain ⟨p35, ob35, hp35, -, -, x35, y35, hv35, hrow35⟩ := hbox
        have e35 : v35 = p35 := fv35.symm.trans (eval_slot hp35)
        subst e35
        clear hp35 ob35
        have hbx := hG.below
        have hnx := hG.new
        rw [hG.frame]
        simp only [List.foldl_cons, List.foldl_nil, List.setIfInBounds_toArray, List.set_cons_zero, List.set_cons_succ]
        generalize a.tmps.getD 33 undef = u33
        generalize a.tmps.getD 34 undef = u34
        rw [fv35]
        generalize a.tmps.getD 36 undef = u36
        generalize a.tmps.getD 37 undef = u37
        generalize a.tmps.getD 38 undef = u38
        generalize a.tmps.getD 39 undef = u39
        rw [fv7]
        rw [fv8]
        clear hF hG fv7 fv8 fv35
        obtain ⟨b9, m9, d9, hv9, hrow9, -⟩ := fp35
        rw [hv9] at hv35
        injection hv35 with hv35
        injection hv35 with hv35
        injection hv35 with hv35 hv36
        injection hv36 with hv36
        subst hv35 hv36 hv9
        obtain ⟨_, _, _, _, hed9, -⟩ := heds
        have HGO := Lib.hid (show GraO wx w.heap.size (.agg #[.slice a1 m c1, .slice b9 m9 d9]) M L from ⟨_, _, rfl, hed9, hrow9⟩); have HROW := Lib.hid fp7.1; have RQ9 := Lib.hid hrow35; have B9 := Lib.hid hbx
        clear hed9 hrow9 fp7 fo7 fo35 hrow35 hbx hnx
        go_wp2
        try simp only [Exit.inBlock, Exit.then]
        refine bodyPost_ret (v := .tuple #[.agg #[.slice a1 m c1, .slice b9 m9 d9], v7, .int .i64 0]) (results_cttR (fn := Try.f25) (q := 6) (r := 7) (s := 8) (ty := 25) rfl _ _ q 25 #[.slice a1 m c1, .slice b9 m9 d9] (0, 0) _ rfl RQ9.out Try.underlying25 rfl Try.size_gra) rfl ?_
        exact ⟨_, _, rfl, HGO.out, HROW.out, B9.out⟩
    · go_upto_region 6 with (go_at_call 43; refine (KH.out _ _ _ HZ4.out).mono ?_; rintro e w5 ⟨rfl, hb5⟩; have HZ5 := Lib.hid (HZ4.out.below hb5); have HE5 := Lib.hid (ownsRow_belowB HE4.out hb5); have RQ5 := Lib.hid (row_keepB RQ4.out hb5); have RP5 := Lib.hid (row_keepB RP4.out hb5); have B5 := Lib.hid (below_step B4.out hb5); clear hb5)
      have hE5 : Eds w5 (.slice a1 m c1) M := Eds.owned (by rw [HM.out]; exact HE5.out)
      have k5 := KD.out p2 _ w5 hE5 HZ5.out
      clear hE5
      go_upto_region 7 with (go_at_call 46; refine k5.mono ?_; rintro e w6 ⟨rfl, ⟨S6, mm6, hT, hm6, hmm⟩, hg6⟩)
      have HS6 := Lib.hid hT
      have HZ6 := Lib.hid hm6
      have HE6 := Lib.hid (row_mapped HE5.out HZ5.out hg6)
      have RQ6 := Lib.hid (show w6.heap[q]? = _ from (hg6.block q (Array.getElem?_eq_some_iff.1 RQ5.out).1 (by simp; exact HQ2.out)).trans RQ5.out)
      have RP6 := Lib.hid (show w6.heap[p]? = _ from (hg6.block p (Array.getElem?_eq_some_iff.1 RP5.out).1 (by simp; exact HP2.out)).trans RP5.out)
      have B6 := Lib.hid (B5.out.grown hg6 B5.out.size (fun k e => by cases e; have := HPN.out; omega))
      have hmm6 : mm6 ≤ 1000000 := by omega
      clear hT hm6 hg6 hmm k5
      have HD6 := Lib.hid (HDD.out S6 HS6.out); have HPQ := Lib.hid (show p2 ≠ q from fun e => HQ2.out e.symm); have HPP := Lib.hid (show p ≠ q ∧ p ≠ p2 by have := HQ.out; have := HP.out; have := HPN.out; omega)
      have HEX := Lib.hid (show w6.ownsRow w.heap.size 43 3 (.slice a1 m c1) M.length (edC M) from by rw [HM.out]; exact row_base HE6.out (by omega))
      have hne2 : ∀ b, (∃ cs t fr, w6.heap[b]? = some (.cells cs t fr)) → b ≠ p2 := fun b ⟨cs, t, fr, h⟩ e => by
        obtain ⟨_, D0, ⟨es, clock, he, _⟩, _⟩ := HZ6.out
        rw [e, he] at h; cases h
      have HEB := Lib.hid (fun b (e : (Value.slice a1 m c1).ownBlock = some b) => (show b < w6.heap.size ∧ b ≠ q ∧ b ≠ p2 from ⟨(row_cells HE6.out e).1, by have := (row_cells HE6.out e).2.1; have := HQ.out; omega, hne2 b (row_cells HE6.out e).2.2⟩))
      clear hne2
      refine rol_run (by kernel_rfl) [[], [], [0, 1], [], [], [4], [0, 1, 2, 3, 4, 5], [0, 1, 2, 3, 4, 5, 6], [0, 1, 2, 3, 4, 5, 6, 7], [0, 1, 2, 3, 4, 5, 6, 7, 8]] (by kernel_rfl) [33, 34, 35, 36, 37, 38, 39, 7, 8] [[], [], [0, 1, 12], [], [], [4, 10], [3, 5, 12], [2, 11], [6], []] [0, 0, 1, 0, 0, 0, 1, 2, 1, 0, 3, 2, 4, 3] [0, 0, 0, 0, 0, 0, 0, 2, 0, 0] [1000, 1000, 1000, 1000, 1000, 1000, 1000, 1000, 1000, 1000, 1000, 7, 1000, 1000] [.val 33 (.slice a1 m c1), .val 34 (.map (some p2)), .mem 35 (graP a1 m c1 w.heap.size L), .val 36 (.map (some p2)), .val 37 (.pointer (some ⟨p, 1, none⟩)), .val 38 (.slice b n2 d), .mem 39 (rowR w.heap.size 3 1 D.length (intZ D)), .mem 35 (boxR q 25), .mem 7 (rowR w.heap.size 3 1 D.length (intZ D)), .val 8 (.int .i64 0), .box (p) (.cells #[.slice a n1 c, .slice b n2 d] 25), .box (q) (.cells #[.slice none 0 0, .slice none 0 0] 25), .mem 11 (setX p2 mm6 S6), .mem 9 (edsX (.slice a1 m c1) w.heap.size M)] (by kernel_rfl) ?_ (w.heap.size) (w6.heap.size) rfl B6.out rfl (fun k => if k = q then 2 else if k = p2 then 4 else 3) ?_ ?_ ?_
      · intro j hj
        have hj3 : j < 14 := hj
        have hj2 : j = 0 ∨ j = 1 ∨ j = 2 ∨ j = 3 ∨ j = 4 ∨ j = 5 ∨ j = 6 ∨ j = 7 ∨ j = 8 ∨ j = 9 ∨ j = 10 ∨ j = 11 ∨ j = 12 ∨ j = 13 := by omega
        clear hj hj3
        rcases hj2 with rfl | rfl | rfl | rfl | rfl | rfl | rfl | rfl | rfl | rfl | rfl | rfl | rfl | rfl
        · exact trivial
        · exact trivial
        · exact graP_near
        · exact trivial
        · exact trivial
        · exact trivial
        · exact rowR_near
        · exact boxR_near
        · exact rowR_near
        · exact trivial
        · exact trivial
        · exact trivial
        · exact setX_near
        · exact edsX_near
      · intro j hj0 hj
        have hj1 : 10 ≤ j := hj0
        have hj3 : j < 14 := hj
        have hj2 : j = 10 ∨ j = 11 ∨ j = 12 ∨ j = 13 := by omega
        clear hj0 hj hj1 hj3
        rcases hj2 with rfl | rfl | rfl | rfl
        · exact ⟨RP6.out, (by simp [HPP.out.1, HPP.out.2])⟩
        · exact ⟨RQ6.out, if_pos rfl⟩
        · exact ⟨_, some p2, rfl, fun b e => by cases e; exact ⟨HZ6.out.lt, by simp [HPQ.out]⟩, rfl, HZ6.out.near rfl⟩
        · exact ⟨_, _, rfl, fun b e => ⟨(HEB.out b e).1, by have h5 := (HEB.out b e).2; simp [h5.1, h5.2]⟩, row_heapR HEX.out (fun _ _ => rfl), rfl⟩
      · intro i hi a wx who hG hF
        have hz : a.tmps.size = 40 := hG.size
        have hi3 : i < 10 := hi
        have hi2 : i = 0 ∨ i = 1 ∨ i = 2 ∨ i = 3 ∨ i = 4 ∨ i = 5 ∨ i = 6 ∨ i = 7 ∨ i = 8 ∨ i = 9 := by omega
        clear hi hi3
        rcases hi2 with rfl | rfl | rfl | rfl | rfl | rfl | rfl | rfl | rfl | rfl
        · exact rol_val rfl rfl rfl (by rw [hz]; decide) (ex_move (Or.inl rfl) (eval_slot ((hG.slots 9 (by decide)).trans rfl))) hG.below
        · exact rol_val rfl rfl rfl (by rw [hz]; decide) (ex_move (Or.inl rfl) (eval_slot ((hG.slots 11 (by decide)).trans rfl))) hG.below
        · obtain ⟨_, _, _, _, rfl, hm⟩ := hF 12 (by decide)
          refine rol_calls rfl rfl rfl (by rw [hz]; decide) (ex_call rfl (by simp [eval_slot (hF 0 (by decide)), eval_slot (hF 1 (by decide))]) e3) (KG.out a1 m c1 _ _ S6 wx hm HS6.out hmm6) ?_ hG.below (Nat.le_trans B6.out.size hG.new)
          rintro e w9 ⟨b9, m9, d9, rfl, hown, hb9⟩
          exact ⟨_, rfl, hb9, .inr (.inl ⟨_, _, rfl, fun b e => hown.lt b e, b9, m9, d9, rfl, row_base hown (Nat.le_trans B6.out.size hG.new), rfl⟩)⟩
        · exact rol_val rfl rfl rfl (by rw [hz]; decide) (ex_move (Or.inl rfl) (eval_slot ((hG.slots 11 (by decide)).trans rfl))) hG.below
        · exact rol_val rfl rfl rfl (by rw [hz]; decide) (ex_field rfl (eval_slot ((hG.slots 3 (by decide)).trans rfl)) (by go_simp)) hG.below
        · exact rol_val rfl rfl rfl (by rw [hz]; decide) (ex_load rfl (eval_slot (hF 4 (by decide))) (ld_ints (row2 (hF 10 (by decide)).1).2.1)) hG.below
        · obtain ⟨_, _, _, _, rfl, hm⟩ := hF 12 (by decide)
          refine rol_calls rfl rfl rfl (by rw [hz]; decide) (ex_call rfl (by simp [eval_slot (hF 3 (by decide)), eval_slot (hF 5 (by decide))]) e2) (lacks_any _ _ S6 (.slice b n2 d) g.2 wx hm (U20.out.belowB hG.below) HL2.out HGF.out) ?_ hG.below (Nat.le_trans B6.out.size hG.new)
          rw [HD6.out]
          rintro e w9 ⟨u, rfl, hown, hb9⟩
          exact ⟨u, rfl, hb9, .inr (.inl ⟨_, u.ownBlock, rfl, fun b e => hown.lt b e, row_base hown (Nat.le_trans B6.out.size hG.new), rfl⟩)⟩
        · exact rol_boxPR rfl rfl rfl rfl (eval_slot ((hG.slots 6 (by decide)).trans rfl)) (hF 2 (by decide)) (hF 11 (by decide)) hG.below hwq
        · exact rol_move rfl rfl rfl (by rw [hz]; decide) (Or.inr rfl) (hF 6 (by decide)) hG.below
        · exact rol_val rfl rfl rfl (by rw [hz]; decide) (ex_move (Or.inr rfl) rfl) hG.below
      · intro a wx who hG hF
        obtain ⟨v7, ob7, fv7, fo7, fp7⟩ := hF 8 (of_decide_eq_true (by kernel_rfl)) (of_decide_eq_true (by kernel_rfl))
        replace fv7 : a.tmps.getD 7 undef = v7 := eval_slot (s := 7) fv7
        have fv8 : a.tmps.getD 8 undef = .int .i64 0 := eval_slot (s := 8) (hF 9 (of_decide_eq_true (by kernel_rfl)) (of_decide_eq_true (by kernel_rfl)))
        obtain ⟨v35, ob35, fv35, fo35, fp35⟩ := hF 2 (of_decide_eq_true (by kernel_rfl)) (of_decide_eq_true (by kernel_rfl))
        replace fv35 : a.tmps.getD 35 undef = v35 := eval_slot (s := 35) fv35
        have hbox := hF 7 (of_decide_eq_true (by kernel_rfl)) (of_decide_eq_true (by kernel_rfl))
        have heds := hF 13 (of_decide_eq_true (by kernel_rfl)) (of_decide_eq_true (by kernel_rfl))
        obtain ⟨p35, ob35, hp35, -, -, x35, y35, hv35, hrow35⟩ := hbox
        have e35 : v35 = p35 := fv35.symm.trans (eval_slot hp35)
        subst e35
        clear hp35 ob35
        have hbx := hG.below
        have hnx := hG.new
        rw [hG.frame]
        simp only [List.foldl_cons, List.foldl_nil, List.setIfInBounds_toArray, List.set_cons_zero, List.set_cons_succ]
        generalize a.tmps.getD 33 undef = u33
        generalize a.tmps.getD 34 undef = u34
        rw [fv35]
        generalize a.tmps.getD 36 undef = u36
        generalize a.tmps.getD 37 undef = u37
        generalize a.tmps.getD 38 undef = u38
        generalize a.tmps.getD 39 undef = u39
        rw [fv7]
        rw [fv8]
        clear hF hG fv7 fv8 fv35
        obtain ⟨b9, m9, d9, hv9, hrow9, -⟩ := fp35
        rw [hv9] at hv35
        injection hv35 with hv35
        injection hv35 with hv35
        injection hv35 with hv35 hv36
        injection hv36 with hv36
        subst hv35 hv36 hv9
        obtain ⟨_, _, _, _, hed9, -⟩ := heds
        have HGO := Lib.hid (show GraO wx w.heap.size (.agg #[.slice a1 m c1, .slice b9 m9 d9]) M L from ⟨_, _, rfl, hed9, hrow9⟩); have HROW := Lib.hid fp7.1; have RQ9 := Lib.hid hrow35; have B9 := Lib.hid hbx
        clear hed9 hrow9 fp7 fo7 fo35 hrow35 hbx hnx
        go_wp2
        try simp only [Exit.inBlock, Exit.then]
        refine bodyPost_ret (v := .tuple #[.agg #[.slice a1 m c1, .slice b9 m9 d9], v7, .int .i64 0]) (results_cttR (fn := Try.f25) (q := 6) (r := 7) (s := 8) (ty := 25) rfl _ _ q 25 #[.slice a1 m c1, .slice b9 m9 d9] (0, 0) _ rfl RQ9.out Try.underlying25 rfl Try.size_gra) rfl ?_
        exact ⟨_, _, rfl, HGO.out, HROW.out, B9.out⟩
  · have hg2 : unlkG g f t = g := by unfold unlkG; rw [if_neg hk]
    have hd2 : unlkD g f t = [] := by unfold unlkD; rw [if_neg hk]
    rw [hg2, hd2]
    obtain ⟨K, hK⟩ : ∃ K, unlkK g f t = K := ⟨_, rfl⟩
    rw [hK] at kc hk ⊢
    have hkb : (K != 0) = true := by simp [hk]
    clear hg2 hd2 hK hk kk hf hff hft hl20 hnn1
    go_enter Try.func25, Try.ntmps25
    go_upto_region 1 with fail
    rw [HW.out, HQ.out, HP.out]
    go_wp2_with (first
      | (go_at_call 39; refine (kc _ hG.out).mono ?_; rintro e w1 ⟨v, rfl, hx, hb1⟩; replace BB := Lib.hid (below_step BB.out hb1); replace R1 := Lib.hid (row_keepB R1.out hb1); replace d0 := cell_keep d0 hb1; replace d1 := cell_keep d1 hb1; replace U1 := Lib.hid (U1.out.below hb1); replace U2 := Lib.hid (U2.out.belowB hb1); clear hb1 hx kc)
      | (go_at_call 41; refine (rown_any a b n1 c n2 d g.1 g.2 _ U1.out U2.out (by omega) (by omega)).mono ?_; rintro e w2 ⟨v2, rfl, hx2, hb2⟩; obtain ⟨a2, c2, b2, d2, rfl, -, -⟩ := hx2.forms; rw [HN1.out, HN2.out]; have HX := Lib.hid hx2; have HS := Lib.hid (show w.heap.size + 2 ≤ w1.heap.size from by have := (Array.getElem?_eq_some_iff.1 R1.out).1; have := HQ.out; omega); replace BB := Lib.hid (below_step BB.out hb2); replace R1 := Lib.hid (row_keepB R1.out hb2); obtain ⟨x0, x1, f0, f1⟩ := row2 R1.out; clear hb2 hx2))
    have hbel := (BB.out.setCell (p := ⟨q, 0, none⟩) hwq (.slice a2 n1 c2)).setCell (p := ⟨q, 1, none⟩) hwq (.slice b2 n2 d2)
    obtain ⟨y1, y2, hy, hr1, hr2⟩ := HX.out
    rw [HN1.out, HN2.out] at hy
    injection hy with hy
    injection hy with hy
    injection hy with hy1 hy2
    injection hy2 with hy2
    subst hy1 hy2
    have hq2 : q < w1.heap.size + 1 := by have := HS.out; have := HQ.out; omega
    have hrow1 := row_far1 (row_far1 hr1 (g := q) (i := 0) hq2 (.slice a2 n1 c2)) (g := q) (i := 1) hq2 (.slice b2 n2 d2)
    have hrow2 := row_far1 (row_far1 hr2 (g := q) (i := 0) hq2 (.slice a2 n1 c2)) (g := q) (i := 1) hq2 (.slice b2 n2 d2)
    have hset := row2_set R1.out (.slice a2 n1 c2) (.slice b2 n2 d2)
    have hle : w.heap.size ≤ w1.heap.size + 1 := by have := HS.out; omega
    refine bodyPost_ret (v := .tuple #[.agg #[.slice a2 n1 c2, .slice b2 n2 d2], .slice none 0 0, .int .i64 K]) (results_cttR (fn := Try.f25) (q := 6) (r := 7) (s := 8) (ty := 25) rfl _ _ q 25 #[.slice a2 n1 c2, .slice b2 n2 d2] (0, 0) _ rfl hset Try.underlying25 rfl Try.size_gra) rfl ?_
    exact ⟨_, _, rfl, ⟨_, _, rfl, row_base hrow1 hle, row_base hrow2 hle⟩, World.ownsRow_nil _ _ _ _, hbel⟩
end Go.Proofs.Ytfkbpkjejnpaiaa
