/- Graphs: Same, known, graph, Of, Check: of the program. -/
import Derived.Test.YtfkbpkjejnpaiaaReaH
import Derived.Test.YtfkbpkjejnpaiaaReaB
namespace Go.Proofs.Ytfkbpkjejnpaiaa
open Go.RowKit Go.Maps
set_option linter.unusedVariables false
set_option maxRecDepth 100000

/-- A graph that is read. -/
structure Gra (w : World) (v : Value) (g : Gr) : Prop where
  ex : ∃ a c b d, v = .agg #[.slice a g.1.length c, .slice b g.2.length d] ∧ Eds w (.slice a g.1.length c) g.1 ∧ Ints w (.slice b g.2.length d) g.2
theorem Gra.below {w w' : World} {v : Value} {g : Gr} (h : Gra w v g) (hb : Below w.heap.size w w') : Gra w' v g := by
  obtain ⟨a, c, b, d, rfl, h1, h2⟩ := h.ex
  exact ⟨a, c, b, d, rfl, h1.below hb, h2.belowB hb⟩
theorem GraO.gra {w : World} {N : Nat} {v : Value} {K : List Ed} {T : List Int} (h : GraO w N v K T) : Gra w v (K, T) := by
  obtain ⟨a, c, b, d, rfl, h1, h2⟩ := h.forms
  exact ⟨a, c, b, d, rfl, h1, h2⟩
theorem gra_none (w : World) : Gra w (.agg #[.slice none 0 0, .slice none 0 0]) ([], []) := ⟨none, 0, none, 0, rfl, eds_none w, Ints.nil w⟩
theorem Gra.mk' {w : World} {a b : Option Addr} {n c m d : Nat} {E : List Ed} {L : List Int} (h1 : Eds w (.slice a n c) E) (h2 : Ints w (.slice b m d) L) : Gra w (.agg #[.slice a n c, .slice b m d]) (E, L) := by
  obtain ⟨e1, -, -⟩ := h1.lenE
  obtain ⟨e2, -, -⟩ := h2.lenE
  subst e1 e2
  exact ⟨a, c, b, d, rfl, h1, h2⟩

set_option maxHeartbeats 1600000 in
theorem gsame_any (U V : Value) (g h : Gr) (w : World) (hu : Gra w U g) (hv : Gra w V h) :
    Calls Try.prog 15 #[U, V] w fun e w' => e = .returned (.bool (decide (g = h))) ∧ Below w.heap.size w w' := by
  obtain ⟨a, c, b, d, rfl, u1, u2⟩ := hu.ex
  obtain ⟨a', c', b', d', rfl, v1, v2⟩ := hv.ex
  obtain ⟨W, p, q, hW, hp, hq, r0, r1, hb⟩ := boxR2 w (.slice a g.1.length c) (.slice b g.2.length d) (.slice a' h.1.length c') (.slice b' h.2.length d') 25 25
  obtain ⟨g1, g2⟩ := g
  obtain ⟨h1, h2⟩ := h
  simp only at u1 u2 v1 v2 hW r0 r1 ⊢
  obtain ⟨n1, hn1⟩ : ∃ n, g1.length = n := ⟨_, rfl⟩
  obtain ⟨n2, hn2⟩ : ∃ n, g2.length = n := ⟨_, rfl⟩
  obtain ⟨m1, hm1⟩ : ∃ n, h1.length = n := ⟨_, rfl⟩
  obtain ⟨m2, hm2⟩ : ∃ n, h2.length = n := ⟨_, rfl⟩
  rw [hn1, hn2, hm1, hm2] at hW ⊢
  rw [hn1, hn2] at r0
  rw [hm1, hm2] at r1
  rw [hn1] at u1
  rw [hn2] at u2
  rw [hm1] at v1
  rw [hm2] at v2
  obtain ⟨d0, d1, -, -⟩ := row2 r0
  obtain ⟨e0, e1, -, -⟩ := row2 r1
  have U1 := Lib.hid (u1.below hb); have U2 := Lib.hid (u2.belowB hb); have V1 := Lib.hid (v1.below hb); have V2 := Lib.hid (v2.belowB hb)
  have hdec : decide ((g1, g2) = (h1, h2)) = (decide (g1 = h1) && decide (g2 = h2)) := by by_cases x : g1 = h1 <;> by_cases y : g2 = h2 <;> simp [x, y]
  rw [hdec]
  have k1 := fun w h h' => eeq_any (.slice a n1 c) (.slice a' m1 c') g1 h1 w h h'
  have k2 := fun w h h' => ieq_any (.slice b n2 d) (.slice b' m2 d') g2 h2 w h h'
  obtain ⟨o, ho⟩ : ∃ o, decide (g1 = h1) = o := ⟨_, rfl⟩
  obtain ⟨x, hx⟩ : ∃ x, decide (g2 = h2) = x := ⟨_, rfl⟩
  rw [ho] at k1
  rw [hx] at k2
  rw [ho, hx]
  have HW := Lib.hid hW; have HP := Lib.hid hp; have HQ := Lib.hid hq; have B := Lib.hid hb
  clear u1 u2 v1 v2 hu hv hW hp hq r0 r1 hb hdec ho hx hn1 hn2 hm1 hm2
  cases o
  · go_enter Try.func15, Try.ntmps15
    go_upto_region 1 with fail
    rw [HW.out, HQ.out, HP.out]
    go_wp2_with (go_at_call 34; refine (k1 _ U1.out V1.out).mono ?_; rintro e w1 ⟨rfl, hb1⟩; replace B := Lib.hid (below_step B.out hb1); clear hb1 k1)
    go_ret
    exact ⟨rfl, B.out⟩
  · go_enter Try.func15, Try.ntmps15
    go_upto_region 1 with fail
    rw [HW.out, HQ.out, HP.out]
    go_wp2_with (first
      | (go_at_call 34; refine (k1 _ U1.out V1.out).mono ?_; rintro e w1 ⟨rfl, hb1⟩; replace B := Lib.hid (below_step B.out hb1); replace d1 := cell_keep d1 hb1; replace e1 := cell_keep e1 hb1; replace U2 := Lib.hid (U2.out.belowB hb1); replace V2 := Lib.hid (V2.out.belowB hb1); clear hb1 k1)
      | (go_at_call 35; refine (k2 _ U2.out V2.out).mono ?_; rintro e w2 ⟨rfl, hb1⟩; replace B := Lib.hid (below_step B.out hb1); clear hb1 k2))
    go_ret
    exact ⟨rfl, B.out⟩

set_option maxHeartbeats 800000 in
theorem known_any (V : Value) (g : Gr) (w : World) (h : Gra w V g) (hl : g.2.length ≤ 1000000) (hf : ∀ z ∈ g.2, fitI z) :
    Calls Try.prog 42 #[V] w fun e w' => ∃ b, e = .returned (.map (some b)) ∧ w.heap.size ≤ b ∧ ZMap w' b (g.2.length + 1) (addI (setI g.2) (-1)) ∧ Below w.heap.size w w' := by
  obtain ⟨a, c, b, d, rfl, u1, u2⟩ := h.ex
  obtain ⟨g1, g2⟩ := g
  simp only at u1 u2 hl hf ⊢
  have ks := fun w h => setof_any (.slice b g2.length d) g2 w h hl hf
  obtain ⟨n1, hn1⟩ : ∃ n, g1.length = n := ⟨_, rfl⟩
  obtain ⟨n2, hn2⟩ : ∃ n, g2.length = n := ⟨_, rfl⟩
  rw [hn2] at ks u2 hl
  rw [hn1, hn2]
  obtain ⟨W, p, hW, hp, r0, hb⟩ := boxR1 w (.slice a n1 c) (.slice b n2 d) 25
  obtain ⟨d0, d1, -, -⟩ := row2 r0
  have U2 := Lib.hid (u2.belowB hb); have HW := Lib.hid hW; have HP := Lib.hid hp; have B := Lib.hid hb
  clear h u1 u2 hW hp r0 hb hf hn1 hn2
  go_enter Try.func42, Try.ntmps42
  go_upto_region 1 with fail
  rw [HW.out, HP.out]
  go_wp2_with (first
    | (go_at_call 30; refine (ks _ U2.out).mono ?_; rintro e w1 ⟨s, rfl, hs, hm, hb1⟩; have HM := Lib.hid hm; have HS := Lib.hid (Nat.le_trans B.out.size hs); replace B := Lib.hid (below_step B.out hb1); clear hb1 hm hs ks)
    | (go_at_call 49; refine (put_any _ _ _ (-1) _ HM.out ⟨by decide, by decide⟩ (by omega)).mono ?_; rintro e w2 ⟨rfl, hm2, hg2⟩; have HM2 := Lib.hid hm2; have B2 := Lib.hid (B.out.grown hg2 B.out.size (fun k e => by cases e; exact HS.out)); clear hm2 hg2))
  go_ret
  exact ⟨_, rfl, HS.out, HM2.out, B2.out⟩

set_option maxHeartbeats 1600000 in
theorem graph_any (A : Option Addr) (n c : Nat) (l : List Ed) (b nn : Nat) (S : List Int) (w : World) (hz : ZMap w b nn S) (hf : ∀ e ∈ l, fitE e) (hS : ∀ z, z ∈ S ↔ Way l (-1) z) (hnn : nn ≤ 1000000) :
    Calls Try.prog 32 #[.slice A n c, .map (some b)] w fun e w' => ∃ B m d, e = .returned (.agg #[.slice A n c, .slice B m d]) ∧ w'.ownsRow w.heap.size 3 1 (.slice B m d) (liveE l).length (intZ (liveE l)) ∧ Below w.heap.size w w' := by
  have hfs : ∀ z ∈ S, fitI z := fun z hz => by
    rcases ((hS z).1 hz).last with rfl | ⟨y, -, e, he, -, rfl⟩
    · exact ⟨by decide, by decide⟩
    · exact (hf e he).2.1
  have hlive : minusI (riseI S) (setI [-1]) = liveE l := live_of hz.nodup hS
  have hrl : (riseI S).length ≤ 1000000 := by rw [rise_len]; have := hz.len; omega
  have hrf : ∀ z ∈ riseI S, fitI z := fun z h => hfs z (rise_mem.1 h)
  have kr := fun w h => rising_any b nn S w h hfs (by omega)
  obtain ⟨X, hX⟩ : ∃ X, riseI S = X := ⟨_, rfl⟩
  rw [hX] at hlive hrl hrf kr
  obtain ⟨k, hk⟩ : ∃ k, X.length = k := ⟨_, rfl⟩
  obtain ⟨L, hL⟩ : ∃ L, liveE l = L := ⟨_, rfl⟩
  rw [hL] at hlive ⊢
  obtain ⟨W, g, hW, hg, r0, hb⟩ := boxR1 w (.slice none 0 0) (.slice none 0 0) 25
  have HZ := Lib.hid (hz.below hb); have HL := Lib.hid hlive; have HRL := Lib.hid hrl; have HRF := Lib.hid hrf; have KR := Lib.hid kr; have HK := Lib.hid hk
  have HW := Lib.hid hW; have HG := Lib.hid hg; have BB := Lib.hid hb; have R0 := Lib.hid r0
  have one := Lib.hid (fun w : World => Ints.lit1 w (-1) 3)
  clear hz hf hS hfs hlive hrl hrf kr hk hX hL hW hg hb r0
  go_enter Try.func32, Try.ntmps32
  go_upto_region 1 with fail
  rw [HW.out, HG.out]
  have B1 := Lib.hid ((Below.refl W.heap.size W).alloc (Nat.le_refl _) (.cells #[.int .i64 (-1)] 3))
  go_wp2_with (first
    | (go_at_call 30; refine (setof_any _ [-1] _ (one.out W) (by simp) (fun z hz => by rw [List.mem_singleton.1 hz]; exact ⟨by decide, by decide⟩)).mono ?_; rintro e w1 ⟨s, rfl, hs, hm, hb1⟩; have HM := Lib.hid hm; have HZ1 := Lib.hid ((HZ.out.below B1.out).below hb1); have R1 := Lib.hid (row_keepB (row_keepB R0.out B1.out) hb1); replace BB := Lib.hid (below_step (below_step BB.out B1.out) hb1); clear hb1 hm hs)
    | (go_at_call 51; refine (KR.out _ HZ1.out).mono ?_; rintro e w2 ⟨v2, rfl, hrow, hb2⟩; obtain ⟨a2, c2, rfl, hI2⟩ := intsZ hrow; have SI := Lib.hid hI2; replace HM := Lib.hid (HM.out.below hb2); replace BB := Lib.hid (below_step BB.out hb2); replace R1 := Lib.hid (row_keepB R1.out hb2); clear hb2 hrow hI2)
    | (go_at_call 44; refine (lacks_any _ _ _ _ X _ HM.out SI.out HRL.out HRF.out).mono ?_; rintro e w3 ⟨v3, rfl, hrow, hb3⟩; rw [HL.out] at hrow; obtain ⟨a3, c3, rfl, -⟩ := intsZ hrow; have HROW := Lib.hid (row_base hrow (show w.heap.size + 1 ≤ w2.heap.size from by have := BB.out.size; have := (Array.getElem?_eq_some_iff.1 R1.out).1; rw [← HG.out] at this; omega)); replace BB := Lib.hid (below_step BB.out hb3); replace R1 := Lib.hid (row_keepB R1.out hb3); obtain ⟨d0, d1, f0, f1⟩ := row2 R1.out; clear hb3 hrow))
  have hgw : w.heap.size ≤ g := by rw [HG.out]; exact Nat.le_refl _
  have hbel := (BB.out.setCell (p := ⟨g, 0, none⟩) hgw (.slice A n c)).setCell (p := ⟨g, 1, none⟩) hgw (.slice a3 L.length c3)
  have hrow := row_far1 (row_far1 HROW.out (g := g) (i := 0) (by rw [← HG.out]; omega) (.slice A n c)) (g := g) (i := 1) (by rw [← HG.out]; omega) (.slice a3 L.length c3)
  have hset := row2_set R1.out (.slice A n c) (.slice a3 L.length c3)
  refine bodyPost_ret (v := .agg #[.slice A n c, .slice a3 L.length c3]) (results_cell_row (fn := Try.f32) (p := 4) (ty := 25) rfl _ _ g 25 #[.slice A n c, .slice a3 L.length c3] (0, 0) _ rfl hset Try.underlying25 rfl Try.size_gra) rfl ?_
  exact ⟨a3, L.length, c3, rfl, row_base hrow (Nat.le_succ _), hbel⟩

/-! ### Of -/
theorem eds_lit1 {w : World} {a : Option Addr} {n c : Nat} {l : List Ed} (h : Eds w (.slice a n c) l) (t : TypeId) : EdsL (w.alloc (.cells #[.slice a n c] t)) (.slice (some ⟨w.heap.size, 0, none⟩) 1 1) [l] :=
  ⟨w.heap.size, 0, 1, rfl, Nat.le_refl _, by unfold maxLen; omega, fun j hj => by
    have : j = 0 := by simp at hj; omega
    subst this
    exact ⟨a, n, c, cell_new rfl rfl, h.below ((Below.refl _ _).alloc (Nat.le_refl _) _)⟩⟩
theorem gra_at {w : World} {g : Nat} {x y : Value} (h : w.heap[g]? = some (.cells #[x, y] 25 (0, 0))) : w.cell? ⟨g, 0, none⟩ = some x ∧ w.cell? ⟨g, 1, none⟩ = some y := ⟨(row2 h).1, (row2 h).2.1⟩
set_option maxHeartbeats 3200000 in
theorem gof_any (V : Value) (l : List Ed) (w : World) (h : Eds w V l) (hl : l.length ≤ 200) (hf : ∀ e ∈ l, fitE e) :
    Calls Try.prog 12 #[V] w fun e w' => ∃ v, e = .returned (.tuple #[v, .int .i64 (chkE l)]) ∧ GraO w' w.heap.size v (gOf l).1 (gOf l).2 ∧ Below w.heap.size w w' := by
  obtain ⟨a, c, rfl, -⟩ := h.ex
  have kc := fun w h => check_any (.slice a l.length c) l w h
  obtain ⟨W, g, hW, hg, r0, hb⟩ := boxR1 w (.slice none 0 0) (.slice none 0 0) 25
  obtain ⟨o, ho⟩ : ∃ o, okE l = o := ⟨_, rfl⟩
  cases o
  · rw [gOf_no ho]
    unfold chkE at kc ⊢
    rw [ho] at kc ⊢
    simp only [Bool.false_eq_true, if_false] at kc ⊢
    obtain ⟨n, hn⟩ : ∃ n, l.length = n := ⟨_, rfl⟩
    rw [hn] at h kc ⊢
    have S0 := Lib.hid (h.below hb); have HW := Lib.hid hW; have HG := Lib.hid hg; have BB := Lib.hid hb; have R0 := Lib.hid r0
    clear h hb hW hg r0 ho hn hf
    go_enter Try.func12, Try.ntmps12
    go_upto_region 1 with fail
    rw [HW.out, HG.out]
    go_wp2_with (go_at_call 29; refine (kc _ S0.out).mono ?_; rintro e w1 ⟨rfl, hb1⟩; replace BB := Lib.hid (below_step BB.out hb1); replace R0 := Lib.hid (row_keepB R0.out hb1); obtain ⟨d0, d1, f0, f1⟩ := row2 R0.out; clear hb1 kc)
    have hgw : w.heap.size ≤ g := by rw [HG.out]; exact Nat.le_refl _
    have hbel := (BB.out.setCell (p := ⟨g, 0, none⟩) hgw (.slice none 0 0)).setCell (p := ⟨g, 1, none⟩) hgw (.slice none 0 0)
    have hset := row2_set R0.out (.slice none 0 0) (.slice none 0 0)
    refine bodyPost_ret (v := .tuple #[.agg #[.slice none 0 0, .slice none 0 0], .int .i64 1]) (results_ctR (fn := Try.f12) (q := 2) (r := 3) (ty := 25) rfl _ _ g 25 #[.slice none 0 0, .slice none 0 0] (0, 0) _ rfl hset Try.underlying25 rfl Try.size_gra) rfl ?_
    exact ⟨_, rfl, ⟨_, _, rfl, World.ownsRow_nil _ _ _ _, World.ownsRow_nil _ _ _ _⟩, hbel⟩
  · rw [gOf_ok ho]
    unfold chkE at kc ⊢
    rw [ho] at kc ⊢
    simp only [if_true] at kc ⊢
    have ks := fun (bb : Nat) (w' : World) h hz => spread_any (.slice a l.length c) l bb 0 [] (-1) w' h hz ho hf ⟨by decide, by decide⟩ (by omega) (by omega)
    have kg := fun (A : Option Addr) (n c b nn : Nat) (S : List Int) (w' : World) hz hS hnn => graph_any A n c l b nn S w' hz hf hS hnn
    obtain ⟨n, hn⟩ : ∃ n, l.length = n := ⟨_, rfl⟩
    rw [hn] at h kc ks hl ⊢
    have S0 := Lib.hid (h.below hb); have HW := Lib.hid hW; have HG := Lib.hid hg; have BB := Lib.hid hb; have R0 := Lib.hid r0; have KS := Lib.hid ks; have KG := Lib.hid kg; have HN := Lib.hid hn
    clear h hb hW hg r0 ho hf ks kg hn
    go_enter Try.func12, Try.ntmps12
    go_upto_region 1 with fail
    rw [HW.out, HG.out]
    have hgw : w.heap.size ≤ g := by rw [HG.out]; exact Nat.le_refl _
    have hgW : g < W.heap.size := (Array.getElem?_eq_some_iff.1 R0.out).1
    go_upto_region 6 with (first
      | (go_at_call 29; refine (kc _ S0.out).mono ?_; rintro e w1 ⟨rfl, hb1⟩; replace BB := Lib.hid (below_step BB.out hb1); have R1 := Lib.hid (row_keepB R0.out hb1); have S1 := Lib.hid (S0.out.below hb1); have HS1 := Lib.hid hb1.size; clear hb1 kc)
      | (go_at_call 30; refine (setof_any _ [] _ (Ints.nil _) (by simp) (by simp)).mono ?_; rintro e w2 ⟨s, rfl, hs, hm, hb2⟩; have HM := Lib.hid hm; have R2 := Lib.hid (row_keepB R1.out hb2); have S2 := Lib.hid (S1.out.below hb2); replace BB := Lib.hid (below_step BB.out hb2); have HSW := Lib.hid (show W.heap.size ≤ s from Nat.le_trans HS1.out hs); clear hb2 hm hs)
      | (go_at_call 31; refine (KS.out s _ S2.out HM.out).mono ?_; rintro e w3 ⟨rfl, ⟨T, mm, hT, hm3, hmm⟩, hg3⟩; have HT := Lib.hid (reach_of hT); have HM3 := Lib.hid hm3; have S3 := Lib.hid (S2.out.keep HM.out hg3); have R3 := Lib.hid (show w3.heap[g]? = _ from (hg3.block g (Array.getElem?_eq_some_iff.1 R2.out).1 (by have := HSW.out; simp; omega)).trans R2.out); have B3 := Lib.hid (BB.out.grown hg3 BB.out.size (fun k e => by cases e; have := HSW.out; omega)); clear hg3 hm3 hT))
    have B4 := Lib.hid ((Below.refl w3.heap.size w3).alloc (Nat.le_refl _) (.cells #[.slice a n c] 22))
    have EL := Lib.hid (eds_lit1 S3.out 22)
    go_wp2_with (first
      | (go_at_call 33; refine (ed_concat _ [l] _ EL.out (by simp) (by simp; rw [HN.out]; omega)).mono ?_; rintro e w5 ⟨v5, rfl, hrow, hb5⟩; rw [List.flatten_cons, List.flatten_nil, List.append_nil] at hrow; obtain ⟨a5, c5, rfl, -⟩ := edsO hrow; rw [HN.out] at hrow ⊢; have HE := Lib.hid (row_base hrow (show w.heap.size + 1 ≤ _ from by have := (Array.getElem?_eq_some_iff.1 (row_keepB R3.out B4.out)).1; have := HG.out; omega)); have HM5 := Lib.hid ((HM3.out.below B4.out).below hb5); have R5 := Lib.hid (row_keepB (row_keepB R3.out B4.out) hb5); have B5 := Lib.hid (below_step (below_step B3.out B4.out) hb5); clear hb5 hrow)
      | (go_at_call 32; refine (KG.out a5 n c5 s mm T _ HM5.out HT.out (by omega)).mono ?_; rintro e w6 ⟨b6, m6, d6, rfl, hrow, hb6⟩; have HL := Lib.hid (row_base hrow (show w.heap.size + 1 ≤ _ from by have := (Array.getElem?_eq_some_iff.1 R5.out).1; have := HG.out; omega)); have HE6 := Lib.hid (ownsRow_belowB HE.out hb6); have R6 := Lib.hid (row_keepB R5.out hb6); have B6 := Lib.hid (below_step B5.out hb6); obtain ⟨d0, d1, f0, f1⟩ := row2 R6.out; clear hb6 hrow))
    have hbel := (B6.out.setCell (p := ⟨g, 0, none⟩) hgw (.slice a5 n c5)).setCell (p := ⟨g, 1, none⟩) hgw (.slice b6 m6 d6)
    have hrow1 := row_far1 (row_far1 HE6.out (g := g) (i := 0) (by rw [← HG.out]; omega) (.slice a5 n c5)) (g := g) (i := 1) (by rw [← HG.out]; omega) (.slice b6 m6 d6)
    have hrow2 := row_far1 (row_far1 HL.out (g := g) (i := 0) (by rw [← HG.out]; omega) (.slice a5 n c5)) (g := g) (i := 1) (by rw [← HG.out]; omega) (.slice b6 m6 d6)
    have hset := row2_set R6.out (.slice a5 n c5) (.slice b6 m6 d6)
    refine bodyPost_ret (v := .tuple #[.agg #[.slice a5 n c5, .slice b6 m6 d6], .int .i64 0]) (results_ctR (fn := Try.f12) (q := 2) (r := 3) (ty := 25) rfl _ _ g 25 #[.slice a5 n c5, .slice b6 m6 d6] (0, 0) _ rfl hset Try.underlying25 rfl Try.size_gra) rfl ?_
    refine ⟨_, rfl, ⟨_, _, rfl, ?_, row_base hrow2 (Nat.le_succ _)⟩, hbel⟩
    rw [HN.out]
    exact row_base hrow1 (Nat.le_succ _)
end Go.Proofs.Ytfkbpkjejnpaiaa
