/- THE TEXTS OF WhyS WhyT WhyU: How far each node that is reached is away: of the program. Which needs lead on; the least of nodes. The chain to a node: of the program. -/
import Derived.Test.YtdefphacdcbljaaGreatWhyR
namespace Go.Proofs.YtdefphacdcbljaaGreat
open Go.RowKit Go.Maps Go.ChangeShapes Go.WideShapes
set_option linter.unusedVariables false
set_option maxRecDepth 100000

section
variable {wr : World} {ops : Array Oper} {rest : List Oper} {o : Oper} {a : Act} {Q : Exit → Act → World → Prop}
/-- 'm[n] = z'. -/
theorem wpList_put_cmap (hgd : o.guard = none) (m x y : Operand) (ho : o.op = .mapUpdate 52 m x y) {b n : Nat} {K : List Nd} {f : Nd → Int} {p v : List UInt8} (hm : a.eval m = .map (some b)) (h : CMap wr b n K f) (hx : a.eval x = .agg #[.string (mkB p), .string (mkB v)]) (hf : fitsN (p, v))
    {z : Int} (hz : fitI z) (hy : a.eval y = .int .i64 z) (hn : n ≤ 2000000) (hK : ∀ w', CMap w' b (n + 1) (K ++ [(p, v)]) (fun m => if m = (p, v) then z else f m) → wr.grownBy w' (some b) → wpList Tryz.prog ops Q rest (a.put o.dst undef) w') : wpList Tryz.prog ops Q (o :: rest) a wr := by
  obtain ⟨hfk, h0, D, hown, hD⟩ := h
  have hwf : (Lit.int .i64 z).wf = true := by
    show (decide (IntKind.i64.min ≤ z) && decide (z ≤ IntKind.i64.max)) = true
    rw [Bool.and_eq_true, decide_eq_true_eq, decide_eq_true_eq]
    exact hz
  refine wpList_mapUpdate_own _ hgd m x y 52 ho 24 3 node_keyed Tryz.underlying52 (plainElem Tryz.prog 3) b n D hm hown (by unfold maxLen; omega) _ _ (litN (p, v)) hx hy (key_n (p, v) hf.1 hf.2) (.lit (.int .i64 z)) [] (plainElem_int Tryz.underlying3 hwf) ?_
  intro w1 hown1 hgrow1
  refine hK w1 ⟨fits_step hfk hf, fun m hm => ?_, _, hown1, cmap_put hown.isMap hf hD⟩ hgrow1
  have h1 : m ∉ K ∧ m ≠ (p, v) := by
    rw [List.mem_append, not_or] at hm
    exact ⟨hm.1, fun e => hm.2 (by rw [e]; simp)⟩
  rw [if_neg h1.2, h0 m h1.1]
/-- 'l = append(l, m...)', l the call's own. -/
theorem wpList_app_nd19 (hgd : o.guard = none) (s x : Operand) (ho : o.op = .call { callee := .builtin .append, args := #[s, x], argTypes := #[31, 31] })
    (base : Nat) (V : Value) (K : List Nd) (n : Nat) (hn : K.length = n) (hs : a.eval s = V) (hown : wr.ownsRow base 24 2 V n (ndsC K)) (A : Option Addr) (m c : Nat) (L : List Nd) (hx : a.eval x = .slice A m c) (hN : Nds wr (.slice A m c) L) (hlen : n + m ≤ 2000000) (hbase : base ≤ wr.heap.size)
    (h : ∀ a' c' w', w'.ownsRow base 24 2 (.slice a' (n + m) c') (n + m) (ndsC (K ++ L)) → wr.grownBy w' V.ownBlock → wpList Tryz.prog ops Q rest (a.put o.dst (.slice a' (n + m) c')) w') :
    wpList Tryz.prog ops Q (o :: rest) a wr := by
  refine wpList_plain hgd fun K' hK' => ?_
  obtain ⟨v', w', hr, h2, h3, -⟩ := run_app_ndW hown hN hlen hbase o.type
  have hm : m = L.length := hN.lenE.1.symm
  have ho2 : w'.ownsRow base 24 2 v' (K ++ L).length (ndsC (K ++ L)) := by rw [List.length_append, hn, ← hm]; exact h2
  obtain ⟨a', c', hv, _⟩ := ndsO ho2
  rw [List.length_append, hn, ← hm] at hv
  subst hv
  have hk := h a' c' w' h2 h3
  unfold Oper.wp
  simp [execOp, ho, resolve, invoke, builtin, hs, hx, hr, Result.andThen]
  exact hK' _ _ hk
end
theorem Nds.kept19 {w w' : World} {a : Option Addr} {n c : Nat} {l : List Nd} (h : Nds w (.slice a n c) l) {row : Option Nat} (hg : w.grownBy w' row) (hne : ∀ ad, a = some ad → row ≠ some ad.block) : Nds w' (.slice a n c) l := by
  obtain ⟨a0, c0, hv, h1, h2, h3, h4⟩ := h.ex
  refine ⟨a0, c0, hv, h1, h2, h3, fun hp => ?_⟩
  obtain ⟨b, off, ha, hlt, hc⟩ := h4 hp
  injection hv with e1 e2 e3
  have hb : w'.heap[b]? = w.heap[b]? := hg.block b hlt fun q => hne ⟨b, off, none⟩ (by rw [e1, ha]) q.symm
  refine ⟨b, off, ha, Nat.lt_of_lt_of_le hlt hg.size, fun j hj => ?_⟩
  have k : ∀ i, w'.cell? ⟨b, i, none⟩ = w.cell? ⟨b, i, none⟩ := fun i => World.cell?_of_block hb
  rw [k, k]
  exact hc j hj
/-- A row that is not empty lies in no map. -/
theorem Nds.nomap {w : World} {a : Option Addr} {n c b nn : Nat} {l K : List Nd} {f : Nd → Int} (h : Nds w (.slice a n c) l) (hm : CMap w b nn K f) (hl : 0 < l.length) : ∀ ad, a = some ad → ad.block < w.heap.size ∧ ad.block ≠ b := by
  intro ad e
  obtain ⟨a0, c0, hv, -, -, -, h4⟩ := h.ex
  obtain ⟨b', off, ha, hlt, hc⟩ := h4 hl
  injection hv with e1 e2 e3
  have ead : ad = ⟨b', off, none⟩ := Option.some.inj (by rw [← e, e1, ha])
  subst ead
  refine ⟨hlt, fun q => ?_⟩
  obtain ⟨-, -, D, ⟨es, clock, hb, -⟩, -⟩ := hm
  have := (hc 0 hl).1
  simp only at q
  subst q
  simp [World.cell?, hb] at this
theorem CMap.grow19 {w w' : World} {b nn : Nat} {K : List Nd} {f : Nd → Int} {N n : Nat} {V : Value} {xs : List Value} (h : CMap w b nn K f) (hV : w.ownsRow N 24 2 V n xs) (hN : b < N) (hg : w.grownBy w' V.ownBlock) : CMap w' b nn K f :=
  h.kept hg fun q => by have := (own_lt hV q.symm).1; omega
theorem fitN19 {n : Nd} (h : smallN n) : fitsN n := ⟨Nat.le_trans h.1 (by decide), Nat.le_trans h.2 (by decide)⟩
theorem fitNe19 {d : Ne} (h : smallNe d) : fitNe d := ⟨fitN19 h.1, fitN19 h.2⟩
theorem boxNd (w : World) (x y : Value) (t : TypeId) : ∃ W p, w.alloc (.cells #[x, y] t) = W ∧ w.heap.size = p ∧ W.cell? ⟨p, 0, none⟩ = some x ∧ W.cell? ⟨p, 1, none⟩ = some y ∧ Below w.heap.size w W :=
  ⟨_, _, rfl, rfl, cell_new rfl rfl, cell_new rfl rfl, (Below.refl _ _).alloc (Nat.le_refl _) _⟩

set_option maxHeartbeats 3200000 in
theorem wdepths_any (V : Value) (l : List Ne) (w : World) (h : Nes w V l) (hm : mayK l = true) (hs : ∀ d ∈ l, smallNe d) (hl : l.length ≤ 1000) :
    Calls Tryz.prog 21 #[V] w fun e w' => ∃ b K, e = .returned (.map (some b)) ∧ CMap w' b K.length K (fun n => (farW l n : Int)) ∧ (∀ n, n ∈ K ↔ 0 < farW l n) ∧ K.length ≤ l.length ∧ Below w.heap.size w w' := by
  obtain ⟨a, c, rfl, -, -, -, -⟩ := h.ex
  have eg : ∀ args w, (callFunc 39 args).run Tryz.prog w = .ok (.enter 39 args) w := enters_of Tryz.func39 (by kernel_rfl) rfl
  have eq : ∀ args w, (callFunc 48 args).run Tryz.prog w = .ok (.enter 48 args) w := enters_of Tryz.func48 (by kernel_rfl) rfl
  have KA := Lib.hid (wasked_any 39 #[] eg (·.1) (·.2) ends_w _ l w h (by omega) (fun d hd => (fitNe19 (hs d hd)).1))
  have hmm := make_cmap19
  have HFT := Lib.hid (show ∀ n, 0 < farW l n → fitsN n from fun n hn => by
    obtain ⟨d, hd, rfl⟩ := List.mem_map.1 (far_to hm hn)
    exact (fitNe19 (hs d hd)).2)
  have hll : l.length * l.length ≤ 1000000 := Nat.mul_le_mul hl hl
  obtain ⟨n, hn⟩ : ∃ n, l.length = n := ⟨_, rfl⟩
  have HN := Lib.hid hn
  rw [hn] at KA hl hll ⊢
  have HM := Lib.hid hm
  clear h hs hn eg hm
  go_enter Tryz.func21, Tryz.ntmps21
  go_upto_region 2 with (go_at_call 26; refine KA.out.mono ?_; rintro e w1 ⟨g1, g2, rfl, hans, hb1⟩; obtain ⟨lb, hlb⟩ : ∃ lb, #[Value.pointer (some ⟨g1, 0, none⟩), Value.pointer (some ⟨g2, 0, none⟩)] = lb := ⟨_, rfl⟩; rw [hlb] at hans ⊢; have HQ := Lib.hid hans; have B1 := Lib.hid hb1; clear hlb hans hb1)
  go_upto_region 3 with fail
  obtain ⟨w2, b, hw2, hb2, hs2, M0, BM⟩ : ∃ w2 b, w1.alloc (.map #[] 0) = w2 ∧ w1.heap.size = b ∧ w2.heap.size = b + 1 ∧ CMap w2 b 0 [] (fun _ => 0) ∧ Below w1.heap.size w1 w2 := ⟨_, _, rfl, rfl, by simp, CMap.made w1, (Below.refl _ _).alloc (Nat.le_refl _) _⟩
  rw [hw2, hb2]
  have HI := Lib.hid (LevI.start HM.out)
  have HL0 := Lib.hid (grpA_len (·.1) (·.2) l rootN)
  have hc0 := HQ.out w2 BM [] [] ⟨Nat.zero_le _, Nat.zero_le _⟩
  obtain ⟨L0, hL0⟩ : ∃ L, needA l rootN = L := ⟨_, rfl⟩
  rw [show grpA (·.1) (·.2) l ([], []) = L0 from hL0] at hc0
  rw [hL0] at HI
  rw [show grpA (·.1) (·.2) l rootN = L0 from hL0] at HL0
  have MK := Lib.hid (show CMap w2 b ([] : List Nd).length [] (farK l []) from M0.congr fun n => by unfold farK; rfl)
  have HB2 := Lib.hid BM; have HG := Lib.hid hb2; have HS2 := Lib.hid hs2
  clear hL0 hw2 hb2 M0 BM hmm KA hs2
  go_upto_region 4 with (go_at_fn 48; refine Calls.mono hc0 ?_; rintro e w3 ⟨a3, c3, rfl, hn3, hb3⟩; have MK3 := Lib.hid (MK.out.below hb3); have HB3 := Lib.hid (HB2.out.trans (hb3.mono HB2.out.size)); have HS3 := Lib.hid (show b < w3.heap.size by have := hb3.size; have := HS2.out; omega); have SL := Lib.hid hn3; clear hn3 hb3)
  have HLN := Lib.hid (show ∀ q : Nat, q ≤ n * n → q ≤ 1000000 from fun q h => Nat.le_trans h hll)
  clear hll
  go_wp2
  go_loopw [5, 6] (fun lv dp wr => ∃ (k dd : Nat) (K L : List Nd) (aL : Option Addr) (cL : Nat), lv = .slice aL L.length cL ∧ dp = .int .i64 (dd : Int) ∧ k ≤ n + 1 ∧ Hid (dd = k + 1) ∧ Hid (LevI l k K L) ∧ Hid (Nds wr (.slice aL L.length cL) L) ∧ Hid (CMap wr b K.length K (farK l K)) ∧ Hid (b < wr.heap.size) ∧ Hid (Below w1.heap.size w1 wr)) (fun _ dp _ => n + 3 - (intOf dp).toNat)
  case atStart => exact ⟨0, 1, [], L0, a3, c3, rfl, rfl, Nat.zero_le _, Lib.hid rfl, HI, SL, MK3, HS3, HB3⟩
  case round =>
    clear SL MK3 HS3 HB3 HI HL0 MK HB2 HS2
    obtain ⟨k, dd, K, L, aL, cL, rfl, rfl, hk, HDD, HI, SL, MK, HS, HB⟩ := hrel
    obtain ⟨q, hq⟩ : ∃ q, L.length = q := ⟨_, rfl⟩
    rw [hq] at SL ⊢
    have HQQ := Lib.hid hq
    by_cases hpos : 0 < q
    · have hL : L ≠ [] := fun e => by rw [e] at hq; simp at hq; omega
      have hkn : k ≤ n := by rw [← HN.out]; exact HI.out.fin hL
      have hdn : dd ≤ n + 1 := by have := HDD.out; omega
      have HLV := Lib.hid (SL.out.nomap MK.out (by rw [hq]; exact hpos))
      have hq6 : q ≤ 1000000 := by rw [← hq]; exact HLN.out _ (by rw [← HN.out]; exact HI.out.big)
      have HLL := Lib.hid hL
      obtain ⟨W4, hW4⟩ : ∃ v, v = wr := ⟨_, rfl⟩
      subst hW4
      have hqb : (0 : Int) < (q : Int) := by omega
      clear hL hq hk
      go_wp2
      go_loopw [7, 25] (fun nx i wr => ∃ (u : Value) (j : Nat) (D X : List Nd), u = nx ∧ j ≤ q ∧ i = .int .i64 j ∧ Hid (LevJ l K L j D X) ∧ Hid (wr.ownsRow W4.heap.size 24 2 u X.length (ndsC X)) ∧ Hid (Nds wr (.slice aL q cL) L) ∧ Hid (CMap wr b (K ++ D).length (K ++ D) (farK l (K ++ D))) ∧ Hid (W4.heap.size ≤ wr.heap.size) ∧ Hid (Below w1.heap.size w1 wr)) (fun _ i _ => q - (intOf i).toNat)
      case atStart => exact ⟨_, 0, [], [], rfl, Nat.zero_le _, rfl, Lib.hid (LevJ.start HI.out.nodup), Lib.hid (World.ownsRow_nil _ _ _ _), SL, Lib.hid (by rw [List.append_nil]; exact MK.out), Lib.hid (Nat.le_refl _), HB⟩
      case round =>
        obtain ⟨u9, j, D, X, rfl, hj, rfl, HJ, HX, SL2, MK2, HS2, HB2⟩ := hrel
        by_cases hlt : j < q
        · have hjl : j < L.length := by rw [HQQ.out]; exact hlt
          obtain ⟨b', off, rfl, -, hc0, hc1⟩ := SL2.out.at j hjl
          have hfy := HI.out.far _ (nd_mem hjl)
          have hkno := fun o => HJ.out.known hjl o
          have hmor := fun o => HJ.out.more hjl o
          have hlen := HJ.out.lenD HM.out HI.out
          have hfar : hasN (K ++ D) (L.getD j ([], [])) = false → farW l (L.getD j ([], [])) = k + 1 := fun o => by
            refine Nat.le_antisymm hfy.2 (Nat.lt_of_not_le fun c => hasN_not.1 o (List.mem_append_left _ ((HI.out.keys _).2 ⟨hfy.1, c⟩)))
          obtain ⟨y, hy⟩ : ∃ y, y = L.getD j ([], []) := ⟨_, rfl⟩
          rw [← hy] at hc0 hc1 hfy hkno hmor hfar
          have hft := HFT.out y hfy.1
          have hgl := grpA_len (·.1) (·.2) l y
          obtain ⟨y1, y2⟩ := y
          simp only at hc0 hc1
          obtain ⟨Y, hY⟩ : ∃ Y, needA l (y1, y2) = Y := ⟨_, rfl⟩
          rw [show grpA (·.1) (·.2) l (y1, y2) = Y from hY] at hgl
          rw [hY] at hmor
          obtain ⟨y', hy'⟩ : ∃ n, Y.length = n := ⟨_, rfl⟩
          obtain ⟨x', hx'⟩ : ∃ n, X.length = n := ⟨_, rfl⟩
          rw [hx', HN.out] at hlen
          rw [hx'] at HX
          rw [hy', HN.out] at hgl
          have hans := fun w' (hb : Below w1.heap.size w1 w') => HQ.out w' hb y1 y2 hft
          rw [show grpA (·.1) (·.2) l (y1, y2) = Y from hY, hy'] at hans
          have hx6 := HLN.out _ hlen.2.2
          have hkl := hlen.1
          have HFT1 := Lib.hid hft; have HKN := Lib.hid hkno; have HMO := Lib.hid hmor; have HFA := Lib.hid hfar; have HAN := Lib.hid hans; have HXX := Lib.hid hx'; have HYY := Lib.hid hy'
          clear hy hY hy' hx' hft hkno hmor hfar hans hfy hlen hjl
          have hjb : (j : Int) < (q : Int) := by omega
          go_upto_region 11 with fail
          obtain ⟨W5, p, hW5, hp, e0, e1, hb5⟩ := boxNd wr (.string (mkB y1)) (.string (mkB y2)) 24
          rw [hW5, hp]
          have SL5 := Lib.hid (SL2.out.below hb5); have MK5 := Lib.hid (MK2.out.below hb5); have HS5 := Lib.hid (Nat.le_trans HS2.out hb5.size); have HB5 := Lib.hid (below_step HB2.out hb5)
          have HX5 := Lib.hid (ownsRow_belowB HX.out hb5)
          obtain ⟨O, hO⟩ : ∃ O, hasN (K ++ D) (y1, y2) = O := ⟨_, rfl⟩
          obtain ⟨z, hz⟩ : ∃ z, farK l (K ++ D) (y1, y2) = z := ⟨_, rfl⟩
          have k1 := lookC_cmap MK5.out HFT1.out hO hz
          clear hW5 hp hb5 hz hc0 hc1 SL2 MK2 HS2 HB2 HX
          cases O
          · have hm2 := HMO.out hO
            have hf2 := HFA.out hO
            rw [← HDD.out] at hf2
            have HM2 := Lib.hid hm2; have HF2 := Lib.hid hf2
            clear hm2 hf2 hO
            obtain ⟨mm, hmm⟩ : ∃ m, (K ++ D).length = m := ⟨_, rfl⟩
            rw [hmm] at hkl MK5
            have HMM := Lib.hid hmm
            clear hmm
            go_upto_region 14 with (at_mapUpdate; refine wpList_put_cmap rfl _ _ _ rfl rfl MK5.out rfl HFT1.out (z := (dd : Int)) (by unfold fitI; omega) rfl (by omega) ?_; intro w6 hm6 hg6)
            have hg6b := hg6.block
            have hpb : p ≠ b := fun e => by
              subst e
              obtain ⟨-, -, D6, ⟨es, clock, hb6, -⟩, -⟩ := MK5.out
              simp [World.cell?, hb6] at e0
            have hpl : p < W5.heap.size := Nat.lt_of_not_le fun q => by
              have : W5.heap[p]? = none := Array.getElem?_eq_none q
              simp [World.cell?, this] at e0
            have k6 : ∀ i, w6.cell? ⟨p, i, none⟩ = W5.cell? ⟨p, i, none⟩ := fun i => World.cell?_of_block (hg6.block p hpl fun q => hpb (Option.some.inj q))
            rw [← k6] at e0 e1
            have hwB : w1.heap.size ≤ W5.heap.size := HB5.out.size
            have HB6 := Lib.hid (HB5.out.grown hg6 hwB fun x e => by cases e; exact Nat.le_of_eq HG.out)
            have HS6 := Lib.hid (Nat.le_trans HS5.out hg6.size)
            have HX6 := Lib.hid (row_heap HX5.out fun x e => hg6.block x (own_lt HX5.out e).2 fun q => by
              have h1 := (own_lt HX5.out e).1
              have h2 := Option.some.inj q
              have h3 := HS.out
              omega)
            have SL6 := Lib.hid (SL5.out.kept19 hg6 fun ad e q => (HLV.out ad e).2 (Option.some.inj q).symm)
            have MK6 := Lib.hid (show CMap w6 b (K ++ (D ++ [(y1, y2)])).length (K ++ (D ++ [(y1, y2)])) (farK l (K ++ (D ++ [(y1, y2)]))) from by
              rw [← List.append_assoc, List.length_append, HMM.out]
              exact hm6.congr fun m => farK_step HF2.out m)
            clear hm6 hg6 hg6b hpb hpl k6 k1
            have hX7 : x' + y' ≤ 2000000 := by omega
            go_wp2_with (first
              | (go_at_fn 48; refine Calls.mono (HAN.out w6 HB6.out) ?_; rintro e w7 ⟨a7, c7, rfl, hn7, hb7⟩; have hws7 : W4.heap.size ≤ w7.heap.size := Nat.le_trans HS6.out hb7.size; have SY := Lib.hid hn7; have MK7 := Lib.hid (MK6.out.below hb7); have SL7 := Lib.hid (SL6.out.below hb7); have HX7 := Lib.hid (ownsRow_belowB HX6.out hb7); have HB7 := Lib.hid (below_step HB6.out hb7); clear hn7 hb7)
              | (at_builtin; refine wpList_app_nd19 rfl _ _ rfl W4.heap.size _ X x' HXX.out rfl HX7.out a7 y' c7 Y rfl SY.out hX7 hws7 ?_; intro a9 c9 w9 ho9 hg9; have HX9 := Lib.hid ho9; have hws9 : W4.heap.size ≤ w9.heap.size := Nat.le_trans hws7 hg9.size; have MK9 := Lib.hid (MK7.out.grow19 HX7.out HS.out hg9); have SL9 := Lib.hid (SL7.out.kept19 hg9 fun ad e q => by have h1 := (own_lt HX7.out q).1; have h2 := (HLV.out ad e).1; omega); have HB9 := Lib.hid (HB7.out.grown hg9 HB7.out.size fun x e => Nat.le_trans HB.out.size (own_lt HX7.out e).1); clear ho9 hg9))
            go_roundw
            case rel => exact ⟨_, j + 1, _, _, rfl, by omega, by go_num, HM2, Lib.hid (by rw [List.length_append, HXX.out, HYY.out]; exact HX9.out), SL9, MK9, Lib.hid hws9, HB9⟩
            case measure => simp [intOf]; omega
          · have hk2 := Lib.hid (HKN.out hO)
            clear hO
            go_wp2
            go_roundw
            case rel => exact ⟨_, j + 1, D, X, rfl, by omega, by go_num, hk2, Lib.hid (by rw [HXX.out]; exact HX5.out), SL5, MK5, HS5, HB5⟩
            case measure => simp [intOf]; omega
        · have e : j = q := by omega
          subst e
          have hdn := (show LevJ l K L L.length D X by rw [HQQ.out]; exact HJ.out).done HM.out HI.out HLL.out
          obtain ⟨ax, cx, hxv, hxn⟩ := ndsO HX.out
          subst hxv
          have HDN := Lib.hid hdn; have SX := Lib.hid hxn
          have HS9 := Lib.hid (Nat.lt_of_lt_of_le HS.out HS2.out)
          clear hdn hxn
          go_wp2
          go_roundw
          case rel => exact ⟨k + 1, dd + 1, K ++ D, X, ax, cx, rfl, by go_num, by omega, Lib.hid (by rw [HDD.out]), HDN, SX, MK2, HS9, HB2⟩
          case measure => have := HDD.out; simp [intOf]; omega
    · have e : q = 0 := by omega
      subst e
      have hL : L = [] := List.eq_nil_of_length_eq_zero HQQ.out
      subst hL
      have hd := HI.out.done HM.out
      have HD := Lib.hid hd
      have HMK := Lib.hid (MK.out.congr (farK_all hd))
      have HKL := Lib.hid (show K.length ≤ n by
        have h1 := (LevJ.start (l := l) (L := []) HI.out.nodup).lenD HM.out HI.out
        rw [List.append_nil, HN.out] at h1
        exact h1.1)
      clear hd
      go_wp2
      go_ret
      exact ⟨b, K, rfl, HMK.out, HD.out, HKL.out, below_step B1.out HB.out⟩
end Go.Proofs.YtdefphacdcbljaaGreat

namespace Go.Proofs.YtdefphacdcbljaaGreat
open Go.RowKit Go.Maps Go.ChangeShapes Go.WideShapes
set_option linter.unusedVariables false
set_option maxRecDepth 100000

/-! ### Which needs lead on -/
set_option maxHeartbeats 800000 in
theorem wclose_any (p v q u : List UInt8) (g1 b nn : Nat) (K : List Nd) (l : List Ne) (w : World) (h1 : w.cell? ⟨g1, 0, none⟩ = some (.map (some b))) (m : CMap w b nn K fun n => (farW l n : Int)) (hK : ∀ n, n ∈ K ↔ 0 < farW l n) (hf : fitNe ((p, v), (q, u))) (hb : farW l (p, v) ≤ 1000000) :
    Calls Tryz.prog 51 #[.agg #[.string (mkB p), .string (mkB v), .string (mkB q), .string (mkB u)], .pointer (some ⟨g1, 0, none⟩)] w fun e w' => e = .returned (.bool (!closeW l ((p, v), (q, u)))) ∧ Below w.heap.size w w' := by
  obtain ⟨W, g, hW, hg, c0, c1, c2, c3, hbw⟩ := boxNe w (.string (mkB p)) (.string (mkB v)) (.string (mkB q)) (.string (mkB u)) 49
  replace h1 := cell_keep h1 hbw
  obtain ⟨O, hO⟩ : ∃ O, hasN K (p, v) = O := ⟨_, rfl⟩
  obtain ⟨n1, hn1⟩ : ∃ n, farW l (p, v) = n := ⟨_, rfl⟩
  obtain ⟨n2, hn2⟩ : ∃ n, farW l (q, u) = n := ⟨_, rfl⟩
  have k1 := lookC_cmap (m.below hbw) hf.1 hO (z := (n1 : Int)) (by show ((farW l (p, v) : Nat) : Int) = _; rw [hn1])
  have k2 := look_cmap (m.below hbw) hf.2
  simp only [hn2] at k2
  have hcl : closeW l ((p, v), (q, u)) = (O && decide (n1 + 1 = n2)) := by
    unfold closeW
    simp only [hn1, hn2]
    congr 1
    rw [Bool.eq_iff_iff, decide_eq_true_eq, ← hO, hasN_iff, hK, hn1]
  rw [hcl]
  obtain ⟨T, hT⟩ : ∃ T, decide (n1 + 1 = n2) = T := ⟨_, rfl⟩
  rw [hT]
  have hT2 : (((n1 : Int) + 1) != (n2 : Int)) = !T := by
    rw [← hT, bne, Bool.not_eq_eq_eq_not, Bool.not_not, Bool.eq_iff_iff, beq_iff_eq, decide_eq_true_eq]
    omega
  rw [hn1] at hb
  have B := Lib.hid hbw; have HW := Lib.hid hW; have HG := Lib.hid hg
  clear hbw hW hg hcl hO hn1 hn2 hT m hf hK
  cases O
  · go_enter Tryz.func51, Tryz.ntmps51
    go_upto_region 1 with fail
    rw [HW.out, HG.out]
    go_wp2
    go_ret
    exact ⟨rfl, B.out⟩
  · cases T
    all_goals
      go_enter Tryz.func51, Tryz.ntmps51
      go_upto_region 1 with fail
      rw [HW.out, HG.out]
      go_wp2
      go_ret
      exact ⟨rfl, B.out⟩
theorem asks_close (g1 b nn : Nat) (K : List Nd) (l m : List Ne) (w : World) (h1 : w.cell? ⟨g1, 0, none⟩ = some (.map (some b))) (hm : CMap w b nn K fun n => (farW l n : Int)) (hK : ∀ n, n ∈ K ↔ 0 < farW l n) (hf : ∀ d ∈ m, fitNe d) (hb : ∀ n, farW l n ≤ 1000000) : AsksK 51 #[.pointer (some ⟨g1, 0, none⟩)] (fun d => !closeW l d) w.heap.size w m :=
  fun w' hw d hd => wclose_any d.1.1 d.1.2 d.2.1 d.2.2 g1 b nn K l w' (cell_keep h1 hw) (hm.below hw) hK (hf d hd) (hb _)
theorem boxM19 (w : World) (x : Value) (t : TypeId) : ∃ W g, w.alloc (.cells #[x] t) = W ∧ w.heap.size = g ∧ W.cell? ⟨g, 0, none⟩ = some x ∧ Below w.heap.size w W :=
  ⟨_, _, rfl, rfl, cell_new rfl rfl, (Below.refl _ _).alloc (Nat.le_refl _) _⟩
set_option maxHeartbeats 1600000 in
theorem wcloser_any (V : Value) (b nn : Nat) (K : List Nd) (l : List Ne) (w : World) (h : Nes w V l) (hm : mayK l = true) (hl : l.length ≤ 1000000) (hs : ∀ d ∈ l, smallNe d) (m : CMap w b nn K fun n => (farW l n : Int)) (hK : ∀ n, n ∈ K ↔ 0 < farW l n) :
    Calls Tryz.prog 27 #[V, .map (some b)] w fun e w' => ∃ a c, e = .returned (.slice a (closeL l).length c) ∧ Nes w' (.slice a (closeL l).length c) (closeL l) ∧ Below w.heap.size w w' := by
  obtain ⟨a, c, rfl, -⟩ := h.ex
  obtain ⟨W, g, hW, hg, h1, hbw⟩ := boxM19 w (.map (some b)) 52
  have eg : ∀ args w, (callFunc 51 args).run Tryz.prog w = .ok (.enter 51 args) w := enters_of Tryz.func51 (by kernel_rfl) rfl
  have kc := lclone_any _ l W (h.below hbw) hl
  have hasks := asks_close g b nn K l l W h1 (m.below hbw) hK (fun d hd => fitNe19 (hs d hd)) (fun n => Nat.le_trans (farW_bound hm n) hl)
  have kd := fun V w' (hb : Below W.heap.size W w') (ho : w'.ownsRow W.heap.size 49 4 V l.length (neC l)) => ldel_any 51 #[.pointer (some ⟨g, 0, none⟩)] eg (fun d => !closeW l d) V l w' W.heap.size hb.size ho (hasks.below hb) hl
  have hfl : (l.filter fun d => !(!closeW l d)) = closeL l := by unfold closeL; simp
  rw [hfl] at kd
  obtain ⟨R, hR⟩ : ∃ R, closeL l = R := ⟨_, rfl⟩
  rw [hR] at kd ⊢
  obtain ⟨n, hn⟩ : ∃ n, l.length = n := ⟨_, rfl⟩
  rw [hn] at kc kd ⊢
  have B := Lib.hid hbw; have HW := Lib.hid hW; have HG := Lib.hid hg; have K1 := Lib.hid kc; have K2 := Lib.hid kd
  clear h hm hl hs m hK hbw hW hg h1 kc kd hasks hfl hR hn
  go_enter Tryz.func27, Tryz.ntmps27
  go_upto_region 1 with fail
  rw [HW.out, HG.out]
  go_wp2_with (first
    | (go_at_call 50; refine K1.out.mono ?_; rintro e w1 ⟨v, rfl, ho, hb1⟩; have HO := Lib.hid ho; have B1 := Lib.hid hb1; clear hb1 ho)
    | (go_at_call 49; refine (K2.out _ _ B1.out HO.out).mono ?_; rintro e w2 ⟨a2, c2, rfl, hs, hb2⟩; have HS := Lib.hid hs; have B2 := Lib.hid (B1.out.trans hb2); clear hb2 hs))
  go_ret
  exact ⟨a2, c2, rfl, HS.out, below_step B.out B2.out⟩

/-! ### The least of nodes -/
section
variable {P : Program} {o : Oper} {a : Act} {w : World}
theorem ex_callf {F : Nat} {fo : Operand} {xs : Array Operand} {ts : Array TypeId} {vs : Array Value} (hop : o.op = .call { callee := .value fo, args := xs, argTypes := ts }) (hf : a.eval fo = .func (.func F) #[] #[]) (hx : xs.map a.eval = vs) (hef : ∀ args w, (callFunc F args).run P w = .ok (.enter F args) w) : Sem.run P (execOp a.eval o) w = .ok (.enter F vs) w := by
  have := hef vs w
  subst hx
  simp only [execOp, hop]
  simp [resolve, invoke, hf, Deferred.ofValue]
  simpa using this
end
set_option maxHeartbeats 800000 in
theorem wless_any (p v q u : List UInt8) (w : World) (hs : smallN (p, v)) (hs' : smallN (q, u)) (o : okN (p, v) = true) (o' : okN (q, u) = true) :
    Calls Tryz.prog 53 #[.agg #[.string (mkB p), .string (mkB v)], .agg #[.string (mkB q), .string (mkB u)]] w fun e w' => e = .returned (.int .i64 (ordN (p, v) (q, u))) ∧ Below w.heap.size w w' := by
  obtain ⟨W, g, g', hW, hg, hg', c0, c1, d0, d1, hb⟩ := boxB2 w (.string (mkB p)) (.string (mkB v)) (.string (mkB q)) (.string (mkB u)) 24
  have kc := fun w => ncmp_any p v q u w hs.1 hs.2 hs'.1 hs'.2
  rw [cmpNE_yes o o'] at kc
  obtain ⟨T, hT⟩ : ∃ T, ordN (p, v) (q, u) = T := ⟨_, rfl⟩
  rw [hT] at kc ⊢
  have B := Lib.hid hb; have HW := Lib.hid hW; have HG := Lib.hid hg; have HG' := Lib.hid hg'; have KC := Lib.hid kc
  clear hb hW hg hg' hT kc hs hs' o o'
  go_enter Tryz.func53, Tryz.ntmps53
  go_upto_region 1 with fail
  rw [HW.out, HG'.out, HG.out]
  go_wp2_with (go_at_call 54; refine (KC.out _).mono ?_; rintro e w1 ⟨rfl, hb1⟩; have B1 := Lib.hid (below_step B.out hb1); clear hb1)
  go_ret
  exact ⟨rfl, B1.out⟩
theorem boxL19 (w : World) (x y : Value) (t : TypeId) : ∃ W g g2, (w.alloc (.cells zeroN t)).alloc (.cells #[x, y] t) = W ∧ w.heap.size = g ∧ w.heap.size + 1 = g2 ∧ W.heap.size = g2 + 1 ∧ W.heap[g]? = some (.cells zeroN t (0, 0)) ∧ W.heap[g2]? = some (.cells #[x, y] t (0, 0)) ∧ Below w.heap.size w W := by
  refine ⟨_, _, _, rfl, rfl, rfl, by simp, ?_, ?_, ((Below.refl _ _).alloc (Nat.le_refl _) _).alloc (by simp) _⟩
  · exact row_keepB (heap_alloc_new w (.cells zeroN t)) ((Below.refl _ _).alloc (Nat.le_refl _) _)
  · have h := heap_alloc_new (w.alloc (.cells zeroN t)) (.cells #[x, y] t)
    rw [show (w.alloc (.cells zeroN t)).heap.size = w.heap.size + 1 by simp] at h
    exact h
theorem lt_zero19 {T : Int} {J : Bool} (h : decide (T < 0) = J) (w : World) : Sem.run Tryz.prog (binOp .lss 3 (.int .i64 T) (.int .i64 0)) w = .ok (.bool J) w := by
  subst h
  go_simp
set_option maxHeartbeats 1600000 in
theorem wmin_any (V : Value) (L : List Nd) (w : World) (h : Nds w V L) (hp : 0 < L.length) (hs : ∀ n ∈ L, smallN n) (ho : ∀ n ∈ L, okN n = true) (hl : L.length ≤ 1000000) :
    Calls Tryz.prog 52 #[V, .func (.func 53) #[] #[]] w fun e w' => ∃ m : Nd, leastW m L ∧ e = .returned (.agg #[.string (mkB m.1), .string (mkB m.2)]) ∧ Below w.heap.size w w' := by
  obtain ⟨a, c, rfl, h1, h2, -, -⟩ := h.ex
  have eg : ∀ args w, (callFunc 53 args).run Tryz.prog w = .ok (.enter 53 args) w := enters_of Tryz.func53 (by kernel_rfl) rfl
  obtain ⟨b, off, rfl, -, hc0, hc1⟩ := h.at 0 hp
  obtain ⟨y, hy⟩ : ∃ y, y = L.getD 0 ([], []) := ⟨_, rfl⟩
  have hone : L.take 1 = [y] := by
    rw [List.take_succ_eq_append_getElem hp, hy, nd_getD hp]; rfl
  rw [← hy] at hc0 hc1
  obtain ⟨y1, y2⟩ := y
  simp only at hc0 hc1
  obtain ⟨n, hn⟩ : ∃ n, L.length = n := ⟨_, rfl⟩
  rw [hn] at h h1 hp hl ⊢
  unfold maxLen at h2
  have HN := Lib.hid hn; have ST := Lib.hid h; have HS := Lib.hid hs; have HO := Lib.hid ho; have HONE := Lib.hid hone
  clear h hn hs ho hone hy
  have hpb : ¬ (n : Int) < 1 := by omega
  have hpc : (0 : Int) < (n : Int) := by omega
  simp only [Nat.zero_mul, Nat.add_zero] at hc0 hc1
  replace hc0 := cell_alloc hc0 (.cells zeroN 24)
  replace hc1 := cell_alloc hc1 (.cells zeroN 24)
  obtain ⟨W, g, g2, hW, hg, hg2, hWs, r1, r2, hbw⟩ := boxL19 w (.string (mkB y1)) (.string (mkB y2)) 24
  go_enter Tryz.func52, Tryz.ntmps52
  go_upto_region 1 with fail
  change Code.wp _ _ _ _ (w.alloc (.cells zeroN 24))
  obtain ⟨W0, hW0⟩ : ∃ W0, w.alloc (.cells zeroN 24) = W0 := ⟨_, rfl⟩
  have hs0 : W0.heap.size = g2 := by rw [← hW0, ← hg2]; simp
  rw [hW0] at hc0 hc1 hW ⊢
  try rw [hg]
  have HW := Lib.hid hW; have R1 := Lib.hid r1; have R2 := Lib.hid r2; have B0 := Lib.hid hbw; have HG := Lib.hid (show w.heap.size = g ∧ g + 1 = g2 by omega); have HS0 := Lib.hid hs0; have HWS := Lib.hid hWs
  clear hW hW0 hs0 r1 r2 hbw hg hg2 hWs
  go_upto_region 4 with fail
  try rw [HW.out]
  try rw [HS0.out]
  clear hc0 hc1
  go_wp2
  go_loopw [6] (fun i wr => ∃ (k : Nat) (m1 m2 : List UInt8), k ≤ n ∧ i = .int .i64 k ∧ Hid (leastW (m1, m2) (L.take k)) ∧ Hid (wr.heap[g]? = some (.cells zeroN 24 (0, 0))) ∧ Hid (wr.heap[g2]? = some (.cells #[.string (mkB m1), .string (mkB m2)] 24 (0, 0))) ∧ Hid (g2 < wr.heap.size) ∧ Hid (Below w.heap.size w wr)) (fun i _ => n - (intOf i).toNat)
  case atStart => exact ⟨1, y1, y2, by omega, rfl, Lib.hid (by rw [HONE.out]; exact leastW_one _), R1, R2, Lib.hid (by rw [HWS.out]; exact Nat.lt_succ_self _), B0⟩
  case round =>
    obtain ⟨k, m1, m2, hk, rfl, HL, HR1, HR2, HSZ, HB⟩ := hrel
    by_cases hlt : k < n
    · have hkl : k < L.length := by rw [HN.out]; exact hlt
      obtain ⟨b', off', hab, -, hc0, hc1⟩ := (ST.out.below HB.out).at k hkl
      injection hab with hab
      injection hab with e1 e2
      subst e1 e2
      have htk : L.take (k + 1) = L.take k ++ [L.getD k ([], [])] := by rw [List.take_succ_eq_append_getElem hkl, nd_getD hkl]
      have hzs := HS.out _ (nd_mem hkl)
      have hzo := HO.out _ (nd_mem hkl)
      obtain ⟨z, hz⟩ : ∃ z, z = L.getD k ([], []) := ⟨_, rfl⟩
      rw [← hz] at hc0 hc1 htk hzs hzo
      obtain ⟨z1, z2⟩ := z
      simp only at hc0 hc1
      have hmm := List.mem_of_mem_take HL.out.1
      have hms := HS.out _ hmm
      have hmo := HO.out _ hmm
      have hcall := fun w => wless_any z1 z2 m1 m2 w hzs hms hzo hmo
      obtain ⟨T, hT⟩ : ∃ T, ordN (z1, z2) (m1, m2) = T := ⟨_, rfl⟩
      have HYE := Lib.hid (show decide (T < 0) = true → leastW (z1, z2) (L.take (k + 1)) from fun e => by
        rw [htk]; exact leastW_next HL.out (by unfold ltN; rw [hT]; exact e))
      have HNO := Lib.hid (show decide (T < 0) = false → leastW (m1, m2) (L.take (k + 1)) from fun e => by
        rw [htk]; exact leastW_stay HL.out hmo hzo (by unfold ltN; rw [hT]; exact e))
      rw [hT] at hcall
      have HCA := Lib.hid hcall
      clear hz htk hzs hzo hmm hms hmo hT hcall hkl
      have hkb : (k : Int) < (n : Int) := by omega
      obtain ⟨d0, d1, f0, f1⟩ := row2 HR2.out
      have HC0 := Lib.hid hc0; have HC1 := Lib.hid hc1
      clear d0 d1 f0 f1 hc0 hc1
      obtain ⟨J, hJ⟩ : ∃ J, decide (T < 0) = J := ⟨_, rfl⟩
      rw [hJ] at HYE HNO
      have HJ := Lib.hid hJ
      clear hJ
      go_upto_region 7 with fail
      refine rol_run (by kernel_rfl) [[], [], [], [1, 2], [1, 2, 3], [], [0, 1, 2, 3, 4, 5], [0, 1, 2, 3, 4, 5, 6]] (by kernel_rfl) [20, 21, 22, 23, 24, 25, 26, 27] [[], [], [], [1, 2], [3], [], [0, 4, 5], [6]] [0, 0, 0, 0, 0, 0, 0, 0] [0, 0, 0, 0, 0, 0, 0, 0] [1000, 1000, 1000, 1000, 1000, 1000, 1000, 1000] [.val 20 (.func (.func 53) #[] #[]), .val 21 (.slice (some ⟨b, off, none⟩) n c), .val 22 (.int .i64 (k : Int)), .val 23 (.pointer (some ⟨b, off + k * 2, none⟩)), .val 24 (.agg #[.string (mkB z1), .string (mkB z2)]), .val 25 (.agg #[.string (mkB m1), .string (mkB m2)]), .val 26 (.int .i64 T), .val 27 (.bool J)] (by kernel_rfl) ?_ (wr.heap.size) (wr.heap.size) rfl (Below.refl _ _) rfl (fun _ => 0) ?_ ?_ ?_
      · intro j hj
        have hj3 : j < 8 := hj
        have hj2 : j = 0 ∨ j = 1 ∨ j = 2 ∨ j = 3 ∨ j = 4 ∨ j = 5 ∨ j = 6 ∨ j = 7 := by omega
        clear hj hj3
        rcases hj2 with rfl | rfl | rfl | rfl | rfl | rfl | rfl | rfl
        · exact trivial
        · exact trivial
        · exact trivial
        · exact trivial
        · exact trivial
        · exact trivial
        · exact trivial
        · exact trivial
      · intro j hj0 hj
        exact absurd hj (Nat.not_lt.2 hj0)
      · intro i hi a wx who hG hF
        have hz : a.tmps.size = 33 := hG.size
        have hi3 : i < 8 := hi
        have hi2 : i = 0 ∨ i = 1 ∨ i = 2 ∨ i = 3 ∨ i = 4 ∨ i = 5 ∨ i = 6 ∨ i = 7 := by omega
        clear hi hi3
        rcases hi2 with rfl | rfl | rfl | rfl | rfl | rfl | rfl | rfl
        · exact rol_val rfl rfl rfl (by rw [hz]; decide) (ex_move (Or.inl rfl) (eval_slot ((hG.slots 1 (by decide)).trans rfl))) hG.below
        · exact rol_val rfl rfl rfl (by rw [hz]; decide) (ex_move (Or.inl rfl) (eval_slot ((hG.slots 0 (by decide)).trans rfl))) hG.below
        · exact rol_val rfl rfl rfl (by rw [hz]; decide) (ex_move (Or.inl rfl) (eval_slot ((hG.slots 6 (by decide)).trans rfl))) hG.below
        · exact rol_val rfl rfl rfl (by rw [hz]; decide) (ex_index rfl (eval_slot (hF 1 (by decide))) (eval_slot (hF 2 (by decide))) (idx_nds hlt)) hG.below
        · exact rol_val rfl rfl rfl (by rw [hz]; decide) (ex_load rfl (eval_slot (hF 3 (by decide))) (ld_node (cell_keep HC0.out hG.below) (cell_keep HC1.out hG.below))) hG.below
        · exact rol_val rfl rfl rfl (by rw [hz]; decide) (ex_load rfl (eval_slot ((hG.slots 5 (by decide)).trans rfl)) (ld_node (row2 (row_keepB HR2.out hG.below)).1 (row2 (row_keepB HR2.out hG.below)).2.1)) hG.below
        · refine rol_call rfl rfl rfl (by rw [hz]; decide) (ex_callf rfl (eval_slot (hF 0 (by decide))) (by simp [eval_slot (hF 4 (by decide)), eval_slot (hF 5 (by decide))]) eg) (HCA.out wx) ?_ hG.below hG.new
          rintro e w1 ⟨rfl, hd1⟩
          exact ⟨_, rfl, hd1, .inl rfl⟩
        · exact rol_val rfl rfl rfl (by rw [hz]; decide) (ex_bin rfl (eval_slot (hF 6 (by decide))) rfl (by go_simp) (lt_zero19 HJ.out wx)) hG.below
      · intro a wx who hG hF
        have fv27 : a.tmps.getD 27 undef = .bool J := eval_slot (s := 27) (hF 7 (of_decide_eq_true (by kernel_rfl)) (of_decide_eq_true (by kernel_rfl)))
        have hbx := hG.below
        have hnx := hG.new
        rw [hG.frame]
        simp only [List.foldl_cons, List.foldl_nil, List.setIfInBounds_toArray, List.set_cons_zero, List.set_cons_succ]
        generalize a.tmps.getD 20 undef = u20
        generalize a.tmps.getD 21 undef = u21
        generalize a.tmps.getD 22 undef = u22
        generalize a.tmps.getD 23 undef = u23
        generalize a.tmps.getD 24 undef = u24
        generalize a.tmps.getD 25 undef = u25
        generalize a.tmps.getD 26 undef = u26
        rw [fv27]
        clear hF hG fv27
        replace HR1 := Lib.hid (row_keepB HR1.out hbx); replace HR2 := Lib.hid (row_keepB HR2.out hbx); replace HSZ := Lib.hid (Nat.lt_of_lt_of_le HSZ.out hbx.size); replace HC0 := Lib.hid (cell_keep HC0.out hbx); replace HC1 := Lib.hid (cell_keep HC1.out hbx); replace HB := Lib.hid (below_step HB.out hbx)
        obtain ⟨d0, d1, f0, f1⟩ := row2 HR2.out
        have hc0 := HC0.out; have hc1 := HC1.out
        clear hbx hnx
        cases J
        · have H := Lib.hid (HNO.out rfl)
          go_wp2
          go_roundw
          case rel => exact ⟨k + 1, m1, m2, by omega, by go_num, H, HR1, HR2, HSZ, HB⟩
          case measure => simp [intOf]; omega
        · have H := Lib.hid (HYE.out rfl)
          have hg2 : w.heap.size ≤ g2 := by have := HG.out; omega
          have hgg : g ≠ g2 := by have := HG.out; omega
          go_wp2
          go_roundw
          case rel =>
            refine ⟨k + 1, z1, z2, by omega, by go_num, H, ?_, Lib.hid (row2_set HR2.out _ _), ?_, ?_⟩
            · exact Lib.hid (((Below.heap_setCell _ ⟨g2, 1, none⟩ _ g hgg).trans (Below.heap_setCell _ ⟨g2, 0, none⟩ _ g hgg)).trans HR1.out)
            · exact Lib.hid (by simpa [World.setCell] using HSZ.out)
            · exact Lib.hid ((HB.out.setCell (p := ⟨g2, 0, none⟩) hg2 _).setCell (p := ⟨g2, 1, none⟩) hg2 _)
          case measure => simp [intOf]; omega
    · have e : k = n := by omega
      subst e
      obtain ⟨d0, d1, -, -⟩ := row2 HR2.out
      obtain ⟨-, -, f0, f1⟩ := row2 HR1.out
      obtain ⟨x0, x1, -, -⟩ := row2 HR1.out
      have hH := HL.out
      rw [List.take_of_length_le (by rw [HN.out]; exact Nat.le_refl _)] at hH
      have hg1 : w.heap.size ≤ g := by have := HG.out; omega
      have HX := Lib.hid hH
      clear hH
      go_wp2
      try simp only [Exit.inBlock, Exit.then]
      refine bodyPost_ret (v := .agg #[.string (mkB m1), .string (mkB m2)]) (results_cell_row (fn := Tryz.f52) (p := 4) (ty := 24) rfl _ _ g 24 #[.string (mkB m1), .string (mkB m2)] (0, 0) _ rfl (row2_set HR1.out _ _) Tryz.underlying24 rfl (by kernel_rfl)) rfl ?_
      exact ⟨(m1, m2), HX.out, rfl, (HB.out.setCell (p := ⟨g, 0, none⟩) hg1 _).setCell (p := ⟨g, 1, none⟩) hg1 _⟩
set_option maxHeartbeats 400000 in
theorem wleast_any (V : Value) (L : List Nd) (w : World) (h : Nds w V L) (hp : 0 < L.length) (hs : ∀ n ∈ L, smallN n) (ho : ∀ n ∈ L, okN n = true) (hl : L.length ≤ 1000000) :
    Calls Tryz.prog 29 #[V] w fun e w' => ∃ m : Nd, leastW m L ∧ e = .returned (.agg #[.string (mkB m.1), .string (mkB m.2)]) ∧ Below w.heap.size w w' := by
  obtain ⟨a, c, rfl, -⟩ := h.ex
  obtain ⟨W, g, hW, hg, r1, hb⟩ : ∃ W g, w.alloc (.cells zeroN 24) = W ∧ w.heap.size = g ∧ W.heap[g]? = some (.cells zeroN 24 (0, 0)) ∧ Below w.heap.size w W := ⟨_, _, rfl, rfl, heap_alloc_new _ _, (Below.refl _ _).alloc (Nat.le_refl _) _⟩
  have k := wmin_any _ L W (h.below hb) hp hs ho hl
  obtain ⟨n, hn⟩ : ∃ n, L.length = n := ⟨_, rfl⟩
  rw [hn] at k ⊢
  have K := Lib.hid k; have HW := Lib.hid hW; have HG := Lib.hid hg; have R := Lib.hid r1; have B := Lib.hid hb
  clear h hp hs ho hl hn k hW hg r1 hb
  go_enter Tryz.func29, Tryz.ntmps29
  go_upto_region 1 with fail
  change Code.wp _ _ _ _ (w.alloc (.cells zeroN 24))
  rw [HW.out, HG.out]
  go_wp2_with (go_at_call 52; refine K.out.mono ?_; rintro e w1 ⟨⟨m1, m2⟩, hm, rfl, hb1⟩; have HM := Lib.hid hm; have R1 := Lib.hid (row_keepB R.out hb1); have B1 := Lib.hid (below_step B.out hb1); clear hm hb1; obtain ⟨x0, x1, f0, f1⟩ := row2 R1.out)
  have hg1 : w.heap.size ≤ g := by have := HG.out; omega
  try simp only [Exit.inBlock, Exit.then]
  refine bodyPost_ret (v := .agg #[.string (mkB m1), .string (mkB m2)]) (results_cell_row (fn := Tryz.f29) (p := 2) (ty := 24) rfl _ _ g 24 #[.string (mkB m1), .string (mkB m2)] (0, 0) _ rfl (row2_set R1.out _ _) Tryz.underlying24 rfl (by kernel_rfl)) rfl ?_
  exact ⟨(m1, m2), HM.out, rfl, (B1.out.setCell (p := ⟨g, 0, none⟩) hg1 _).setCell (p := ⟨g, 1, none⟩) hg1 _⟩
end Go.Proofs.YtdefphacdcbljaaGreat

namespace Go.Proofs.YtdefphacdcbljaaGreat
open Go.RowKit Go.Maps Go.ChangeShapes Go.WideShapes
set_option linter.unusedVariables false
set_option maxRecDepth 100000

/-! ### A row of nodes made, and filled from behind -/
theorem make_nd19 (w : World) (n : Nat) (hn : n ≤ 1000000) : (Instr.makeSlice 31 (.int .i64 (n : Int)) (.int .i64 (n : Int))).run Tryz.prog w = .ok (.slice (some ⟨w.heap.size, 0, none⟩) n n) (w.alloc (.cells (ndsC (List.replicate n rootN)).toArray 24)) := by
  obtain ⟨i, hi, hz, hsize, hby⟩ := info_parts Tryz.info_node
  have hr := run_make (P := Tryz.prog) w 31 24 i _ Tryz.underlying31 hi hz .i64 .i64 n n (by omega) (Int.le_refl _) (by rw [hby]; omega) (by omega)
  simp only [Int.toNat_natCast, hsize] at hr
  rw [hr]
  congr 3
  apply Array.ext
  · rw [size_madeCells, List.size_toArray, ndsC_len, List.length_replicate]
  · intro j h1 h2
    rw [List.size_toArray, ndsC_len, List.length_replicate] at h2
    have e : (ndsC (List.replicate n rootN))[j]'(by rw [ndsC_len, List.length_replicate]; exact h2) = .string ByteArray.empty := by
      have h3 : ∀ x ∈ ndsC (List.replicate n rootN), x = .string ByteArray.empty := by
        intro x hx
        unfold ndsC at hx
        rw [List.mem_flatMap] at hx
        obtain ⟨y, hy, hx⟩ := hx
        rw [(List.mem_replicate.1 hy).2] at hx
        simp at hx
        rcases hx with rfl | rfl <;> rfl
      exact h3 _ (List.getElem_mem _)
    refine Eq.trans ?_ (show (ndsC (List.replicate n rootN)).toArray[j]'(by rw [List.size_toArray, ndsC_len, List.length_replicate]; exact h2) = .string ByteArray.empty from e).symm
    have hj : j % 2 = 0 ∨ j % 2 = 1 := by omega
    rcases hj with hj | hj <;> simp [madeCells, Value.cells, hj]
theorem ndsC_set : ∀ (R : List Nd) (i : Nat) (x : Nd), i < R.length → ndsC (R.set i x) = ((ndsC R).set (i * 2) (.string (mkB x.1))).set (i * 2 + 1) (.string (mkB x.2))
  | [], i, _, h => absurd h (Nat.not_lt_zero i)
  | y :: R, 0, x, _ => rfl
  | y :: R, i + 1, x, h => by
    have e : ∀ (x : Nd) (l : List Nd), ndsC (x :: l) = .string (mkB x.1) :: .string (mkB x.2) :: ndsC l := fun _ _ => rfl
    rw [List.set_cons_succ, e, e, ndsC_set R i x (by simpa using h), show (i + 1) * 2 = i * 2 + 1 + 1 by omega]
    rfl
theorem ndsC_cell {w : World} {g : Nat} {R : List Nd} (h : w.heap[g]? = some (.cells (ndsC R).toArray 24 (0, 0))) {i : Nat} (hi : i < R.length) : w.cell? ⟨g, i * 2, none⟩ = some (.string (mkB (R.getD i rootN).1)) ∧ w.cell? ⟨g, i * 2 + 1, none⟩ = some (.string (mkB (R.getD i rootN).2)) := by
  obtain ⟨h1, h2⟩ := ndsC_at R i hi
  constructor
  · simp only [World.cell?, h, List.getElem?_toArray]; exact h1
  · simp only [World.cell?, h, List.getElem?_toArray]; exact h2
theorem st_ndI {w : World} {g i : Nat} {R : List Nd} (h : w.heap[g]? = some (.cells (ndsC R).toArray 24 (0, 0))) (hi : i < R.length) (q1 q2 : List UInt8) :
    Sem.run Tryz.prog (Instr.storeAt 24 (.pointer (some ⟨g, i * 2, none⟩)) (.agg #[.string (mkB q1), .string (mkB q2)])) w = .ok () ((w.setCell ⟨g, i * 2, none⟩ (.string (mkB q1))).setCell ⟨g, i * 2 + 1, none⟩ (.string (mkB q2))) ∧
      ((w.setCell ⟨g, i * 2, none⟩ (.string (mkB q1))).setCell ⟨g, i * 2 + 1, none⟩ (.string (mkB q2))).heap[g]? = some (.cells (ndsC (R.set i (q1, q2))).toArray 24 (0, 0)) := by
  obtain ⟨c0, c1⟩ := ndsC_cell h hi
  have f0 : w.frozen? ⟨g, i * 2, none⟩ = false := by unfold World.frozen?; simp only [h]; simp
  have f1 : w.frozen? ⟨g, i * 2 + 1, none⟩ = false := by unfold World.frozen?; simp only [h]; simp
  constructor
  · go_simp
  · simp [World.setCell, Array.getElem?_modify, h, ndsC_set R i (q1, q2) hi]
section
variable {ops : Array Oper} {rest : List Oper} {o : Oper} {a : Act} {w : World} {Q : Exit → Act → World → Prop}
theorem wpList_put_nd19 (hgd : o.guard = none) (x y : Operand) (ho : o.op = .store 24 x y) {g i I : Nat} {R : List Nd} {q1 q2 : List UInt8} (hx : a.eval x = .pointer (some ⟨g, I, none⟩)) (hI : I = i * 2) (hy : a.eval y = .agg #[.string (mkB q1), .string (mkB q2)]) (h : w.heap[g]? = some (.cells (ndsC R).toArray 24 (0, 0))) (hi : i < R.length)
    (hK : ∀ w', w'.heap[g]? = some (.cells (ndsC (R.set i (q1, q2))).toArray 24 (0, 0)) → Below g w w' → wpList Tryz.prog ops Q rest (a.put o.dst undef) w') : wpList Tryz.prog ops Q (o :: rest) a w := by
  subst hI
  obtain ⟨hr, h2⟩ := st_ndI h hi q1 q2
  refine wpList_plain hgd fun K' hK' => ?_
  unfold Oper.wp
  simp only [execOp, ho, hx, hy, hr, Sem.run_bind, Sem.run_pure, Result.andThen_ok]
  exact hK' _ _ (hK _ h2 (((Below.refl _ _).setCell (p := ⟨g, i * 2, none⟩) (Nat.le_refl _) _).setCell (p := ⟨g, i * 2 + 1, none⟩) (Nat.le_refl _) _))
end
theorem sub_one19 {k t : Nat} (h : k = t + 1) (hk : k ≤ 1000000) (w : World) : Sem.run Tryz.prog (binOp .sub 3 (.int .i64 (k : Int)) (.int .i64 1)) w = .ok (.int .i64 (t : Int)) w := by
  have e : IntKind.i64.wrap ((k : Int) - 1) = (t : Int) := by rw [IntKind.wrap_i64]; omega
  have e2 : IntKind.i64.wrap (t : Int) = (t : Int) := by rw [IntKind.wrap_i64]; omega
  go_simp

set_option maxHeartbeats 3200000 in
theorem wchaino_any (V : Value) (l : List Ne) (p v : List UInt8) (w : World) (h : Nes w V l) (hs : ∀ d ∈ l, smallNe d) (hl : l.length ≤ 1000) (hn : smallN (p, v)) :
    Calls Tryz.prog 8 #[V, .agg #[.string (mkB p), .string (mkB v)]] w fun e w' => ∃ u, e = .returned (.tuple #[u, .int .i64 (chainE l (p, v)).2]) ∧ w'.ownsRow w.heap.size 24 2 u (chainE l (p, v)).1.length (ndsC (chainE l (p, v)).1) ∧ Below w.heap.size w w' := by
  obtain ⟨a, c, rfl, -, -, -, -⟩ := h.ex
  obtain ⟨W, g0, hW, hg0, d0, d1, hb⟩ := boxB1 w (.string (mkB p)) (.string (mkB v)) 24
  have kchk := fun w' (h' : Nes w' (.slice a l.length c) l) => lCheck_any _ l w' h' hs
  have kmay := fun w => nmay_any p v w hn.1 hn.2
  obtain ⟨M, hM⟩ : ∃ M, mayK l = M := ⟨_, rfl⟩
  obtain ⟨O, hO⟩ : ∃ O, okN (p, v) = O := ⟨_, rfl⟩
  rw [hO] at kmay
  have HW := Lib.hid hW; have HG := Lib.hid hg0; have B := Lib.hid hb; have ST := Lib.hid (h.below hb); have KM := Lib.hid kmay
  cases M
  · rw [chainE_no (by rw [hM]; rfl)]
    rw [chkK_no hM] at kchk
    obtain ⟨n, hn'⟩ : ∃ n, l.length = n := ⟨_, rfl⟩
    rw [hn'] at ST kchk ⊢
    have KC := Lib.hid kchk
    clear h hs hl hn hM hO hn' hW hg0 hb kchk kmay
    go_enter Tryz.func8, Tryz.ntmps8
    go_upto_region 1 with fail
    rw [HW.out, HG.out]
    go_wp2_with (go_at_call 20; refine (KC.out _ ST.out).mono ?_; rintro e w1 ⟨rfl, hb1⟩; replace B := Lib.hid (below_step B.out hb1); clear hb1)
    go_ret2
    exact ⟨_, rfl, World.ownsRow_nil _ _ _ _, B.out⟩
  · rw [chkK_yes hM] at kchk
    cases O
    · rw [chainE_no (by rw [hM, hO]; rfl)]
      obtain ⟨n, hn'⟩ : ∃ n, l.length = n := ⟨_, rfl⟩
      rw [hn'] at ST kchk ⊢
      have KC := Lib.hid kchk
      clear h hs hl hn hM hO hn' hW hg0 hb kchk kmay
      go_enter Tryz.func8, Tryz.ntmps8
      go_upto_region 1 with fail
      rw [HW.out, HG.out]
      go_wp2_with (first
        | (go_at_call 20; refine (KC.out _ ST.out).mono ?_; rintro e w1 ⟨rfl, hb1⟩; replace B := Lib.hid (below_step B.out hb1); replace d0 := cell_keep d0 hb1; replace d1 := cell_keep d1 hb1; clear hb1)
        | (go_at_call 25; refine (KM.out _).mono ?_; rintro e w1 ⟨rfl, hb1⟩; replace B := Lib.hid (below_step B.out hb1); clear hb1))
      go_ret2
      exact ⟨_, rfl, World.ownsRow_nil _ _ _ _, B.out⟩
    · have hfit : fitsN (p, v) := fitN19 hn
      have kdep := fun w' (h' : Nes w' (.slice a l.length c) l) => wdepths_any _ l w' h' hM hs hl
      obtain ⟨dd, hdd⟩ : ∃ d, farW l (p, v) = d := ⟨_, rfl⟩
      have hne : chainE l (p, v) = if dd = 0 then ([], 11) else (chW l dd (p, v), 0) := by unfold chainE; rw [hM, hO, hdd]; rfl
      rw [hne]
      by_cases hz : dd = 0
      · subst hz
        rw [if_pos rfl]
        obtain ⟨n, hn'⟩ : ∃ n, l.length = n := ⟨_, rfl⟩
        have HK0 := Lib.hid (show ∀ K : List Nd, (∀ n, n ∈ K ↔ 0 < farW l n) → hasN K (p, v) = false from fun K hK => hasN_not.2 fun q => by have := (hK _).1 q; omega)
        rw [hn'] at ST kchk kdep ⊢
        have KC := Lib.hid kchk; have KD := Lib.hid kdep; have HF := Lib.hid hfit
        clear h hs hl hn hM hO hn' hW hg0 hb kchk kmay kdep hne hfit
        go_enter Tryz.func8, Tryz.ntmps8
        go_upto_region 1 with fail
        rw [HW.out, HG.out]
        go_upto_region 4 with (first
          | (go_at_call 20; refine (KC.out _ ST.out).mono ?_; rintro e w1 ⟨rfl, hb1⟩; replace B := Lib.hid (below_step B.out hb1); replace d0 := cell_keep d0 hb1; replace d1 := cell_keep d1 hb1; replace ST := Lib.hid (ST.out.below hb1); clear hb1)
          | (go_at_call 25; refine (KM.out _).mono ?_; rintro e w1 ⟨rfl, hb1⟩; replace B := Lib.hid (below_step B.out hb1); replace d0 := cell_keep d0 hb1; replace d1 := cell_keep d1 hb1; replace ST := Lib.hid (ST.out.below hb1); clear hb1)
          | (go_at_call 21; refine (KD.out _ ST.out).mono ?_; rintro e w2 ⟨b, K, rfl, hmk, hKK, -, hb1⟩; replace B := Lib.hid (below_step B.out hb1); replace d0 := cell_keep d0 hb1; replace d1 := cell_keep d1 hb1; have MK := Lib.hid hmk; have HKK := Lib.hid hKK; clear hb1 hmk hKK))
        have k1 := lookC_cmap MK.out HF.out (HK0.out K HKK.out) (z := ((farW l (p, v) : Nat) : Int)) rfl
        rw [hdd] at k1
        clear hdd
        go_wp2
        go_ret2
        exact ⟨_, rfl, World.ownsRow_nil _ _ _ _, B.out⟩
      · rw [if_neg hz]
        have hp : 0 < farW l (p, v) := by omega
        have hdn : dd ≤ 1000 := by rw [← hdd]; exact Nat.le_trans (farW_bound hM _) hl
        have hcf := chain_facts hM hp
        have hah := fun i hi m hm hb => chain_ahead hM hp (i := i) hi (m := m) hm hb
        rw [hdd] at hcf hah
        obtain ⟨C, hC⟩ : ∃ C, chW l dd (p, v) = C := ⟨_, rfl⟩
        rw [hC] at hcf hah ⊢
        simp only
        obtain ⟨hCl, -, hlast, hcf⟩ := hcf
        obtain ⟨d9, hd9⟩ : ∃ d, dd = d + 1 := ⟨dd - 1, by omega⟩
        have hCn : C.getD d9 rootN = (p, v) := by
          obtain ⟨x, hx⟩ := hlast
          rw [hx, List.length_append, List.length_singleton] at hCl
          rw [hx, List.getD_eq_getElem?_getD, List.getElem?_append_right (by omega), show d9 - x.length = 0 by omega]; rfl
        have e1 : ∀ args w, (callFunc 28 args).run Tryz.prog w = .ok (.enter 28 args) w := enters_of Tryz.func28 (by kernel_rfl) rfl
        have e2 : ∀ args w, (callFunc 48 args).run Tryz.prog w = .ok (.enter 48 args) w := enters_of Tryz.func48 (by kernel_rfl) rfl
        have hcs : ∀ d ∈ closeL l, d ∈ l := fun d hd => (List.mem_filter.1 hd).1
        have hcll : (closeL l).length ≤ l.length := List.length_filter_le _ _
        have kclo := fun b K (hK : ∀ n, n ∈ K ↔ 0 < farW l n) w' (h' : Nes w' (.slice a l.length c) l) (m : CMap w' b K.length K fun n => (farW l n : Int)) => wcloser_any _ b K.length K l w' h' hM (by omega) hs m hK
        have kask := fun U w' (h' : Nes w' U (closeL l)) => wasked_any 28 #[] e1 (·.2) (·.1) endc_w U (closeL l) w' h' (by omega) (fun d hd => (fitNe19 (hs d (hcs d hd))).2)
        have hnear : ∀ y x, x ∈ nearA l y → smallN x ∧ okN x = true := fun y x hx => by
          obtain ⟨q1, q2, -⟩ := nearA_mem.1 hx
          exact ⟨(hs _ q1).1, far_ok hM q2⟩
        have hnl : ∀ y, (nearA l y).length ≤ 1000 := fun y => Nat.le_trans (grpA_len _ _ _ _) (by omega)
        have hfy : ∀ t, t + 1 < dd → farW l (C.getD (t + 1) rootN) = t + 2 := fun t ht => (hcf (t + 1) ht).1
        have hsy : ∀ t, t + 1 < dd → fitsN (C.getD (t + 1) rootN) := fun t ht => by
          obtain ⟨d, hd, e⟩ := List.mem_map.1 (far_to hM (n := C.getD (t + 1) rootN) (by rw [hfy t ht]; omega))
          rw [← e]
          exact (fitNe19 (hs d hd)).2
        have hns : ∀ t, t + 1 < dd → nearA l (C.getD (t + 1) rootN) ≠ [] := fun t ht => nearA_some hM (hfy t ht)
        have HYE := Lib.hid (show ∀ K : List Nd, (∀ n, n ∈ K ↔ 0 < farW l n) → hasN K (p, v) = true from fun K hK => hasN_iff.2 ((hK _).2 hp))
        obtain ⟨n, hn'⟩ : ∃ n, l.length = n := ⟨_, rfl⟩
        rw [hn'] at ST kchk kdep kclo ⊢
        obtain ⟨nc, hnc⟩ : ∃ n, (closeL l).length = n := ⟨_, rfl⟩
        rw [hnc] at kclo
        have KC := Lib.hid kchk; have KD := Lib.hid kdep; have HF := Lib.hid hfit; have KO := Lib.hid kclo; have KA := Lib.hid kask; have HNE := Lib.hid hnear; have HNL := Lib.hid hnl; have HFY := Lib.hid hsy; have HNS := Lib.hid hns; have HAH := Lib.hid hah; have HCL := Lib.hid hCl; have HCN := Lib.hid hCn; have HFA := Lib.hid (show ((farW l (p, v) : Nat) : Int) = (dd : Int) by rw [hdd])
        clear h hs hl hn hM hO hn' hW hg0 hb kchk kmay kdep hne hfit hp hcf hah hlast hCl hC hcs hcll kclo kask hnear hnl hfy hsy hns hnc hCn hdd
        have hmk := fun w => make_nd19 w dd (by omega)
        have HD9 := Lib.hid hd9
        clear hd9
        go_enter Tryz.func8, Tryz.ntmps8
        go_upto_region 1 with fail
        rw [HW.out, HG.out]
        go_upto_region 4 with (first
          | (go_at_call 20; refine (KC.out _ ST.out).mono ?_; rintro e w1 ⟨rfl, hb1⟩; replace B := Lib.hid (below_step B.out hb1); replace d0 := cell_keep d0 hb1; replace d1 := cell_keep d1 hb1; replace ST := Lib.hid (ST.out.below hb1); clear hb1)
          | (go_at_call 25; refine (KM.out _).mono ?_; rintro e w1 ⟨rfl, hb1⟩; replace B := Lib.hid (below_step B.out hb1); replace d0 := cell_keep d0 hb1; replace d1 := cell_keep d1 hb1; replace ST := Lib.hid (ST.out.below hb1); clear hb1)
          | (go_at_call 21; refine (KD.out _ ST.out).mono ?_; rintro e w2 ⟨b, K, rfl, hmk2, hKK, -, hb1⟩; replace B := Lib.hid (below_step B.out hb1); replace d0 := cell_keep d0 hb1; replace d1 := cell_keep d1 hb1; replace ST := Lib.hid (ST.out.below hb1); have MK := Lib.hid hmk2; have HKK := Lib.hid hKK; clear hb1 hmk2 hKK))
        have k1 := lookC_cmap MK.out HF.out (HYE.out K HKK.out) HFA.out
        go_upto_region 7 with fail
        clear k1
        go_upto_region 8 with (first
          | (go_at_call 27; refine (KO.out b K HKK.out _ ST.out MK.out).mono ?_; rintro e w3 ⟨a3, c3, rfl, hn3, hb1⟩; replace B := Lib.hid (below_step B.out hb1); replace d0 := cell_keep d0 hb1; replace d1 := cell_keep d1 hb1; have SC := Lib.hid hn3; clear hb1 hn3)
          | (go_at_call 26; refine (KA.out _ _ SC.out).mono ?_; rintro e w4 ⟨g1, g2, rfl, hans, hb1⟩; obtain ⟨lb, hlb⟩ : ∃ lb, #[Value.pointer (some ⟨g1, 0, none⟩), Value.pointer (some ⟨g2, 0, none⟩)] = lb := ⟨_, rfl⟩; rw [hlb] at hans ⊢; have HQ := Lib.hid hans; replace B := Lib.hid (below_step B.out hb1); replace d0 := cell_keep d0 hb1; replace d1 := cell_keep d1 hb1; clear hlb hans hb1))
        go_upto_region 9 with fail
        obtain ⟨W5, g, hW5, hg5, hr5, hb5⟩ : ∃ W5 g, w4.alloc (.cells (ndsC (List.replicate dd rootN)).toArray 24) = W5 ∧ w4.heap.size = g ∧ W5.heap[g]? = some (.cells (ndsC (List.replicate dd rootN)).toArray 24 (0, 0)) ∧ Below w4.heap.size w4 W5 := ⟨_, _, rfl, rfl, heap_alloc_new _ _, (Below.refl _ _).alloc (Nat.le_refl _) _⟩
        rw [hW5, hg5]
        replace d0 := cell_keep d0 hb5; replace d1 := cell_keep d1 hb5
        have B5 := Lib.hid hb5; have R5 := Lib.hid hr5; have HG5 := Lib.hid hg5
        clear hW5 hg5 hr5 hb5 hmk
        have hd9d : d9 < dd := by have := HD9.out; omega
        go_upto_region 10 with (with_reducible refine wpList_put_nd19 (o := ⟨none, _, _, _, _, _⟩) rfl _ _ rfl (i := d9) (q1 := p) (q2 := v) rfl (by have := HD9.out; omega) rfl R5.out (by rw [List.length_replicate]; exact hd9d) ?_; intro w6 hr6 hb6; have R6 := Lib.hid hr6; have B6 := Lib.hid (B5.out.trans (hb6.mono (by rw [HG5.out]; exact Nat.le_refl _))); clear hr6 hb6)
        have HD0 := Lib.hid (show ((List.replicate dd rootN).set d9 (p, v)).drop d9 = C.drop d9 from by
          rw [← HCN.out]
          refine chain_set (by rw [List.length_replicate, HCL.out]) (by rw [HCL.out]; exact hd9d) ?_
          rw [List.drop_eq_nil_of_le (by rw [List.length_replicate]; have := HD9.out; omega), List.drop_eq_nil_of_le (by rw [HCL.out]; have := HD9.out; omega)])
        clear d0 d1
        go_wp2
        go_loopw [11] (fun i wr => ∃ (k : Nat) (R : List Nd), i = .int .i64 k ∧ k < dd ∧ Hid (R.length = dd) ∧ Hid (R.drop k = C.drop k) ∧ Hid (wr.heap[g]? = some (.cells (ndsC R).toArray 24 (0, 0))) ∧ Hid (Below w4.heap.size w4 wr)) (fun i _ => (intOf i).toNat)
        case atStart => exact ⟨d9, _, (by congr 1; have := HD9.out; omega), hd9d, Lib.hid (by rw [List.length_set, List.length_replicate]), HD0, R6, B6⟩
        case round =>
          clear R5 B5 R6 B6 HD0
          obtain ⟨k, R, rfl, hkd, HRL, HDR, HR, HB⟩ := hrel
          by_cases hk0 : 0 < k
          · obtain ⟨t, ht⟩ : ∃ t, k = t + 1 := ⟨k - 1, by omega⟩
            obtain ⟨c0, c1⟩ := ndsC_cell HR.out (i := k) (by rw [HRL.out]; exact hkd)
            rw [chain_at HDR.out] at c0 c1
            have htd : t + 1 < dd := by omega
            have hfy := HFY.out t htd
            have hnz := HNS.out t htd
            have hmn := HAH.out t htd
            obtain ⟨y, hy⟩ : ∃ y, C.getD (t + 1) rootN = y := ⟨_, rfl⟩
            rw [ht, hy] at c0 c1
            rw [hy] at hfy hnz hmn
            rw [← ht] at c0 c1
            obtain ⟨y1, y2⟩ := y
            simp only at c0 c1
            have hans := HQ.out wr HB.out y1 y2 hfy
            have hnx := HNE.out (y1, y2)
            have hll := HNL.out (y1, y2)
            obtain ⟨L, hL⟩ : ∃ L, nearA l (y1, y2) = L := ⟨_, rfl⟩
            rw [show grpA (·.2) (·.1) (closeL l) (y1, y2) = L from hL] at hans
            rw [hL] at hnx hll hnz hmn
            have hlp : 0 < L.length := List.length_pos_iff.2 hnz
            have kl := fun U w' (h' : Nds w' U L) => wleast_any U L w' h' hlp (fun n hn => (hnx n hn).1) (fun n hn => (hnx n hn).2) (by omega)
            obtain ⟨q, hq⟩ : ∃ q, L.length = q := ⟨_, rfl⟩
            rw [hq] at hans
            have htl : t < dd := by omega
            have KL := Lib.hid kl; have HMN := Lib.hid hmn; have HT := Lib.hid ht
            have hkb : (0 : Int) < (k : Int) := by omega
            have hgs : g < wr.heap.size := (Array.getElem?_eq_some_iff.1 HR.out).1
            clear hy hfy hnz hmn hnx hll hL hlp kl hq htd ht
            go_wp2_with (first
              | (go_at_fn 48; refine hans.mono ?_; rintro e w7 ⟨a7, c7, rfl, hn7, hb7⟩; have S7 := Lib.hid hn7; have R7 := Lib.hid (row_keepB HR.out hb7); have B7 := Lib.hid (HB.out.trans (hb7.mono HB.out.size)); clear hn7 hb7)
              | (go_at_call 29; refine (KL.out _ _ S7.out).mono ?_; rintro e w8 ⟨⟨m1, m2⟩, hm8, rfl, hb8⟩; have M8 := Lib.hid (HMN.out (m1, m2) hm8.1 hm8.2); have R8 := Lib.hid (row_keepB R7.out hb8); have B8 := Lib.hid (B7.out.trans (hb8.mono B7.out.size)); clear hm8 hb8)
              | (with_reducible refine wpList_put_nd19 (o := ⟨none, _, _, _, _, _⟩) rfl _ _ rfl (i := t) (q1 := m1) (q2 := m2) rfl (by have := HT.out; omega) rfl R8.out (by rw [HRL.out]; exact htl) ?_; intro w9 hr9 hb9; have R9 := Lib.hid hr9; have B9 := Lib.hid (B8.out.trans (hb9.mono (by rw [HG5.out]; exact Nat.le_refl _))); clear hr9 hb9))
            go_roundw
            case rel =>
              refine ⟨t, _, (by congr 1; have := HT.out; omega), htl, Lib.hid (by rw [List.length_set]; exact HRL.out), ?_, R9, B9⟩
              refine Lib.hid ?_
              rw [M8.out]
              exact chain_set (by rw [HRL.out, HCL.out]) (by rw [HCL.out]; exact htl) (by rw [← HT.out]; exact HDR.out)
            case measure => have := HT.out; simp [intOf]; omega
          · have e : k = 0 := by omega
            subst e
            have hRC : R = C := by simpa using HDR.out
            subst hRC
            go_wp2
            go_ret2
            refine ⟨_, rfl, ?_, below_step B.out HB.out⟩
            rw [HCL.out]
            refine ⟨by rw [ndsC_len, HCL.out], .inr ⟨g, dd, _, rfl, ?_, HR.out, Nat.le_refl _, by unfold maxLen; omega, by rw [List.size_toArray, ndsC_len, HCL.out], ?_⟩⟩
            · rw [← HG5.out]; exact B.out.size
            · rw [List.toList_toArray]
              exact List.take_of_length_le (by rw [ndsC_len, HCL.out]; exact Nat.le_refl _)
theorem wchain_any (V : Value) (l : List Ne) (p v : List UInt8) (w : World) (h : Nes w V l) (hs : ∀ d ∈ l, smallNe d) (hl : l.length ≤ 1000) (hn : smallN (p, v)) :
    Calls Tryz.prog 8 #[V, .agg #[.string (mkB p), .string (mkB v)]] w fun e w' => ∃ a c, e = .returned (.tuple #[.slice a (chainE l (p, v)).1.length c, .int .i64 (chainE l (p, v)).2]) ∧ Nds w' (.slice a (chainE l (p, v)).1.length c) (chainE l (p, v)).1 ∧ Below w.heap.size w w' := by
  refine (wchaino_any V l p v w h hs hl hn).mono ?_
  rintro e w' ⟨u, rfl, hu, hb⟩
  obtain ⟨a, c, rfl, hd⟩ := ndsO hu
  exact ⟨a, c, rfl, hd, hb⟩
end Go.Proofs.YtdefphacdcbljaaGreat
