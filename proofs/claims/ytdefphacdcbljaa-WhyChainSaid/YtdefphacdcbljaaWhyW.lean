/- A set of needs in a map; a list that is a chain. -/
import Derived.Test.YtdefphacdcbljaaWhyK
namespace Go.Proofs.Ytdefphacdcbljaa
open Go.RowKit Go.Maps
set_option linter.unusedVariables false
set_option maxRecDepth 100000

theorem need_keyed : Keyed Try.prog 39 := Keyed.of_law (deep_law_laid laid_out (m := 9) (by decide) (of_decide_eq_true (by kernel_rfl)) (by kernel_rfl) (by kernel_rfl))
def litK (d : Ne) : Lit := .string (keyBytes [.string d.1.1, .string d.1.2, .string d.2.1, .string d.2.2])
theorem key_typeK : Try.prog.keyType 39 = true := by kernel_rfl
theorem cells_ne : Try.prog.cellsOf 39 = 4 := by kernel_rfl
theorem lits_ne (d : Nat) (x y z u : Value) : Try.prog.keyLits (d + 1) 39 [x, y, z, u] = (Try.prog.keyLits d 24 [x, y]).bind fun a => (Try.prog.keyLits d 24 [z, u]).map fun b => a ++ b := by
  simp only [Program.keyLits, Try.underlying39, cells_ne]
  rw [if_pos ⟨rfl, by simp⟩]
  simp only [List.mapM_cons, List.mapM_nil, cells_nd]
  simp only [List.drop_zero, List.take_succ_cons, List.take_zero, List.drop_succ_cons]
  cases Try.prog.keyLits d 24 [x, y] with
  | none => rfl
  | some a =>
    cases Try.prog.keyLits d 24 [z, u] with
    | none => rfl
    | some b => simp
theorem key_k (d : Ne) (h : fitNe d) : keyOf Try.prog 39 (neV d) = some (litK d) := by
  have hsz : Try.prog.types.size = Try.prog.types.size - 2 + 1 + 1 := by kernel_rfl
  have hf : (neV d).formed Try.prog 39 = true := by
    simp only [Value.formed, Try.underlying39, cells_ne]; rfl
  obtain ⟨⟨h1, h2⟩, h3, h4⟩ := h
  have s1 : (mkB d.1.1).size ≤ maxLen := by rw [mkB_size]; exact h1
  have s2 : (mkB d.1.2).size ≤ maxLen := by rw [mkB_size]; exact h2
  have s3 : (mkB d.2.1).size ≤ maxLen := by rw [mkB_size]; exact h3
  have s4 : (mkB d.2.2).size ≤ maxLen := by rw [mkB_size]; exact h4
  simp only [keyOf, Try.underlying39, key_typeK, hf, Bool.and_self, if_true, Value.cells]
  rw [lits_ne, hsz, lits_nd, lits_nd, lits_st, lits_st, lits_st, lits_st, if_pos s1, if_pos s2, if_pos s3, if_pos s4]
  simp only [mkB_list, Option.bind_some, Option.map_some]
  rfl
theorem neV_inj {d e : Ne} (h : neV d = neV e) : d = e := by
  obtain ⟨⟨a, b⟩, c, f⟩ := d
  obtain ⟨⟨a', b'⟩, c', f'⟩ := e
  simp only [Value.agg.injEq, Array.mk.injEq, List.cons.injEq, Value.string.injEq, and_true] at h
  obtain ⟨h1, h2, h3, h4⟩ := h
  rw [mkB_inj h1, mkB_inj h2, mkB_inj h3, mkB_inj h4]
theorem litK_inj {d e : Ne} (hd : fitNe d) (he : fitNe e) (h : litK d = litK e) : d = e :=
  neV_inj (need_keyed.inj (key_k d hd) (h ▸ key_k e he))
/-- Block b is a map of at most nn entries whose keys are the needs of K. -/
structure KMap (w : World) (b nn : Nat) (K : List Ne) : Prop where
  ex : ∃ D : DataW Unit, w.ownsMap Try.prog 39 unitElem b nn D ∧ ∀ d, fitNe d → has D (litK d) = decide (d ∈ K)
theorem KMap.made (w : World) : KMap (w.alloc (.map #[] 0)) w.heap.size 0 [] :=
  ⟨_, World.ownsMap_made w _ _ _, fun d _ => by simp [has]⟩
theorem KMap.kept {w w' : World} {b nn : Nat} {K : List Ne} {row : Option Nat} (h : KMap w b nn K) (hg : w.grownBy w' row) (hne : some b ≠ row) : KMap w' b nn K := by
  obtain ⟨D, ho, hD⟩ := h
  exact ⟨D, ho.kept hg hne, hD⟩
theorem KMap.alloc {w : World} {b nn : Nat} {K : List Ne} (h : KMap w b nn K) (o : Obj) : KMap (w.alloc o) b nn K := h.kept (World.grownBy_alloc w o none) (by simp)
theorem KMap.lt {w : World} {b nn : Nat} {K : List Ne} (h : KMap w b nn K) : b < w.heap.size := by obtain ⟨D, ho, _⟩ := h; exact ho.lt
theorem KMap.near {w w' : World} {b nn : Nat} {K : List Ne} (h : KMap w b nn K) (hb : w'.heap[b]? = w.heap[b]?) : KMap w' b nn K := by
  obtain ⟨D, ⟨es, clock, he, rest⟩, hD⟩ := h
  exact ⟨D, ⟨es, clock, hb.trans he, rest⟩, hD⟩
theorem KMap.below {w w' : World} {b nn : Nat} {K : List Ne} (h : KMap w b nn K) (hb : Below w.heap.size w w') : KMap w' b nn K := h.near (hb.block b h.lt)
theorem kmap_put {D : DataW Unit} {K : List Ne} {d : Ne} (hi : IsMap D) (hd : fitNe d) (hD : ∀ e, fitNe e → has D (litK e) = decide (e ∈ K)) : ∀ e, fitNe e → has (D.put (litK d) (.agg [])) (litK e) = decide (e ∈ K ++ [d]) := by
  have hk : WideAt.IsKeyLit (litK d) := need_keyed.key (key_k d hd)
  intro e he
  by_cases q : e = d
  · subst q
    rw [has_put_same hi hk]
    exact (decide_eq_true (by simp)).symm
  · have hne : litK e ≠ litK d := fun h => q (litK_inj he hd h)
    rw [has_put_other hne, hD e he]
    simp [q]
theorem make_kmap (n : Int) (w : World) : (Instr.makeMap 55 (some (.int .i64 n))).run Try.prog w = .ok (.map (some w.heap.size)) (w.alloc (.map #[] 0)) := by
  simp [Instr.makeMap, run_underlying Try.underlying55, asInt, asIntOf, Result.andThen]
section
variable {wr : World} {ops : Array Oper} {rest : List Oper} {o : Oper} {a : Act} {Q : Exit → Act → World → Prop}
theorem wpList_put_kmap (hgd : o.guard = none) (m x y : Operand) (ho : o.op = .mapUpdate 55 m x y) {b n : Nat} {K : List Ne} {d : Ne} (hm : a.eval m = .map (some b)) (h : KMap wr b n K) (hx : a.eval x = neV d) (hf : fitNe d)
    (hy : a.eval y = .agg #[]) (hn : n ≤ 2000000) (hK : ∀ w', KMap w' b (n + 1) (K ++ [d]) → wr.grownBy w' (some b) → wpList Try.prog ops Q rest (a.put o.dst undef) w') : wpList Try.prog ops Q (o :: rest) a wr := by
  obtain ⟨D, hown, hD⟩ := h
  refine wpList_mapUpdate_own _ hgd m x y 55 ho 39 56 need_keyed Try.underlying55 unitElem b n D hm hown (by unfold maxLen; omega) _ _ (litK d) hx hy (key_k d hf) (.agg []) [] unitElem_mk ?_
  intro w1 hown1 hgrow1
  exact hK w1 ⟨_, hown1, kmap_put hown.isMap hf hD⟩ hgrow1
theorem wpList_look_kmap (hgd : o.guard = none) (m x : Operand) (ho : o.op = .lookup 55 m x true) {b n : Nat} {K : List Ne} {d : Ne} (hm : a.eval m = .map (some b)) (h : KMap wr b n K) (hx : a.eval x = neV d) (hf : fitNe d)
    (hK : wpList Try.prog ops Q rest (a.put o.dst (.tuple #[.agg #[], .bool (decide (d ∈ K))])) wr) : wpList Try.prog ops Q (o :: rest) a wr := by
  obtain ⟨D, hown, hD⟩ := h
  refine wpList_lookup_own_unit _ hgd m x 55 ho 39 56 need_keyed Try.underlying55 (Try.zeroValue56 _) b n D hm hown _ (litK d) hx (key_k d hf) ?_
  rw [hD d hf]
  exact hK
end
/-! ### None of these may not be -/
set_option maxHeartbeats 400000 in
theorem wmayn_any (p v : List UInt8) (w : World) (hs : smallN (p, v)) (ho : okN (p, v) = true) :
    Calls Try.prog 24 #[.agg #[.string (mkB p), .string (mkB v)]] w fun e w' => e = .returned (.bool false) ∧ Below w.heap.size w w' := by
  obtain ⟨W, g, hW, hg, d0, d1, hb⟩ := boxB1 w (.string (mkB p)) (.string (mkB v)) 24
  have kc := fun w => nmay_any p v w hs.1 hs.2
  rw [ho] at kc
  have B := Lib.hid hb; have HW := Lib.hid hW; have HG := Lib.hid hg; have KC := Lib.hid kc
  clear hb hW hg kc hs ho
  go_enter Try.func24, Try.ntmps24
  go_upto_region 1 with fail
  rw [HW.out, HG.out]
  go_wp2_with (go_at_call 18; refine (KC.out _).mono ?_; rintro e w1 ⟨rfl, hb1⟩; have B1 := Lib.hid (below_step B.out hb1); clear hb1)
  go_ret
  exact ⟨rfl, B1.out⟩
set_option maxHeartbeats 800000 in
theorem windex_any (V : Value) (L : List Nd) (w : World) (h : Nds w V L) (hs : ∀ n ∈ L, smallN n) (ho : ∀ n ∈ L, okN n = true) :
    Calls Try.prog 40 #[V, .func (.func 24) #[] #[]] w fun e w' => e = .returned (.int .i64 (-1)) ∧ Below w.heap.size w w' := by
  obtain ⟨a, c, rfl, h1, h2, -, -⟩ := h.ex
  unfold maxLen at h2
  have eg : ∀ args w, (callFunc 24 args).run Try.prog w = .ok (.enter 24 args) w := enters_of Try.func24 (by kernel_rfl) rfl
  obtain ⟨n, hn⟩ : ∃ n, L.length = n := ⟨_, rfl⟩
  rw [hn] at h1 h ⊢
  have ST := Lib.hid h; have HN := Lib.hid hn; have HS := Lib.hid hs; have HO := Lib.hid ho
  clear h hn hs ho
  go_enter Try.func40, Try.ntmps40
  go_wp2
  go_loopw [8] (fun i wr => ∃ k : Nat, k ≤ n ∧ i = .int .i64 k ∧ Hid (Below w.heap.size w wr)) (fun i _ => n - (intOf i).toNat)
  case atStart => exact ⟨0, Nat.zero_le _, rfl, Lib.hid (Below.refl _ _)⟩
  case round =>
    obtain ⟨k, hk, rfl, HB⟩ := hrel
    by_cases hlt : k < n
    · have hkl : k < L.length := by rw [HN.out]; exact hlt
      obtain ⟨b, off, rfl, -, hc0, hc1⟩ := (ST.out.below HB.out).at k hkl
      have hsy := HS.out _ (nd_mem hkl)
      have hoy := HO.out _ (nd_mem hkl)
      obtain ⟨y, hy⟩ : ∃ y, y = L.getD k ([], []) := ⟨_, rfl⟩
      rw [← hy] at hc0 hc1 hsy hoy
      obtain ⟨y1, y2⟩ := y
      simp only at hc0 hc1
      have hcall := fun w => wmayn_any y1 y2 w hsy hoy
      have hkb : (k : Int) < (n : Int) := by omega
      clear hy hsy hoy
      go_wp2_with (go_at_fn 24; refine (hcall _).mono ?_; rintro e w1 ⟨rfl, hb1⟩; have B1 := Lib.hid (below_step HB.out hb1); clear hb1 hcall)
      go_roundw
      case rel => exact ⟨k + 1, by omega, by go_num, B1⟩
      case measure => simp [intOf]; omega
    · go_wp2
      go_ret
      exact ⟨rfl, HB.out⟩
set_option maxHeartbeats 400000 in
theorem wcont_any (V : Value) (L : List Nd) (w : World) (h : Nds w V L) (hs : ∀ n ∈ L, smallN n) (ho : ∀ n ∈ L, okN n = true) :
    Calls Try.prog 25 #[V, .func (.func 24) #[] #[]] w fun e w' => e = .returned (.bool false) ∧ Below w.heap.size w w' := by
  obtain ⟨a, c, rfl, -⟩ := h.ex
  have K := Lib.hid (windex_any _ L w h hs ho)
  obtain ⟨n, hn⟩ : ∃ n, L.length = n := ⟨_, rfl⟩
  rw [hn] at K ⊢
  clear h hs ho hn
  go_enter Try.func25, Try.ntmps25
  go_wp2_with (go_at_call 40; refine K.out.mono ?_; rintro e w1 ⟨rfl, hb1⟩; have B := Lib.hid hb1; clear hb1)
  go_ret
  exact ⟨rfl, B.out⟩
/-! ### A list that is a chain -/
theorem boxZ19 (w : World) (t : TypeId) : ∃ W g, w.alloc (.cells zeroN t) = W ∧ w.heap.size = g ∧ W.heap[g]? = some (.cells #[.string (mkB []), .string (mkB [])] t (0, 0)) ∧ Below w.heap.size w W :=
  ⟨_, _, rfl, rfl, heap_alloc_new _ _, (Below.refl _ _).alloc (Nat.le_refl _) _⟩
set_option maxHeartbeats 3200000 in
theorem wisy_any (U V : Value) (l : List Ne) (c : List Nd) (w : World) (hU : Nes w U l) (hV : Nds w V c) (hm : mayK l = true) (hs : ∀ d ∈ l, smallNe d) (hl : l.length ≤ 100000) (hc0 : 0 < c.length) (hcl : c.length ≤ 100000) (sc : ∀ n ∈ c, smallN n) (oc : ∀ n ∈ c, okN n = true) (hf : fromW l rootN c = true) :
    Calls Try.prog 10 #[U, V] w fun e w' => e = .returned (.tuple #[.bool true, .int .i64 0]) ∧ Below w.heap.size w w' := by
  obtain ⟨aU, cU, rfl, -⟩ := hU.ex
  obtain ⟨aV, cV, rfl, -⟩ := hV.ex
  have kchk := lCheck_any _ l w hU hs
  rw [chkK_yes hm] at kchk
  have kcon := fun w' (h' : Nds w' (.slice aV c.length cV) c) => wcont_any _ c w' h' sc oc
  have hmk := make_kmap
  have hfr := (fromW_iff l rootN c).1 hf
  obtain ⟨n, hn⟩ : ∃ n, l.length = n := ⟨_, rfl⟩
  obtain ⟨m, hm'⟩ : ∃ m, c.length = m := ⟨_, rfl⟩
  rw [hn] at hU kchk hl ⊢
  rw [hm'] at hV kcon hfr hc0 hcl ⊢
  have ST := Lib.hid hU; have SV := Lib.hid hV; have SV0 := Lib.hid hV; have HN := Lib.hid hn; have HMM := Lib.hid hm'; have HS := Lib.hid hs; have HSC := Lib.hid sc; have HFR := Lib.hid hfr; have KC := Lib.hid kchk; have KO := Lib.hid kcon
  clear hU hV hn hm' hs sc oc hfr kchk kcon hm hf
  have hm0 : ((m : Int) == 0) = false := beq_eq_false_iff_ne.2 (by omega)
  go_enter Try.func10, Try.ntmps10
  go_upto_region 4 with (first
    | (go_at_call 17; refine KC.out.mono ?_; rintro e w1 ⟨rfl, hb1⟩; have B := Lib.hid hb1; replace ST := Lib.hid (ST.out.below hb1); replace SV := Lib.hid (SV.out.below hb1); clear hb1)
    | (go_at_call 25; refine (KO.out _ SV.out).mono ?_; rintro e w2 ⟨rfl, hb1⟩; replace B := Lib.hid (below_step B.out hb1); replace ST := Lib.hid (ST.out.below hb1); replace SV := Lib.hid (SV.out.below hb1); clear hb1))
  go_upto_region 5 with fail
  obtain ⟨w3, b, hw3, hb3, M0, BM⟩ : ∃ w3 b, w2.alloc (.map #[] 0) = w3 ∧ w2.heap.size = b ∧ KMap w3 b 0 [] ∧ Below w2.heap.size w2 w3 := ⟨_, _, rfl, rfl, KMap.made w2, (Below.refl _ _).alloc (Nat.le_refl _) _⟩
  rw [hw3, hb3]
  have HM0 := Lib.hid M0; have HB3 := Lib.hid BM; have HG := Lib.hid hb3
  clear hw3 hb3 M0 BM hmk
  go_wp2
  go_loopw [33] (fun i wr => ∃ k : Nat, k ≤ n ∧ i = .int .i64 k ∧ Hid (KMap wr b k (l.take k)) ∧ Hid (Below w2.heap.size w2 wr)) (fun i _ => n - (intOf i).toNat)
  case atStart => exact ⟨0, Nat.zero_le _, rfl, Lib.hid (by simpa using HM0.out), HB3⟩
  case round =>
    obtain ⟨k, hk, rfl, HM, HB⟩ := hrel
    by_cases hlt : k < n
    · have hkl : k < l.length := by rw [HN.out]; exact hlt
      obtain ⟨b', off, rfl, -, hd0, hd1, hd2, hd3⟩ := (ST.out.below HB.out).at k hkl
      have htk := ne_take hkl
      have hft := fitNe19 (HS.out _ (ne_mem hkl))
      obtain ⟨y, hy⟩ : ∃ y, y = l.getD k zNe := ⟨_, rfl⟩
      rw [← hy] at hd0 hd1 hd2 hd3 htk hft
      obtain ⟨⟨y1, y2⟩, y3, y4⟩ := y
      simp only at hd0 hd1 hd2 hd3
      have HTK := Lib.hid htk; have HFT := Lib.hid hft
      have hkb : (k : Int) < (n : Int) := by omega
      clear hy htk hft
      go_upto_region 8 with fail
      obtain ⟨X, p, hX, hp, e0, e1, e2, e3, hxb⟩ := boxNe wr (.string (mkB y1)) (.string (mkB y2)) (.string (mkB y3)) (.string (mkB y4)) 39
      rw [hX, hp]
      have HMX := Lib.hid (HM.out.below hxb); have HBX := Lib.hid (below_step HB.out hxb)
      have hws : w2.heap.size ≤ X.heap.size := HBX.out.size
      clear hX hp hxb hd0 hd1 hd2 hd3
      go_wp2_with (at_mapUpdate; refine wpList_put_kmap rfl _ _ _ rfl (d := ((y1, y2), (y3, y4))) rfl HMX.out rfl HFT.out rfl (by omega) ?_; intro w5 hm5 hg5; have HM5 := Lib.hid hm5; have HB5 := Lib.hid (HBX.out.grown hg5 hws fun j e => by cases e; exact Nat.le_of_eq HG.out); clear hm5 hg5)
      go_roundw
      case rel => exact ⟨k + 1, by omega, by go_num, Lib.hid (by rw [HTK.out]; exact HM5.out), HB5⟩
      case measure => simp [intOf]; omega
    · have e : n = k := by omega
      subst e
      have hM := HM.out
      rw [List.take_of_length_le (by rw [HN.out]; exact Nat.le_refl _)] at hM
      have SV5 := Lib.hid (SV.out.below HB.out); have B5 := Lib.hid (below_step B.out HB.out)
      clear HM0 HB3 ST SV B KC KO
      go_upto_region 11 with fail
      change Code.wp _ _ _ _ (wr.alloc (.cells zeroN 24))
      obtain ⟨W6, gF, hW6, hgF, hrF, hbF⟩ := boxZ19 wr 24
      rw [hW6, hgF]
      have SV6 := Lib.hid (SV5.out.below hbF); have HM6 := Lib.hid (hM.below hbF); have B6 := Lib.hid (below_step B5.out hbF); have RF := Lib.hid hrF
      have HGF := Lib.hid (show w.heap.size ≤ gF from by rw [← hgF]; exact B5.out.size)
      clear hW6 hgF hrF hbF hM HM HB
      have hgl := (Array.getElem?_eq_some_iff.1 RF.out).1
      have HBG := Lib.hid (show b ≠ gF from fun e => by
        subst e
        obtain ⟨D6, ⟨es, clock, hb6, -⟩, -⟩ := HM6.out.ex
        have := RF.out
        rw [hb6] at this
        cases this)
      clear hgl
      go_wp2
      go_loopw [43] (fun i wr => ∃ (k : Nat) (x1 x2 : List UInt8), k ≤ m ∧ i = .int .i64 k ∧ Hid ((x1, x2) = (rootN :: c).getD k rootN) ∧ Hid (wr.heap[gF]? = some (.cells #[.string (mkB x1), .string (mkB x2)] 24 (0, 0))) ∧ Hid (KMap wr b n l) ∧ Hid (Below w.heap.size w wr)) (fun i _ => m - (intOf i).toNat)
      case atStart => exact ⟨0, [], [], Nat.zero_le _, rfl, Lib.hid rfl, RF, HM6, B6⟩
      case round =>
        clear RF HM6 B6 SV6 SV5 B5
        obtain ⟨k, x1, x2, hk, rfl, HX, HR, HMK, HB⟩ := hrel
        by_cases hlt2 : k < m
        · have hkl : k < c.length := by rw [HMM.out]; exact hlt2
          obtain ⟨b', off, rfl, -, hd0, hd1⟩ := (SV0.out.below HB.out).at k hkl
          have hin := HFR.out k hlt2
          have hsy := HSC.out _ (nd_mem hkl)
          rw [← HX.out] at hin
          obtain ⟨y, hy⟩ : ∃ y, y = c.getD k ([], []) := ⟨_, rfl⟩
          have hny : y = (rootN :: c).getD (k + 1) rootN := by rw [hy]; rfl
          rw [show c.getD k rootN = y from hy.symm] at hin
          rw [← hy] at hd0 hd1 hsy
          have hsx : fitsN (x1, x2) := by
            have h9 := fitNe19 (HS.out _ hin)
            exact h9.1
          obtain ⟨y1, y2⟩ := y
          simp only at hd0 hd1
          have HIN := Lib.hid (show decide (((x1, x2), (y1, y2)) ∈ l) = true from decide_eq_true hin)
          have HFT := Lib.hid (show fitNe ((x1, x2), (y1, y2)) from ⟨hsx, fitN19 hsy⟩)
          have HNY := Lib.hid hny
          have hkb : (k : Int) < (m : Int) := by omega
          clear hy hny hin hsx hsy
          go_upto_region 14 with fail
          obtain ⟨X, p, hX, hp, e0, e1, hxb⟩ := boxNd wr (.string (mkB y1)) (.string (mkB y2)) 24
          rw [hX, hp]
          have HRX := Lib.hid (row_keepB HR.out hxb); have HMX := Lib.hid (HMK.out.below hxb); have HBX := Lib.hid (below_step HB.out hxb)
          obtain ⟨c0, c1, f0, f1⟩ := row2 HRX.out
          clear hX hp hxb hd0 hd1 HR HMK HB
          go_upto_region 15 with (at_lookup; refine wpList_look_kmap rfl _ _ rfl (d := ((x1, x2), (y1, y2))) rfl HMX.out rfl HFT.out ?_; rw [HIN.out])
          obtain ⟨X2, hX2, hb2⟩ : ∃ X2, X.alloc (.cells #[] 56) = X2 ∧ Below X.heap.size X X2 := ⟨_, rfl, (Below.refl _ _).alloc (Nat.le_refl _) _⟩
          rw [hX2]
          have HR2 := Lib.hid (row_keepB HRX.out hb2); have HM2 := Lib.hid (HMX.out.below hb2); have HB2 := Lib.hid (below_step HBX.out hb2)
          replace e0 := cell_keep e0 hb2; replace e1 := cell_keep e1 hb2
          clear c0 c1 f0 f1 hX2 hb2 HRX HMX HBX
          obtain ⟨c0, c1, f0, f1⟩ := row2 HR2.out
          have hgF := HGF.out
          go_wp2
          go_roundw
          case rel =>
            refine ⟨k + 1, y1, y2, by omega, by go_num, HNY, Lib.hid (row2_set HR2.out _ _), ?_, ?_⟩
            · exact Lib.hid (HM2.out.near ((Below.heap_setCell _ ⟨gF, 1, none⟩ _ b HBG.out).trans (Below.heap_setCell _ ⟨gF, 0, none⟩ _ b HBG.out)))
            · exact Lib.hid ((HB2.out.setCell (p := ⟨gF, 0, none⟩) hgF _).setCell (p := ⟨gF, 1, none⟩) hgF _)
          case measure => simp [intOf]; omega
        · go_wp2
          go_ret2
          exact ⟨rfl, HB.out⟩
end Go.Proofs.Ytdefphacdcbljaa
