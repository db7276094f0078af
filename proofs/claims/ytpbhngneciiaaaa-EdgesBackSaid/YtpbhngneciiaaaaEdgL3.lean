/- Of every edges (no more than are looked at) and any pairs: what was added, and dropped, leaves edges as they were; in whatever order pairs are added the edges are the same; no condition. -/
import Derived.Test.YtpbhngneciiaaaaRows
import Derived.Test.YtpbhngneciiaaaaEdgP
import Derived.ProofKit
import Derived.OpenShut
import Derived.ShutString
import Derived.ChangeOld
namespace Go.Proofs.Ytpbhngneciiaaaa.edgesBack
open Go.ChangeShapes Go.WideShapes Go.ChangeAt Go.RowKit
open Go.ChangeMaps (open_string shut_string)
set_option maxRecDepth 100000
set_option linter.unusedVariables false

theorem filter_two (p q : Ed → Bool) (h : ∀ e, p e = true → q e = false) : ∀ l : List Ed, (l.filter p).length + (l.filter q).length ≤ l.length
  | [] => Nat.le_refl _
  | e :: l => by
    have ih := filter_two p q h l
    cases hp : p e
    · rw [List.filter_cons_of_neg (by rw [hp]; simp)]
      cases hq : q e
      · rw [List.filter_cons_of_neg (by rw [hq]; simp), List.length_cons]; omega
      · rw [List.filter_cons_of_pos hq, List.length_cons, List.length_cons]; omega
    · have hq := h e hp
      rw [List.filter_cons_of_pos hp, List.filter_cons_of_neg (by rw [hq]; simp), List.length_cons, List.length_cons]; omega
theorem with_len (l : List Ed) (x : Ed) : (withE l x).length ≤ l.length + 1 := by
  have h1 := filter_two (fun e => ltE e x) (fun e => ltE x e) (fun e h => ltE_asymm h) l
  have h2 := midE_len x
  unfold withE
  rw [List.length_append, List.length_append]; omega
theorem add_len (l : List Ed) (f t : Int) : (addL l f t).length ≤ l.length + 1 := by
  unfold addL; split
  · exact with_len _ _
  · simp
theorem drop_len (l : List Ed) (f t : Int) : (dropL l f t).length ≤ l.length + 1 := by
  unfold dropL; split
  · exact with_len _ _
  · simp
def cntP (q : List (Int × Int)) (F T : Int) : Int := ((q.filter fun r => decide (r.1 = F) && decide (r.2 = T)).length : Nat)
theorem cnt_app (q r : List (Int × Int)) (F T : Int) : cntP (q ++ r) F T = cntP q F T + cntP r F T := by unfold cntP; rw [List.filter_append, List.length_append]; omega
theorem cnt_one (f t F T : Int) : cntP [(f, t)] F T = if F = f ∧ T = t then 1 else 0 := by
  unfold cntP
  by_cases h : F = f ∧ T = t
  · obtain ⟨rfl, rfl⟩ := h; simp
  · rw [if_neg h, List.filter_cons_of_neg]
    · rfl
    · simp only [Bool.and_eq_true, decide_eq_true_eq]; exact fun k => h ⟨k.1.symm, k.2.symm⟩
theorem cnt_rev (q : List (Int × Int)) (F T : Int) : cntP q.reverse F T = cntP q F T := by unfold cntP; rw [List.filter_reverse, List.length_reverse]
theorem cnt_pos (q : List (Int × Int)) (F T : Int) : 0 ≤ cntP q F T := by unfold cntP; omega
/-- Edges that are those of x with some pairs more. -/
structure Back (x : List Ed) (q : List (Int × Int)) (a : List Ed) : Prop where
  ok : okE a = true
  many : ∀ F T, manyE a F T = manyE x F T + cntP q F T
theorem many_with {a : List Ed} {f t n : Int} (hn : 0 ≤ n) (F T : Int) : manyE (withE a (f, t, n)) F T = if F = f ∧ T = t then n else manyE a F T := by
  rw [with_many (x := (f, t, n)) hn]
  by_cases h : F = f ∧ T = t
  · rw [if_pos h, if_pos (isP_iff.2 ⟨h.1.symm, h.2.symm⟩)]
  · rw [if_neg h, if_neg (fun k => h ⟨(isP_iff.1 k).1.symm, (isP_iff.1 k).2.symm⟩)]
theorem Back.add {x a : List Ed} {q : List (Int × Int)} {f t : Int} (h : Back x q a) (hf : -1 ≤ f) (ht : 0 ≤ t) : (addK a f t = 0 ∨ addK a f t = 4) ∧ (addK a f t = 0 → Back x (q ++ [(f, t)]) (addL a f t)) := by
  have hm : mayE a f t = true := mayE_of h.ok hf ht
  have hK : addK a f t = if manyE a f t = topE then 4 else 0 := by unfold addK; rw [hm]; rfl
  have hb := many_bd h.ok f t
  refine ⟨?_, fun hk => ?_⟩
  · rw [hK]; split
    · exact .inr rfl
    · exact .inl rfl
  · have hT : ¬ manyE a f t = topE := fun e => by rw [hK, if_pos e] at hk; cases hk
    have hA : addL a f t = withE a (f, t, manyE a f t + 1) := by unfold addL; rw [if_pos hk]
    rw [hA]
    refine ⟨with_ok h.ok hf ht (by show manyE a f t + 1 ≤ topE; omega), fun F T => ?_⟩
    rw [many_with (by omega), cnt_app, cnt_one]
    by_cases e : F = f ∧ T = t
    · obtain ⟨rfl, rfl⟩ := e
      rw [if_pos ⟨rfl, rfl⟩, if_pos ⟨rfl, rfl⟩, h.many]; omega
    · rw [if_neg e, if_neg e, h.many]; omega
theorem Back.drop {x a : List Ed} {q : List (Int × Int)} {f t : Int} (hx : okE x = true) (h : Back x ((f, t) :: q) a) (hf : -1 ≤ f) (ht : 0 ≤ t) : dropK a f t = 0 ∧ Back x q (dropL a f t) := by
  have hm : mayE a f t = true := mayE_of h.ok hf ht
  have hb := many_bd h.ok f t
  have hc : ∀ F T, cntP ((f, t) :: q) F T = (if F = f ∧ T = t then 1 else 0) + cntP q F T := fun F T => by rw [← cnt_one, ← cnt_app]; rfl
  have h1 := h.many f t
  rw [hc, if_pos ⟨rfl, rfl⟩] at h1
  have h2 := (many_bd hx f t).1
  have h3 := cnt_pos q f t
  have hz : ¬ manyE a f t = 0 := by omega
  have hk : dropK a f t = 0 := by unfold dropK; rw [hm, if_neg hz]; rfl
  have hD : dropL a f t = withE a (f, t, manyE a f t - 1) := by unfold dropL; rw [if_pos hk]
  refine ⟨hk, ?_⟩
  rw [hD]
  refine ⟨with_ok h.ok hf ht (by show manyE a f t - 1 ≤ topE; omega), fun F T => ?_⟩
  rw [many_with (by omega)]
  by_cases e : F = f ∧ T = t
  · obtain ⟨rfl, rfl⟩ := e
    rw [if_pos ⟨rfl, rfl⟩]; omega
  · rw [if_neg e, h.many, hc, if_neg e]; omega
theorem Back.same {x a b : List Ed} {q r : List (Int × Int)} (h : Back x q a) (k : Back x r b) (hc : ∀ F T, cntP q F T = cntP r F T) : a = b := edges_ext h.ok k.ok fun F T => by rw [h.many, k.many, hc]
theorem Back.refl {x : List Ed} (h : okE x = true) : Back x [] x := ⟨h, fun F T => by show _ = _ + ((0 : Nat) : Int); omega⟩
/-- The pair that a number of 16 bits tells. -/
def prU (z : Int) : Int × Int := (z / 256 % 8 - 1, z % 8)
theorem ps_take {zs : List Int} {N k : Nat} (h : k < N) (hN : N ≤ zs.length) : ((zs.take N).map prU).take (k + 1) = ((zs.take N).map prU).take k ++ [prU (zs.getD k 0)] := by
  have hk : k < ((zs.take N).map prU).length := by rw [List.length_map, List.length_take]; omega
  rw [List.take_succ_eq_append_getElem hk]
  simp [List.getD_eq_getElem?_getD, List.getElem?_eq_getElem (show k < zs.length by omega)]
theorem ps_rev {zs : List Int} {N k : Nat} (h : k < N) (hN : N ≤ zs.length) : ((zs.take N).map prU).reverse.take (k + 1) = ((zs.take N).map prU).reverse.take k ++ [prU (zs.getD (N - 1 - k) 0)] := by
  have hl : ((zs.take N).map prU).length = N := by rw [List.length_map, List.length_take]; omega
  have hk : k < ((zs.take N).map prU).reverse.length := by rw [List.length_reverse, hl]; exact h
  rw [List.take_succ_eq_append_getElem hk, List.getElem_reverse]
  simp [List.getD_eq_getElem?_getD, List.getElem?_eq_getElem (show N - 1 - k < zs.length by omega), Nat.min_eq_left hN]
theorem ps_drop {zs : List Int} {N k : Nat} (h : k < N) (hN : N ≤ zs.length) : ((zs.take N).map prU).drop k = prU (zs.getD k 0) :: ((zs.take N).map prU).drop (k + 1) := by
  have hk : k < ((zs.take N).map prU).length := by rw [List.length_map, List.length_take]; omega
  rw [List.drop_eq_getElem_cons hk]
  simp [List.getD_eq_getElem?_getD, List.getElem?_eq_getElem (show k < zs.length by omega)]
theorem min_nat (lz : Nat) : ∃ N : Nat, (if (20 : Int) < (lz : Int) then 20 else (lz : Int)) = (N : Int) ∧ N ≤ 20 ∧ N ≤ lz := by
  by_cases h : (20 : Int) < (lz : Int)
  · exact ⟨20, by rw [if_pos h]; rfl, Nat.le_refl _, by omega⟩
  · exact ⟨lz, if_neg h, by omega, Nat.le_refl _⟩
theorem zs_mem {l : List Int} {k : Nat} (h : k < l.length) : l.getD k 0 ∈ l := by
  have : l.getD k 0 = l[k] := by simp [List.getD_eq_getElem?_getD, List.getElem?_eq_getElem h]
  rw [this]; exact List.getElem_mem h
set_option maxRecDepth 100000 in
set_option maxHeartbeats 6400000 in
theorem walk (U : Value) (l : List Ed) (V : Value) (zs : List Int) (w : World) (hU : Eds w U l ∧ ∀ e ∈ l, fitE e) (hV : U16s w V zs ∧ ∀ z ∈ zs, fitU16 z) :
    Calls Try.prog 5 #[U, V] w fun e w' => e = .returned (.bool true) ∧ Below w.heap.size w w' := by
  obtain ⟨hV, fV⟩ := hV
  obtain ⟨va, vc, rfl, hv1, hv2, -⟩ := hV.ex
  unfold maxLen at hv2
  obtain ⟨hU, fU⟩ := hU
  obtain ⟨ua, uc, rfl, -⟩ := hU.ex
  have k0 := fun V w h => efew_any V l w h
  have hx40 := fewE_len l
  obtain ⟨x, hx⟩ : ∃ x, fewE l = x := ⟨_, rfl⟩
  have fX : ∀ e ∈ x, fitE e := by rw [← hx]; exact fun e he => fU e (List.mem_of_mem_take he)
  obtain ⟨n, hn⟩ : ∃ n, x.length = n := ⟨_, rfl⟩
  rw [hx] at k0 hx40
  rw [hn] at k0 hx40
  obtain ⟨ln, hln⟩ : ∃ ln, l.length = ln := ⟨_, rfl⟩
  rw [hln] at hU ⊢
  have hsm : x.length ≤ 1000000 := by rw [hn]; omega
  have SU := Lib.hid hU; have HN := Lib.hid hn; have B := Lib.hid (Below.refl w.heap.size w); have FX := Lib.hid fX; have HSM := Lib.hid hsm
  clear hU hx hn hln fU fX hsm
  obtain ⟨lz, hlz⟩ : ∃ z, zs.length = z := ⟨_, rfl⟩
  rw [hlz] at hV hv1 ⊢
  have SV := Lib.hid hV; have FV := Lib.hid fV; have HLZ := Lib.hid hlz
  have k1 := fun V w h => check_any V x w h
  unfold chkE at k1
  clear hV fV hlz
  go_enter Try.func5, Try.ntmps5
  go_upto_region 2 with (go_at_call 9; refine (k0 _ _ SU.out).mono ?_; rintro e w1 ⟨a1, c1, rfl, hN, rfl⟩; have SX := Lib.hid hN; clear hN k0)
  obtain ⟨o, ho⟩ : ∃ o, okE x = o := ⟨_, rfl⟩
  rw [ho] at k1
  cases o
  · simp only [Bool.false_eq_true, if_false] at k1
    clear ho
    go_wp2_with (first
      | (go_at_call 14; refine (k1 _ _ SX.out).mono ?_; rintro e w2 ⟨rfl, hb2⟩; replace SX := Lib.hid (SX.out.below hb2); replace SV := Lib.hid (SV.out.below hb2); replace B := Lib.hid (below_step B.out hb2); clear hb2 k1)
      | (go_at_call 16; refine (eawake_any _).mono ?_; rintro e w9 ⟨rfl, hb9⟩; replace B := Lib.hid (below_step B.out hb9); clear hb9))
    go_ret
    exact ⟨rfl, B.out⟩
  · simp only [if_true] at k1
    have HOK := Lib.hid ho
    clear ho
    have eAdd : ∀ args w, (callFunc 22 args).run Try.prog w = .ok (.enter 22 args) w := enters_of Try.func22 (by kernel_rfl) rfl
    have eDrop : ∀ args w, (callFunc 23 args).run Try.prog w = .ok (.enter 23 args) w := enters_of Try.func23 (by kernel_rfl) rfl
    by_cases hn0 : n = 0
    · subst hn0
      go_upto_region 4 with (go_at_call 14; refine (k1 _ _ SX.out).mono ?_; rintro e w2 ⟨rfl, hb2⟩; replace SX := Lib.hid (SX.out.below hb2); replace SV := Lib.hid (SV.out.below hb2); replace B := Lib.hid (below_step B.out hb2); clear hb2 k1)
      go_upto_region 5 with fail
      go_upto_region 6 with fail
      obtain ⟨N, hN, hN20, hNl⟩ := min_nat lz
      rw [hN]
      obtain ⟨ps, hps⟩ : ∃ z, (zs.take N).map prU = z := ⟨_, rfl⟩
      have hpl : ps.length = N := by rw [← hps, List.length_map, List.length_take, HLZ.out]; omega
      have hpa : ∀ k, k < N → ps.take (k + 1) = ps.take k ++ [prU (zs.getD k 0)] := fun k h => by rw [← hps]; exact ps_take h (by rw [HLZ.out]; exact hNl)
      have hpb : ∀ k, k < N → ps.reverse.take (k + 1) = ps.reverse.take k ++ [prU (zs.getD (N - 1 - k) 0)] := fun k h => by rw [← hps]; exact ps_rev h (by rw [HLZ.out]; exact hNl)
      have hpd : ∀ k, k < N → ps.drop k = prU (zs.getD k 0) :: ps.drop (k + 1) := fun k h => by rw [← hps]; exact ps_drop h (by rw [HLZ.out]; exact hNl)
      have HPL := Lib.hid hpl; have HPA := Lib.hid hpa; have HPB := Lib.hid hpb; have HPD := Lib.hid hpd
      clear hN hps hpl hpa hpb hpd
      skip
      go_wp2
      go_loopw [5, 6, 8] (fun v5 v6 i wr => ∃ (k ma mb ca cb : Nat) (A C : List Ed) (aa ab : Option Addr), k ≤ N ∧ ma ≤ 40 + k ∧ mb ≤ 40 + k ∧ v5 = .slice aa ma ca ∧ v6 = .slice ab mb cb ∧ i = .int .i64 k ∧ Hid (A.length = ma) ∧ Hid (C.length = mb) ∧ Hid (Back x (ps.take k) A) ∧ Hid (Back x (ps.reverse.take k) C) ∧ Hid (Eds wr (.slice aa ma ca) A) ∧ Hid (Eds wr (.slice ab mb cb) C) ∧ Hid (Below w2.heap.size w2 wr)) (fun _ _ i _ => N - (intOf i).toNat)
      case atStart => exact ⟨0, _, _, _, _, x, x, _, _, Nat.zero_le _, by omega, by omega, rfl, rfl, rfl, HN, HN, Lib.hid (Back.refl HOK.out), Lib.hid (Back.refl HOK.out), SX, SX, Lib.hid (Below.refl _ _)⟩
      case round =>
        obtain ⟨k, ma, mb, ca, cb, A, C, aa, ab, hk, hma, hmb, rfl, rfl, rfl, HMA, HMB, HBA, HBC, SA, SC, HB⟩ := hrel
        by_cases hlt : k < N
        · have hkl : k < lz := by omega
          obtain ⟨N1, hN1⟩ : ∃ z, N - 1 = z := ⟨_, rfl⟩
          obtain ⟨j, hj⟩ : ∃ z, N1 - k = z := ⟨_, rfl⟩
          have hN1a : 1 ≤ N := by omega
          have hN1b : N ≤ 1000 := by omega
          have hN1c : N1 ≤ 1000 := by omega
          have hkN : k ≤ N1 := by omega
          have hjl : j < lz := by omega
          obtain ⟨bv, ov, rfl, -, hcv⟩ := (SV.out.below HB.out).at k (by rw [HLZ.out]; omega)
          rw [HLZ.out] at hcv
          have hc1 := hcv k hkl
          have hc2 := hcv j hjl
          have ha1 := HPA.out k hlt
          have hb1 := HPB.out k hlt
          rw [hN1, hj] at hb1
          have g1 := FV.out _ (zs_mem (k := k) (by rw [HLZ.out]; exact hkl))
          have g2 := FV.out _ (zs_mem (k := j) (by rw [HLZ.out]; exact hjl))
          obtain ⟨z1, hz1⟩ : ∃ z, zs.getD k 0 = z := ⟨_, rfl⟩
          obtain ⟨z2, hz2⟩ : ∃ z, zs.getD j 0 = z := ⟨_, rfl⟩
          rw [hz1] at hc1 ha1 g1
          rw [hz2] at hc2 hb1 g2
          obtain ⟨g10, g11⟩ := g1
          obtain ⟨g20, g21⟩ := g2
          clear hcv hz1 hz2
          obtain ⟨s1, hs1⟩ : ∃ s, z1 / 256 = s := ⟨_, rfl⟩
          obtain ⟨r1, hr1⟩ : ∃ s, s1 % 8 = s := ⟨_, rfl⟩
          obtain ⟨f1, hf1⟩ : ∃ s, r1 - 1 = s := ⟨_, rfl⟩
          obtain ⟨t1, ht1⟩ : ∃ s, z1 % 8 = s := ⟨_, rfl⟩
          have hpr1 : prU z1 = (f1, t1) := by unfold prU; rw [hs1, hr1, hf1, ht1]
          have hs10 : 0 ≤ s1 := by omega
          have hs11 : s1 ≤ 65535 := by omega
          have hr10 : 0 ≤ r1 := by omega
          have hr11 : r1 ≤ 65535 := by omega
          have ht10 : 0 ≤ t1 := by omega
          have ht11 : t1 ≤ 65535 := by omega
          have hf10 : -1 ≤ f1 := by omega
          obtain ⟨s2, hs2⟩ : ∃ s, z2 / 256 = s := ⟨_, rfl⟩
          obtain ⟨r2, hr2⟩ : ∃ s, s2 % 8 = s := ⟨_, rfl⟩
          obtain ⟨f2, hf2⟩ : ∃ s, r2 - 1 = s := ⟨_, rfl⟩
          obtain ⟨t2, ht2⟩ : ∃ s, z2 % 8 = s := ⟨_, rfl⟩
          have hpr2 : prU z2 = (f2, t2) := by unfold prU; rw [hs2, hr2, hf2, ht2]
          have hs20 : 0 ≤ s2 := by omega
          have hs21 : s2 ≤ 65535 := by omega
          have hr20 : 0 ≤ r2 := by omega
          have hr21 : r2 ≤ 65535 := by omega
          have ht20 : 0 ≤ t2 := by omega
          have ht21 : t2 ≤ 65535 := by omega
          have hf20 : -1 ≤ f2 := by omega
          rw [hpr1] at ha1
          rw [hpr2] at hb1
          have hsA : A.length ≤ 1000000 := by rw [HMA.out]; omega
          have hsC : C.length ≤ 1000000 := by rw [HMB.out]; omega
          have kadd1 := fun V w h => add_any V A f1 t1 w h hsA
          have kadd2 := fun V w h => add_any V C f2 t2 w h hsC
          obtain ⟨pa1, pa2⟩ := HBA.out.add hf10 ht10
          obtain ⟨pb1, pb2⟩ := HBC.out.add hf20 ht20
          rw [← ha1] at pa2
          rw [← hb1] at pb2
          have l1 := add_len A f1 t1
          have l2 := add_len C f2 t2
          rw [HMA.out] at l1
          rw [HMB.out] at l2
          obtain ⟨A1, hA1⟩ : ∃ z, addL A f1 t1 = z := ⟨_, rfl⟩
          obtain ⟨K1, hK1⟩ : ∃ z, addK A f1 t1 = z := ⟨_, rfl⟩
          obtain ⟨C1, hC1⟩ : ∃ z, addL C f2 t2 = z := ⟨_, rfl⟩
          obtain ⟨K2, hK2⟩ : ∃ z, addK C f2 t2 = z := ⟨_, rfl⟩
          rw [hA1] at kadd1 pa2 l1
          rw [hK1] at kadd1 pa1 pa2
          rw [hC1] at kadd2 pb2 l2
          rw [hK2] at kadd2 pb1 pb2
          obtain ⟨m1, hm1⟩ : ∃ z, A1.length = z := ⟨_, rfl⟩
          obtain ⟨m2, hm2⟩ : ∃ z, C1.length = z := ⟨_, rfl⟩
          rw [hm1] at kadd1 l1
          rw [hm2] at kadd2 l2
          have HM1 := Lib.hid hm1; have HM2 := Lib.hid hm2; have PA1 := Lib.hid pa1; have PA2 := Lib.hid pa2; have PB1 := Lib.hid pb1; have PB2 := Lib.hid pb2
          clear hA1 hK1 hC1 hK2 hm1 hm2 pa1 pa2 pb1 pb2 hsA hsC ha1 hb1 hpr1 hpr2
          go_upto_region 9 with fail
          refine rol_run (by kernel_rfl) [[], [], [], [1, 2], [1, 2, 3], [1, 2, 3, 4], [1, 2, 3, 4, 5], [1, 2, 3, 4, 5, 6], [1, 2, 3, 4, 5, 6, 7], [], [], [9, 10], [9, 10, 11], [9, 10, 11, 12], [9, 10, 11, 12, 13], [0, 1, 2, 3, 4, 5, 6, 7, 8, 9, 10, 11, 12, 13, 14], [0, 1, 2, 3, 4, 5, 6, 7, 8, 9, 10, 11, 12, 13, 14, 15], [0, 1, 2, 3, 4, 5, 6, 7, 8, 9, 10, 11, 12, 13, 14, 15, 16], [0, 1, 2, 3, 4, 5, 6, 7, 8, 9, 10, 11, 12, 13, 14, 15, 16], [0, 1, 2, 3, 4, 5, 6, 7, 8, 9, 10, 11, 12, 13, 14, 15, 16, 17], [0, 1, 2, 3, 4, 5, 6, 7, 8, 9, 10, 11, 12, 13, 14, 15, 16, 17, 18, 19]] (by kernel_rfl) [45, 46, 47, 48, 49, 50, 51, 52, 53, 54, 55, 56, 57, 58, 59, 60, 44, 61, 62, 9, 10] [[], [], [], [1, 2], [3], [4], [5], [6], [7], [], [], [9, 10], [11], [12], [13], [0, 8, 14], [15], [16], [16], [17], [18]] [0, 0, 0, 0, 0, 0, 0, 0, 0, 0, 0, 0, 0, 0, 0, 1, 1, 1, 0, 1, 0] [0, 0, 0, 0, 0, 0, 0, 0, 0, 0, 0, 0, 0, 0, 0, 1, 0, 0, 0, 0, 0] [1000, 1000, 1000, 1000, 1000, 1000, 1000, 1000, 1000, 1000, 1000, 1000, 1000, 1000, 1000, 1000, 1000, 1000, 1000, 1000, 1000] [.val 45 (.slice aa ma ca), .val 46 (.slice (some ⟨bv, ov, none⟩) lz vc), .val 47 (.int .i64 (k : Int)), .val 48 (.pointer (some ⟨bv, ov + k, none⟩)), .val 49 (.int .u16 z1), .val 50 (.int .u16 s1), .val 51 (.int .u16 r1), .val 52 (.int .i64 r1), .val 53 (.int .i64 f1), .val 54 (.slice (some ⟨bv, ov, none⟩) lz vc), .val 55 (.int .i64 (k : Int)), .val 56 (.pointer (some ⟨bv, ov + k, none⟩)), .val 57 (.int .u16 z1), .val 58 (.int .u16 t1), .val 59 (.int .i64 t1), .mem 60 (tupPE wr.heap.size m1 A1 (.int .i64 K1)), .mem 44 (tupPE wr.heap.size m1 A1 (.int .i64 K1)), .mem 61 (rowPE wr.heap.size m1 A1), .val 62 (.int .i64 K1), .mem 9 (rowPE wr.heap.size m1 A1), .val 10 (.int .i64 K1)] (by kernel_rfl) ?_ (wr.heap.size) (wr.heap.size) rfl (Below.refl _ _) rfl (fun _ => 0) ?_ ?_ ?_
          · intro j hj
            have hj3 : j < 21 := hj
            have hj2 : j = 0 ∨ j = 1 ∨ j = 2 ∨ j = 3 ∨ j = 4 ∨ j = 5 ∨ j = 6 ∨ j = 7 ∨ j = 8 ∨ j = 9 ∨ j = 10 ∨ j = 11 ∨ j = 12 ∨ j = 13 ∨ j = 14 ∨ j = 15 ∨ j = 16 ∨ j = 17 ∨ j = 18 ∨ j = 19 ∨ j = 20 := by omega
            clear hj hj3
            rcases hj2 with rfl | rfl | rfl | rfl | rfl | rfl | rfl | rfl | rfl | rfl | rfl | rfl | rfl | rfl | rfl | rfl | rfl | rfl | rfl | rfl | rfl
            · exact trivial
            · exact trivial
            · exact trivial
            · exact trivial
            · exact trivial
            · exact trivial
            · exact trivial
            · exact trivial
            · exact trivial
            · exact trivial
            · exact trivial
            · exact trivial
            · exact trivial
            · exact trivial
            · exact trivial
            · exact tupPE_near
            · exact tupPE_near
            · exact rowPE_near
            · exact trivial
            · exact rowPE_near
            · exact trivial
          · intro j hj0 hj
            exact absurd hj (Nat.not_lt.2 hj0)
          · intro i hi a wx who hG hF
            have hz : a.tmps.size = 150 := hG.size
            have hi3 : i < 21 := hi
            have hi2 : i = 0 ∨ i = 1 ∨ i = 2 ∨ i = 3 ∨ i = 4 ∨ i = 5 ∨ i = 6 ∨ i = 7 ∨ i = 8 ∨ i = 9 ∨ i = 10 ∨ i = 11 ∨ i = 12 ∨ i = 13 ∨ i = 14 ∨ i = 15 ∨ i = 16 ∨ i = 17 ∨ i = 18 ∨ i = 19 ∨ i = 20 := by omega
            clear hi hi3
            rcases hi2 with rfl | rfl | rfl | rfl | rfl | rfl | rfl | rfl | rfl | rfl | rfl | rfl | rfl | rfl | rfl | rfl | rfl | rfl | rfl | rfl | rfl
            · exact rol_val rfl rfl rfl (by rw [hz]; decide) (ex_move (Or.inl rfl) (eval_slot ((hG.slots 5 (by decide)).trans rfl))) hG.below
            · exact rol_val rfl rfl rfl (by rw [hz]; decide) (ex_move (Or.inl rfl) (eval_slot ((hG.slots 1 (by decide)).trans rfl))) hG.below
            · exact rol_val rfl rfl rfl (by rw [hz]; decide) (ex_move (Or.inl rfl) (eval_slot ((hG.slots 8 (by decide)).trans rfl))) hG.below
            · exact rol_val rfl rfl rfl (by rw [hz]; decide) (ex_index rfl (eval_slot (hF 1 (by decide))) (eval_slot (hF 2 (by decide))) (idx_u16 hkl)) hG.below
            · exact rol_val rfl rfl rfl (by rw [hz]; decide) (ex_load rfl (eval_slot (hF 3 (by decide))) (ld_u16 (cell_keep hc1 hG.below))) hG.below
            · exact rol_val rfl rfl rfl (by rw [hz]; decide) (ex_bin rfl (eval_slot (hF 4 (by decide))) rfl (by go_simp) (shr_u16 z1 s1 hs1 _)) hG.below
            · exact rol_val rfl rfl rfl (by rw [hz]; decide) (ex_bin rfl (eval_slot (hF 5 (by decide))) rfl (by go_simp) (rem_u16 s1 r1 hs10 hs11 hr1 _)) hG.below
            · exact rol_val rfl rfl rfl (by rw [hz]; decide) (ex_conv rfl (eval_slot (hF 6 (by decide))) (conv_u16 r1 hr10 hr11 _)) hG.below
            · exact rol_val rfl rfl rfl (by rw [hz]; decide) (ex_bin rfl (eval_slot (hF 7 (by decide))) rfl (by go_simp) (sub_one r1 f1 hr10 hr11 hf1 _)) hG.below
            · exact rol_val rfl rfl rfl (by rw [hz]; decide) (ex_move (Or.inl rfl) (eval_slot ((hG.slots 1 (by decide)).trans rfl))) hG.below
            · exact rol_val rfl rfl rfl (by rw [hz]; decide) (ex_move (Or.inl rfl) (eval_slot ((hG.slots 8 (by decide)).trans rfl))) hG.below
            · exact rol_val rfl rfl rfl (by rw [hz]; decide) (ex_index rfl (eval_slot (hF 9 (by decide))) (eval_slot (hF 10 (by decide))) (idx_u16 hkl)) hG.below
            · exact rol_val rfl rfl rfl (by rw [hz]; decide) (ex_load rfl (eval_slot (hF 11 (by decide))) (ld_u16 (cell_keep hc1 hG.below))) hG.below
            · exact rol_val rfl rfl rfl (by rw [hz]; decide) (ex_bin rfl (eval_slot (hF 12 (by decide))) rfl (by go_simp) (rem_u16 z1 t1 g10 g11 ht1 _)) hG.below
            · exact rol_val rfl rfl rfl (by rw [hz]; decide) (ex_conv rfl (eval_slot (hF 13 (by decide))) (conv_u16 t1 ht10 ht11 _)) hG.below
            · refine rol_call rfl rfl rfl (by rw [hz]; decide) (ex_call rfl (by simp [eval_slot (hF 0 (by decide)), eval_slot (hF 8 (by decide)), eval_slot (hF 14 (by decide))]) eAdd) (kadd1 _ wx (SA.out.below hG.below)) ?_ hG.below hG.below.size
              rintro e w1 ⟨v, rfl, hown, hb1⟩
              exact ⟨_, rfl, hb1, .inr ⟨_, v.ownBlock, rfl, fun b e => ⟨(hown.lt b e).1, (hown.lt b e).2⟩, v, rfl, row_base hown hG.below.size, rfl⟩⟩
            · exact rol_move rfl rfl rfl (by rw [hz]; decide) (Or.inl rfl) (hF 15 (by decide)) hG.below
            · exact rol_ext_rowE rfl rfl rfl (by rw [hz]; decide) rfl (hF 16 (by decide)) hG.below
            · exact rol_ext_valE rfl rfl rfl (by rw [hz]; decide) rfl (hF 16 (by decide)) hG.below
            · exact rol_move rfl rfl rfl (by rw [hz]; decide) (Or.inr rfl) (hF 17 (by decide)) hG.below
            · exact rol_val rfl rfl rfl (by rw [hz]; decide) (ex_move (Or.inr rfl) (eval_slot (hF 18 (by decide)))) hG.below
          · intro a wx who hG hF
            obtain ⟨v9, ob9, fv9, fo9, fp9⟩ := hF 19 (of_decide_eq_true (by kernel_rfl)) (of_decide_eq_true (by kernel_rfl))
            replace fv9 : a.tmps.getD 9 undef = v9 := eval_slot (s := 9) fv9
            have fv10 : a.tmps.getD 10 undef = .int .i64 K1 := eval_slot (s := 10) (hF 20 (of_decide_eq_true (by kernel_rfl)) (of_decide_eq_true (by kernel_rfl)))
            have hrow9 := fp9.1
            obtain ⟨a9, c9, rfl, hE9⟩ := edsO (es := A1) (by rw [HM1.out]; exact hrow9)
            rw [HM1.out] at fv9 hE9
            clear fo9 fp9 hrow9
            have hbx := hG.below
            have hnx := hG.new
            rw [hG.frame]
            simp only [List.foldl_cons, List.foldl_nil, List.setIfInBounds_toArray, List.set_cons_zero, List.set_cons_succ]
            generalize a.tmps.getD 45 undef = u45
            generalize a.tmps.getD 46 undef = u46
            generalize a.tmps.getD 47 undef = u47
            generalize a.tmps.getD 48 undef = u48
            generalize a.tmps.getD 49 undef = u49
            generalize a.tmps.getD 50 undef = u50
            generalize a.tmps.getD 51 undef = u51
            generalize a.tmps.getD 52 undef = u52
            generalize a.tmps.getD 53 undef = u53
            generalize a.tmps.getD 54 undef = u54
            generalize a.tmps.getD 55 undef = u55
            generalize a.tmps.getD 56 undef = u56
            generalize a.tmps.getD 57 undef = u57
            generalize a.tmps.getD 58 undef = u58
            generalize a.tmps.getD 59 undef = u59
            generalize a.tmps.getD 60 undef = u60
            generalize a.tmps.getD 44 undef = u44
            generalize a.tmps.getD 61 undef = u61
            generalize a.tmps.getD 62 undef = u62
            rw [fv9]
            rw [fv10]
            clear hF hG fv9 fv10
            obtain ⟨wv, hwv⟩ : ∃ v, v = wx := ⟨_, rfl⟩
            subst hwv
            have S9 := Lib.hid hE9
            replace SC := Lib.hid (SC.out.below hbx)
            replace hc2 := cell_keep hc2 hbx
            replace HB := Lib.hid (below_step HB.out hbx)
            clear hE9 hbx hnx kadd1
            go_upto_region 10 with fail
            refine rol_run (by kernel_rfl) [[], [], [], [2], [], [2, 3, 4], [1, 2, 3, 4, 5], [1, 2, 3, 4, 5, 6], [1, 2, 3, 4, 5, 6, 7], [1, 2, 3, 4, 5, 6, 7, 8], [1, 2, 3, 4, 5, 6, 7, 8, 9], [1, 2, 3, 4, 5, 6, 7, 8, 9, 10], [], [], [13], [], [13, 14, 15], [12, 13, 14, 15, 16], [12, 13, 14, 15, 16, 17], [12, 13, 14, 15, 16, 17, 18], [12, 13, 14, 15, 16, 17, 18, 19], [0, 1, 2, 3, 4, 5, 6, 7, 8, 9, 10, 11, 12, 13, 14, 15, 16, 17, 18, 19, 20], [0, 1, 2, 3, 4, 5, 6, 7, 8, 9, 10, 11, 12, 13, 14, 15, 16, 17, 18, 19, 20, 21], [0, 1, 2, 3, 4, 5, 6, 7, 8, 9, 10, 11, 12, 13, 14, 15, 16, 17, 18, 19, 20, 21, 22], [0, 1, 2, 3, 4, 5, 6, 7, 8, 9, 10, 11, 12, 13, 14, 15, 16, 17, 18, 19, 20, 21, 22], [0, 1, 2, 3, 4, 5, 6, 7, 8, 9, 10, 11, 12, 13, 14, 15, 16, 17, 18, 19, 20, 21, 22, 23], [0, 1, 2, 3, 4, 5, 6, 7, 8, 9, 10, 11, 12, 13, 14, 15, 16, 17, 18, 19, 20, 21, 22, 23, 24, 25]] (by kernel_rfl) [64, 65, 66, 67, 68, 69, 70, 71, 72, 73, 74, 75, 76, 77, 78, 79, 80, 81, 82, 83, 84, 85, 63, 86, 87, 11, 12] [[], [], [], [2], [], [3, 4], [1, 5], [6], [7], [8], [9], [10], [], [], [13], [], [14, 15], [12, 16], [17], [18], [19], [0, 11, 20], [21], [22], [22], [23], [24]] [0, 0, 0, 0, 0, 0, 0, 0, 0, 0, 0, 0, 0, 0, 0, 0, 0, 0, 0, 0, 0, 1, 1, 1, 0, 1, 0] [0, 0, 0, 0, 0, 0, 0, 0, 0, 0, 0, 0, 0, 0, 0, 0, 0, 0, 0, 0, 0, 1, 0, 0, 0, 0, 0] [1000, 1000, 1000, 1000, 1000, 1000, 1000, 1000, 1000, 1000, 1000, 1000, 1000, 1000, 1000, 1000, 1000, 1000, 1000, 1000, 1000, 1000, 1000, 1000, 1000, 1000, 1000] [.val 64 (.slice ab mb cb), .val 65 (.slice (some ⟨bv, ov, none⟩) lz vc), .val 66 (.int .i64 (N : Int)), .val 67 (.int .i64 (N1 : Int)), .val 68 (.int .i64 (k : Int)), .val 69 (.int .i64 (j : Int)), .val 70 (.pointer (some ⟨bv, ov + j, none⟩)), .val 71 (.int .u16 z2), .val 72 (.int .u16 s2), .val 73 (.int .u16 r2), .val 74 (.int .i64 r2), .val 75 (.int .i64 f2), .val 76 (.slice (some ⟨bv, ov, none⟩) lz vc), .val 77 (.int .i64 (N : Int)), .val 78 (.int .i64 (N1 : Int)), .val 79 (.int .i64 (k : Int)), .val 80 (.int .i64 (j : Int)), .val 81 (.pointer (some ⟨bv, ov + j, none⟩)), .val 82 (.int .u16 z2), .val 83 (.int .u16 t2), .val 84 (.int .i64 t2), .mem 85 (tupPE wv.heap.size m2 C1 (.int .i64 K2)), .mem 63 (tupPE wv.heap.size m2 C1 (.int .i64 K2)), .mem 86 (rowPE wv.heap.size m2 C1), .val 87 (.int .i64 K2), .mem 11 (rowPE wv.heap.size m2 C1), .val 12 (.int .i64 K2)] (by kernel_rfl) ?_ (wv.heap.size) (wv.heap.size) rfl (Below.refl _ _) rfl (fun _ => 0) ?_ ?_ ?_
            · intro j hj
              have hj3 : j < 27 := hj
              have hj2 : j = 0 ∨ j = 1 ∨ j = 2 ∨ j = 3 ∨ j = 4 ∨ j = 5 ∨ j = 6 ∨ j = 7 ∨ j = 8 ∨ j = 9 ∨ j = 10 ∨ j = 11 ∨ j = 12 ∨ j = 13 ∨ j = 14 ∨ j = 15 ∨ j = 16 ∨ j = 17 ∨ j = 18 ∨ j = 19 ∨ j = 20 ∨ j = 21 ∨ j = 22 ∨ j = 23 ∨ j = 24 ∨ j = 25 ∨ j = 26 := by omega
              clear hj hj3
              rcases hj2 with rfl | rfl | rfl | rfl | rfl | rfl | rfl | rfl | rfl | rfl | rfl | rfl | rfl | rfl | rfl | rfl | rfl | rfl | rfl | rfl | rfl | rfl | rfl | rfl | rfl | rfl | rfl
              · exact trivial
              · exact trivial
              · exact trivial
              · exact trivial
              · exact trivial
              · exact trivial
              · exact trivial
              · exact trivial
              · exact trivial
              · exact trivial
              · exact trivial
              · exact trivial
              · exact trivial
              · exact trivial
              · exact trivial
              · exact trivial
              · exact trivial
              · exact trivial
              · exact trivial
              · exact trivial
              · exact trivial
              · exact tupPE_near
              · exact tupPE_near
              · exact rowPE_near
              · exact trivial
              · exact rowPE_near
              · exact trivial
            · intro j hj0 hj
              exact absurd hj (Nat.not_lt.2 hj0)
            · intro i hi a wx who hG hF
              have hz : a.tmps.size = 150 := hG.size
              have hi3 : i < 27 := hi
              have hi2 : i = 0 ∨ i = 1 ∨ i = 2 ∨ i = 3 ∨ i = 4 ∨ i = 5 ∨ i = 6 ∨ i = 7 ∨ i = 8 ∨ i = 9 ∨ i = 10 ∨ i = 11 ∨ i = 12 ∨ i = 13 ∨ i = 14 ∨ i = 15 ∨ i = 16 ∨ i = 17 ∨ i = 18 ∨ i = 19 ∨ i = 20 ∨ i = 21 ∨ i = 22 ∨ i = 23 ∨ i = 24 ∨ i = 25 ∨ i = 26 := by omega
              clear hi hi3
              rcases hi2 with rfl | rfl | rfl | rfl | rfl | rfl | rfl | rfl | rfl | rfl | rfl | rfl | rfl | rfl | rfl | rfl | rfl | rfl | rfl | rfl | rfl | rfl | rfl | rfl | rfl | rfl | rfl
              · exact rol_val rfl rfl rfl (by rw [hz]; decide) (ex_move (Or.inl rfl) (eval_slot ((hG.slots 6 (by decide)).trans rfl))) hG.below
              · exact rol_val rfl rfl rfl (by rw [hz]; decide) (ex_move (Or.inl rfl) (eval_slot ((hG.slots 1 (by decide)).trans rfl))) hG.below
              · exact rol_val rfl rfl rfl (by rw [hz]; decide) (ex_move (Or.inl rfl) (eval_slot ((hG.slots 7 (by decide)).trans rfl))) hG.below
              · exact rol_val rfl rfl rfl (by rw [hz]; decide) (ex_bin rfl (eval_slot (hF 2 (by decide))) rfl (by go_simp) (sub_nat1 N N1 hN1a hN1b hN1 _)) hG.below
              · exact rol_val rfl rfl rfl (by rw [hz]; decide) (ex_move (Or.inl rfl) (eval_slot ((hG.slots 8 (by decide)).trans rfl))) hG.below
              · exact rol_val rfl rfl rfl (by rw [hz]; decide) (ex_bin rfl (eval_slot (hF 3 (by decide))) (eval_slot (hF 4 (by decide))) (by go_simp) (sub_nat N1 k j hkN hN1c hj _)) hG.below
              · exact rol_val rfl rfl rfl (by rw [hz]; decide) (ex_index rfl (eval_slot (hF 1 (by decide))) (eval_slot (hF 5 (by decide))) (idx_u16 hjl)) hG.below
              · exact rol_val rfl rfl rfl (by rw [hz]; decide) (ex_load rfl (eval_slot (hF 6 (by decide))) (ld_u16 (cell_keep hc2 hG.below))) hG.below
              · exact rol_val rfl rfl rfl (by rw [hz]; decide) (ex_bin rfl (eval_slot (hF 7 (by decide))) rfl (by go_simp) (shr_u16 z2 s2 hs2 _)) hG.below
              · exact rol_val rfl rfl rfl (by rw [hz]; decide) (ex_bin rfl (eval_slot (hF 8 (by decide))) rfl (by go_simp) (rem_u16 s2 r2 hs20 hs21 hr2 _)) hG.below
              · exact rol_val rfl rfl rfl (by rw [hz]; decide) (ex_conv rfl (eval_slot (hF 9 (by decide))) (conv_u16 r2 hr20 hr21 _)) hG.below
              · exact rol_val rfl rfl rfl (by rw [hz]; decide) (ex_bin rfl (eval_slot (hF 10 (by decide))) rfl (by go_simp) (sub_one r2 f2 hr20 hr21 hf2 _)) hG.below
              · exact rol_val rfl rfl rfl (by rw [hz]; decide) (ex_move (Or.inl rfl) (eval_slot ((hG.slots 1 (by decide)).trans rfl))) hG.below
              · exact rol_val rfl rfl rfl (by rw [hz]; decide) (ex_move (Or.inl rfl) (eval_slot ((hG.slots 7 (by decide)).trans rfl))) hG.below
              · exact rol_val rfl rfl rfl (by rw [hz]; decide) (ex_bin rfl (eval_slot (hF 13 (by decide))) rfl (by go_simp) (sub_nat1 N N1 hN1a hN1b hN1 _)) hG.below
              · exact rol_val rfl rfl rfl (by rw [hz]; decide) (ex_move (Or.inl rfl) (eval_slot ((hG.slots 8 (by decide)).trans rfl))) hG.below
              · exact rol_val rfl rfl rfl (by rw [hz]; decide) (ex_bin rfl (eval_slot (hF 14 (by decide))) (eval_slot (hF 15 (by decide))) (by go_simp) (sub_nat N1 k j hkN hN1c hj _)) hG.below
              · exact rol_val rfl rfl rfl (by rw [hz]; decide) (ex_index rfl (eval_slot (hF 12 (by decide))) (eval_slot (hF 16 (by decide))) (idx_u16 hjl)) hG.below
              · exact rol_val rfl rfl rfl (by rw [hz]; decide) (ex_load rfl (eval_slot (hF 17 (by decide))) (ld_u16 (cell_keep hc2 hG.below))) hG.below
              · exact rol_val rfl rfl rfl (by rw [hz]; decide) (ex_bin rfl (eval_slot (hF 18 (by decide))) rfl (by go_simp) (rem_u16 z2 t2 g20 g21 ht2 _)) hG.below
              · exact rol_val rfl rfl rfl (by rw [hz]; decide) (ex_conv rfl (eval_slot (hF 19 (by decide))) (conv_u16 t2 ht20 ht21 _)) hG.below
              · refine rol_call rfl rfl rfl (by rw [hz]; decide) (ex_call rfl (by simp [eval_slot (hF 0 (by decide)), eval_slot (hF 11 (by decide)), eval_slot (hF 20 (by decide))]) eAdd) (kadd2 _ wx (SC.out.below hG.below)) ?_ hG.below hG.below.size
                rintro e w1 ⟨v, rfl, hown, hb1⟩
                exact ⟨_, rfl, hb1, .inr ⟨_, v.ownBlock, rfl, fun b e => ⟨(hown.lt b e).1, (hown.lt b e).2⟩, v, rfl, row_base hown hG.below.size, rfl⟩⟩
              · exact rol_move rfl rfl rfl (by rw [hz]; decide) (Or.inl rfl) (hF 21 (by decide)) hG.below
              · exact rol_ext_rowE rfl rfl rfl (by rw [hz]; decide) rfl (hF 22 (by decide)) hG.below
              · exact rol_ext_valE rfl rfl rfl (by rw [hz]; decide) rfl (hF 22 (by decide)) hG.below
              · exact rol_move rfl rfl rfl (by rw [hz]; decide) (Or.inr rfl) (hF 23 (by decide)) hG.below
              · exact rol_val rfl rfl rfl (by rw [hz]; decide) (ex_move (Or.inr rfl) (eval_slot (hF 24 (by decide)))) hG.below
            · intro a wx who hG hF
              obtain ⟨v11, ob11, fv11, fo11, fp11⟩ := hF 25 (of_decide_eq_true (by kernel_rfl)) (of_decide_eq_true (by kernel_rfl))
              replace fv11 : a.tmps.getD 11 undef = v11 := eval_slot (s := 11) fv11
              have fv12 : a.tmps.getD 12 undef = .int .i64 K2 := eval_slot (s := 12) (hF 26 (of_decide_eq_true (by kernel_rfl)) (of_decide_eq_true (by kernel_rfl)))
              have hrow11 := fp11.1
              obtain ⟨a11, c11, rfl, hE11⟩ := edsO (es := C1) (by rw [HM2.out]; exact hrow11)
              rw [HM2.out] at fv11 hE11
              clear fo11 fp11 hrow11
              have hbx := hG.below
              have hnx := hG.new
              rw [hG.frame]
              simp only [List.foldl_cons, List.foldl_nil, List.setIfInBounds_toArray, List.set_cons_zero, List.set_cons_succ]
              generalize a.tmps.getD 64 undef = u64
              generalize a.tmps.getD 65 undef = u65
              generalize a.tmps.getD 66 undef = u66
              generalize a.tmps.getD 67 undef = u67
              generalize a.tmps.getD 68 undef = u68
              generalize a.tmps.getD 69 undef = u69
              generalize a.tmps.getD 70 undef = u70
              generalize a.tmps.getD 71 undef = u71
              generalize a.tmps.getD 72 undef = u72
              generalize a.tmps.getD 73 undef = u73
              generalize a.tmps.getD 74 undef = u74
              generalize a.tmps.getD 75 undef = u75
              generalize a.tmps.getD 76 undef = u76
              generalize a.tmps.getD 77 undef = u77
              generalize a.tmps.getD 78 undef = u78
              generalize a.tmps.getD 79 undef = u79
              generalize a.tmps.getD 80 undef = u80
              generalize a.tmps.getD 81 undef = u81
              generalize a.tmps.getD 82 undef = u82
              generalize a.tmps.getD 83 undef = u83
              generalize a.tmps.getD 84 undef = u84
              generalize a.tmps.getD 85 undef = u85
              generalize a.tmps.getD 63 undef = u63
              generalize a.tmps.getD 86 undef = u86
              generalize a.tmps.getD 87 undef = u87
              rw [fv11]
              rw [fv12]
              clear hF hG fv11 fv12
              have S11 := Lib.hid hE11
              replace S9 := Lib.hid (S9.out.below hbx)
              replace HB := Lib.hid (below_step HB.out hbx)
              clear hE11 hbx hnx kadd2 hc1 hc2
              rcases PA1.out with ea | ea
              · have na := PA2.out ea
                subst ea
                rcases PB1.out with eb | eb
                · have nb := PB2.out eb
                  subst eb
                  have hca : chkE A1 = 0 := by unfold chkE; rw [na.ok]; rfl
                  have kc := fun V w h => check_any V A1 w h
                  rw [hca] at kc
                  have NA := Lib.hid na; have NB := Lib.hid nb
                  clear na nb hca
                  go_wp2_with (go_at_call 14; refine (kc _ _ S9.out).mono ?_; rintro e w7 ⟨rfl, hb7⟩; replace S9 := Lib.hid (S9.out.below hb7); replace S11 := Lib.hid (S11.out.below hb7); replace HB := Lib.hid (below_step HB.out hb7); clear hb7)
                  go_roundw
                  case rel => exact ⟨k + 1, m1, m2, c9, c11, A1, C1, a9, a11, by omega, by omega, by omega, rfl, rfl, by go_num, HM1, HM2, NA, NB, S9, S11, HB⟩
                  case measure => simp [intOf]; omega
                · subst eb
                  replace B := Lib.hid (below_step B.out HB.out)
                  go_wp2_with (go_at_call 16; refine (eawake_any _).mono ?_; rintro e w9 ⟨rfl, hb9⟩; replace B := Lib.hid (below_step B.out hb9); clear hb9)
                  go_ret
                  exact ⟨rfl, B.out⟩
              · subst ea
                replace B := Lib.hid (below_step B.out HB.out)
                go_wp2_with (go_at_call 16; refine (eawake_any _).mono ?_; rintro e w9 ⟨rfl, hb9⟩; replace B := Lib.hid (below_step B.out hb9); clear hb9)
                go_ret
                exact ⟨rfl, B.out⟩
        · have ek : k = N := by omega
          have h1 := HBA.out
          have h2 := HBC.out
          rw [List.take_of_length_le (by rw [HPL.out]; omega)] at h1
          rw [List.take_of_length_le (by rw [List.length_reverse, HPL.out]; omega)] at h2
          have eAC : A = C := h1.same h2 fun F T => (cnt_rev ps F T).symm
          subst eAC
          replace HBA := Lib.hid h1
          replace SX := Lib.hid (SX.out.below HB.out); replace SV := Lib.hid (SV.out.below HB.out); replace B := Lib.hid (below_step B.out HB.out)
          have hma2 : ma ≤ 60 := by omega
          clear h1 h2 HBC HMB HB ek
          go_upto_region 18 with (go_at_call 24; refine (refsame_any _ _ A A _ SA.out SC.out).mono ?_; rintro e w6 ⟨rfl, hb6⟩; rw [decide_eq_true rfl]; replace SA := Lib.hid (SA.out.below hb6); replace SX := Lib.hid (SX.out.below hb6); replace SV := Lib.hid (SV.out.below hb6); replace B := Lib.hid (below_step B.out hb6); clear hb6 SC)
          clear hk hlt hma hmb
          go_wp2
          go_loopw [5, 13] (fun v5 i wr => ∃ (k ma ca : Nat) (A : List Ed) (aa : Option Addr), k ≤ N ∧ ma ≤ 60 + k ∧ v5 = .slice aa ma ca ∧ i = .int .i64 k ∧ Hid (A.length = ma) ∧ Hid (Back x (ps.drop k) A) ∧ Hid (Eds wr (.slice aa ma ca) A) ∧ Hid (Below w6.heap.size w6 wr)) (fun _ i _ => N - (intOf i).toNat)
          case atStart => exact ⟨0, ma, ca, A, aa, Nat.zero_le _, by omega, rfl, rfl, HMA, HBA, SA, Lib.hid (Below.refl _ _)⟩
          case round =>
            clear HBA HMA SA hma2
            obtain ⟨k, ma, ca, A, aa, hk, hma, rfl, rfl, HMA, HBA, SA, HB⟩ := hrel
            by_cases hlt : k < N
            · have hkl : k < lz := by omega
              obtain ⟨bv, ov, rfl, -, hcv⟩ := (SV.out.below HB.out).at k (by rw [HLZ.out]; omega)
              rw [HLZ.out] at hcv
              have hc1 := hcv k hkl
              have hd1 := HPD.out k hlt
              have g1 := FV.out _ (zs_mem (k := k) (by rw [HLZ.out]; exact hkl))
              obtain ⟨z1, hz1⟩ : ∃ z, zs.getD k 0 = z := ⟨_, rfl⟩
              rw [hz1] at hc1 hd1 g1
              obtain ⟨g10, g11⟩ := g1
              clear hcv hz1
              obtain ⟨s1, hs1⟩ : ∃ s, z1 / 256 = s := ⟨_, rfl⟩
              obtain ⟨r1, hr1⟩ : ∃ s, s1 % 8 = s := ⟨_, rfl⟩
              obtain ⟨f1, hf1⟩ : ∃ s, r1 - 1 = s := ⟨_, rfl⟩
              obtain ⟨t1, ht1⟩ : ∃ s, z1 % 8 = s := ⟨_, rfl⟩
              have hpr1 : prU z1 = (f1, t1) := by unfold prU; rw [hs1, hr1, hf1, ht1]
              have hs10 : 0 ≤ s1 := by omega
              have hs11 : s1 ≤ 65535 := by omega
              have hr10 : 0 ≤ r1 := by omega
              have hr11 : r1 ≤ 65535 := by omega
              have ht10 : 0 ≤ t1 := by omega
              have ht11 : t1 ≤ 65535 := by omega
              have hf10 : -1 ≤ f1 := by omega
              rw [hpr1] at hd1
              have hsA : A.length ≤ 1000000 := by rw [HMA.out]; omega
              have kdrop := fun V w h => drop_any V A f1 t1 w h hsA
              have hba := HBA.out
              rw [hd1] at hba
              obtain ⟨pa1, pa2⟩ := Back.drop HOK.out hba hf10 ht10
              rw [pa1] at kdrop
              have l1 := drop_len A f1 t1
              rw [HMA.out] at l1
              have hca : chkE (dropL A f1 t1) = 0 := by unfold chkE; rw [pa2.ok]; rfl
              obtain ⟨A1, hA1⟩ : ∃ z, dropL A f1 t1 = z := ⟨_, rfl⟩
              rw [hA1] at kdrop pa2 l1 hca
              obtain ⟨m1, hm1⟩ : ∃ z, A1.length = z := ⟨_, rfl⟩
              rw [hm1] at kdrop l1
              have kc := fun V w h => check_any V A1 w h
              rw [hca] at kc
              have HM1 := Lib.hid hm1; have NA := Lib.hid pa2
              clear hA1 hm1 pa1 pa2 hca hsA hba hd1 hpr1
              go_upto_region 21 with fail
              refine rol_run (by kernel_rfl) [[], [], [], [1, 2], [1, 2, 3], [1, 2, 3, 4], [1, 2, 3, 4, 5], [1, 2, 3, 4, 5, 6], [1, 2, 3, 4, 5, 6, 7], [], [], [9, 10], [9, 10, 11], [9, 10, 11, 12], [9, 10, 11, 12, 13], [0, 1, 2, 3, 4, 5, 6, 7, 8, 9, 10, 11, 12, 13, 14], [0, 1, 2, 3, 4, 5, 6, 7, 8, 9, 10, 11, 12, 13, 14, 15], [0, 1, 2, 3, 4, 5, 6, 7, 8, 9, 10, 11, 12, 13, 14, 15, 16], [0, 1, 2, 3, 4, 5, 6, 7, 8, 9, 10, 11, 12, 13, 14, 15, 16], [0, 1, 2, 3, 4, 5, 6, 7, 8, 9, 10, 11, 12, 13, 14, 15, 16, 17], [0, 1, 2, 3, 4, 5, 6, 7, 8, 9, 10, 11, 12, 13, 14, 15, 16, 17, 18, 19]] (by kernel_rfl) [118, 119, 120, 121, 122, 123, 124, 125, 126, 127, 128, 129, 130, 131, 132, 133, 117, 134, 135, 14, 15] [[], [], [], [1, 2], [3], [4], [5], [6], [7], [], [], [9, 10], [11], [12], [13], [0, 8, 14], [15], [16], [16], [17], [18]] [0, 0, 0, 0, 0, 0, 0, 0, 0, 0, 0, 0, 0, 0, 0, 1, 1, 1, 0, 1, 0] [0, 0, 0, 0, 0, 0, 0, 0, 0, 0, 0, 0, 0, 0, 0, 1, 0, 0, 0, 0, 0] [1000, 1000, 1000, 1000, 1000, 1000, 1000, 1000, 1000, 1000, 1000, 1000, 1000, 1000, 1000, 1000, 1000, 1000, 1000, 1000, 1000] [.val 118 (.slice aa ma ca), .val 119 (.slice (some ⟨bv, ov, none⟩) lz vc), .val 120 (.int .i64 (k : Int)), .val 121 (.pointer (some ⟨bv, ov + k, none⟩)), .val 122 (.int .u16 z1), .val 123 (.int .u16 s1), .val 124 (.int .u16 r1), .val 125 (.int .i64 r1), .val 126 (.int .i64 f1), .val 127 (.slice (some ⟨bv, ov, none⟩) lz vc), .val 128 (.int .i64 (k : Int)), .val 129 (.pointer (some ⟨bv, ov + k, none⟩)), .val 130 (.int .u16 z1), .val 131 (.int .u16 t1), .val 132 (.int .i64 t1), .mem 133 (tupPE wr.heap.size m1 A1 (.int .i64 0)), .mem 117 (tupPE wr.heap.size m1 A1 (.int .i64 0)), .mem 134 (rowPE wr.heap.size m1 A1), .val 135 (.int .i64 0), .mem 14 (rowPE wr.heap.size m1 A1), .val 15 (.int .i64 0)] (by kernel_rfl) ?_ (wr.heap.size) (wr.heap.size) rfl (Below.refl _ _) rfl (fun _ => 0) ?_ ?_ ?_
              · intro j hj
                have hj3 : j < 21 := hj
                have hj2 : j = 0 ∨ j = 1 ∨ j = 2 ∨ j = 3 ∨ j = 4 ∨ j = 5 ∨ j = 6 ∨ j = 7 ∨ j = 8 ∨ j = 9 ∨ j = 10 ∨ j = 11 ∨ j = 12 ∨ j = 13 ∨ j = 14 ∨ j = 15 ∨ j = 16 ∨ j = 17 ∨ j = 18 ∨ j = 19 ∨ j = 20 := by omega
                clear hj hj3
                rcases hj2 with rfl | rfl | rfl | rfl | rfl | rfl | rfl | rfl | rfl | rfl | rfl | rfl | rfl | rfl | rfl | rfl | rfl | rfl | rfl | rfl | rfl
                · exact trivial
                · exact trivial
                · exact trivial
                · exact trivial
                · exact trivial
                · exact trivial
                · exact trivial
                · exact trivial
                · exact trivial
                · exact trivial
                · exact trivial
                · exact trivial
                · exact trivial
                · exact trivial
                · exact trivial
                · exact tupPE_near
                · exact tupPE_near
                · exact rowPE_near
                · exact trivial
                · exact rowPE_near
                · exact trivial
              · intro j hj0 hj
                exact absurd hj (Nat.not_lt.2 hj0)
              · intro i hi a wx who hG hF
                have hz : a.tmps.size = 150 := hG.size
                have hi3 : i < 21 := hi
                have hi2 : i = 0 ∨ i = 1 ∨ i = 2 ∨ i = 3 ∨ i = 4 ∨ i = 5 ∨ i = 6 ∨ i = 7 ∨ i = 8 ∨ i = 9 ∨ i = 10 ∨ i = 11 ∨ i = 12 ∨ i = 13 ∨ i = 14 ∨ i = 15 ∨ i = 16 ∨ i = 17 ∨ i = 18 ∨ i = 19 ∨ i = 20 := by omega
                clear hi hi3
                rcases hi2 with rfl | rfl | rfl | rfl | rfl | rfl | rfl | rfl | rfl | rfl | rfl | rfl | rfl | rfl | rfl | rfl | rfl | rfl | rfl | rfl | rfl
                · exact rol_val rfl rfl rfl (by rw [hz]; decide) (ex_move (Or.inl rfl) (eval_slot ((hG.slots 5 (by decide)).trans rfl))) hG.below
                · exact rol_val rfl rfl rfl (by rw [hz]; decide) (ex_move (Or.inl rfl) (eval_slot ((hG.slots 1 (by decide)).trans rfl))) hG.below
                · exact rol_val rfl rfl rfl (by rw [hz]; decide) (ex_move (Or.inl rfl) (eval_slot ((hG.slots 13 (by decide)).trans rfl))) hG.below
                · exact rol_val rfl rfl rfl (by rw [hz]; decide) (ex_index rfl (eval_slot (hF 1 (by decide))) (eval_slot (hF 2 (by decide))) (idx_u16 hkl)) hG.below
                · exact rol_val rfl rfl rfl (by rw [hz]; decide) (ex_load rfl (eval_slot (hF 3 (by decide))) (ld_u16 (cell_keep hc1 hG.below))) hG.below
                · exact rol_val rfl rfl rfl (by rw [hz]; decide) (ex_bin rfl (eval_slot (hF 4 (by decide))) rfl (by go_simp) (shr_u16 z1 s1 hs1 _)) hG.below
                · exact rol_val rfl rfl rfl (by rw [hz]; decide) (ex_bin rfl (eval_slot (hF 5 (by decide))) rfl (by go_simp) (rem_u16 s1 r1 hs10 hs11 hr1 _)) hG.below
                · exact rol_val rfl rfl rfl (by rw [hz]; decide) (ex_conv rfl (eval_slot (hF 6 (by decide))) (conv_u16 r1 hr10 hr11 _)) hG.below
                · exact rol_val rfl rfl rfl (by rw [hz]; decide) (ex_bin rfl (eval_slot (hF 7 (by decide))) rfl (by go_simp) (sub_one r1 f1 hr10 hr11 hf1 _)) hG.below
                · exact rol_val rfl rfl rfl (by rw [hz]; decide) (ex_move (Or.inl rfl) (eval_slot ((hG.slots 1 (by decide)).trans rfl))) hG.below
                · exact rol_val rfl rfl rfl (by rw [hz]; decide) (ex_move (Or.inl rfl) (eval_slot ((hG.slots 13 (by decide)).trans rfl))) hG.below
                · exact rol_val rfl rfl rfl (by rw [hz]; decide) (ex_index rfl (eval_slot (hF 9 (by decide))) (eval_slot (hF 10 (by decide))) (idx_u16 hkl)) hG.below
                · exact rol_val rfl rfl rfl (by rw [hz]; decide) (ex_load rfl (eval_slot (hF 11 (by decide))) (ld_u16 (cell_keep hc1 hG.below))) hG.below
                · exact rol_val rfl rfl rfl (by rw [hz]; decide) (ex_bin rfl (eval_slot (hF 12 (by decide))) rfl (by go_simp) (rem_u16 z1 t1 g10 g11 ht1 _)) hG.below
                · exact rol_val rfl rfl rfl (by rw [hz]; decide) (ex_conv rfl (eval_slot (hF 13 (by decide))) (conv_u16 t1 ht10 ht11 _)) hG.below
                · refine rol_call rfl rfl rfl (by rw [hz]; decide) (ex_call rfl (by simp [eval_slot (hF 0 (by decide)), eval_slot (hF 8 (by decide)), eval_slot (hF 14 (by decide))]) eDrop) (kdrop _ wx (SA.out.below hG.below)) ?_ hG.below hG.below.size
                  rintro e w1 ⟨v, rfl, hown, hb1⟩
                  exact ⟨_, rfl, hb1, .inr ⟨_, v.ownBlock, rfl, fun b e => ⟨(hown.lt b e).1, (hown.lt b e).2⟩, v, rfl, row_base hown hG.below.size, rfl⟩⟩
                · exact rol_move rfl rfl rfl (by rw [hz]; decide) (Or.inl rfl) (hF 15 (by decide)) hG.below
                · exact rol_ext_rowE rfl rfl rfl (by rw [hz]; decide) rfl (hF 16 (by decide)) hG.below
                · exact rol_ext_valE rfl rfl rfl (by rw [hz]; decide) rfl (hF 16 (by decide)) hG.below
                · exact rol_move rfl rfl rfl (by rw [hz]; decide) (Or.inr rfl) (hF 17 (by decide)) hG.below
                · exact rol_val rfl rfl rfl (by rw [hz]; decide) (ex_move (Or.inr rfl) (eval_slot (hF 18 (by decide)))) hG.below
              · intro a wx who hG hF
                obtain ⟨v14, ob14, fv14, fo14, fp14⟩ := hF 19 (of_decide_eq_true (by kernel_rfl)) (of_decide_eq_true (by kernel_rfl))
                replace fv14 : a.tmps.getD 14 undef = v14 := eval_slot (s := 14) fv14
                have fv15 : a.tmps.getD 15 undef = .int .i64 0 := eval_slot (s := 15) (hF 20 (of_decide_eq_true (by kernel_rfl)) (of_decide_eq_true (by kernel_rfl)))
                have hrow14 := fp14.1
                obtain ⟨a14, c14, rfl, hE14⟩ := edsO (es := A1) (by rw [HM1.out]; exact hrow14)
                rw [HM1.out] at fv14 hE14
                clear fo14 fp14 hrow14
                have hbx := hG.below
                have hnx := hG.new
                rw [hG.frame]
                simp only [List.foldl_cons, List.foldl_nil, List.setIfInBounds_toArray, List.set_cons_zero, List.set_cons_succ]
                generalize a.tmps.getD 118 undef = u118
                generalize a.tmps.getD 119 undef = u119
                generalize a.tmps.getD 120 undef = u120
                generalize a.tmps.getD 121 undef = u121
                generalize a.tmps.getD 122 undef = u122
                generalize a.tmps.getD 123 undef = u123
                generalize a.tmps.getD 124 undef = u124
                generalize a.tmps.getD 125 undef = u125
                generalize a.tmps.getD 126 undef = u126
                generalize a.tmps.getD 127 undef = u127
                generalize a.tmps.getD 128 undef = u128
                generalize a.tmps.getD 129 undef = u129
                generalize a.tmps.getD 130 undef = u130
                generalize a.tmps.getD 131 undef = u131
                generalize a.tmps.getD 132 undef = u132
                generalize a.tmps.getD 133 undef = u133
                generalize a.tmps.getD 117 undef = u117
                generalize a.tmps.getD 134 undef = u134
                generalize a.tmps.getD 135 undef = u135
                rw [fv14]
                rw [fv15]
                clear hF hG fv14 fv15
                have S14 := Lib.hid hE14
                replace HB := Lib.hid (below_step HB.out hbx)
                clear hE14 hbx hnx kdrop hc1
                go_wp2_with (go_at_call 14; refine (kc _ _ S14.out).mono ?_; rintro e w7 ⟨rfl, hb7⟩; replace S14 := Lib.hid (S14.out.below hb7); replace HB := Lib.hid (below_step HB.out hb7); clear hb7)
                go_roundw
                case rel => exact ⟨k + 1, m1, c14, A1, a14, by omega, by omega, rfl, by go_num, HM1, NA, S14, HB⟩
                case measure => simp [intOf]; omega
            · have h1 := HBA.out
              rw [List.drop_eq_nil_of_le (by rw [HPL.out]; omega)] at h1
              have eA : A = x := h1.same (Back.refl HOK.out) fun F T => rfl
              subst eA
              replace SX := Lib.hid (SX.out.below HB.out); replace B := Lib.hid (below_step B.out HB.out)
              clear h1
              go_wp2_with (first
                | (go_at_call 24; refine (refsame_any _ _ A A _ SA.out SX.out).mono ?_; rintro e w8 ⟨rfl, hb8⟩; rw [decide_eq_true rfl]; replace B := Lib.hid (below_step B.out hb8); clear hb8)
                | (go_at_call 16; refine (eawake_any _).mono ?_; rintro e w9 ⟨rfl, hb9⟩; replace B := Lib.hid (below_step B.out hb9); clear hb9))
              go_ret
              exact ⟨rfl, B.out⟩
    · obtain ⟨bx, ox, rfl, -, -, -, hx3⟩ := SX.out.at 0 (by rw [HN.out]; omega)
      obtain ⟨y3, hy3⟩ : ∃ z, (x.getD 0 zE).2.2 = z := ⟨_, rfl⟩
      rw [hy3, Nat.zero_mul, Nat.add_zero] at hx3
      have hnb : (0 : Int) < (n : Int) := by omega
      have hnp : 0 < n := by omega
      have CHKX := k1
      clear hy3
      by_cases hT : y3 = 1099511627776
      · have dT : (y3 == 1099511627776) = true := by simp [hT]
        clear hT
        go_wp2_with (first
          | (go_at_call 14; refine (k1 _ _ SX.out).mono ?_; rintro e w2 ⟨rfl, hb2⟩; replace SX := Lib.hid (SX.out.below hb2); replace SV := Lib.hid (SV.out.below hb2); replace B := Lib.hid (below_step B.out hb2); replace hx3 := cell_keep hx3 hb2; clear hb2 k1)
          | (go_at_call 16; refine (eawake_any _).mono ?_; rintro e w9 ⟨rfl, hb9⟩; replace B := Lib.hid (below_step B.out hb9); clear hb9))
        go_ret
        exact ⟨rfl, B.out⟩
      · have dT : (y3 == 1099511627776) = false := by simp [hT]
        clear hT
        go_upto_region 4 with (go_at_call 14; refine (k1 _ _ SX.out).mono ?_; rintro e w2 ⟨rfl, hb2⟩; replace SX := Lib.hid (SX.out.below hb2); replace SV := Lib.hid (SV.out.below hb2); replace B := Lib.hid (below_step B.out hb2); replace hx3 := cell_keep hx3 hb2; clear hb2 k1)
        go_upto_region 5 with fail
        go_upto_region 6 with fail
        obtain ⟨N, hN, hN20, hNl⟩ := min_nat lz
        rw [hN]
        obtain ⟨ps, hps⟩ : ∃ z, (zs.take N).map prU = z := ⟨_, rfl⟩
        have hpl : ps.length = N := by rw [← hps, List.length_map, List.length_take, HLZ.out]; omega
        have hpa : ∀ k, k < N → ps.take (k + 1) = ps.take k ++ [prU (zs.getD k 0)] := fun k h => by rw [← hps]; exact ps_take h (by rw [HLZ.out]; exact hNl)
        have hpb : ∀ k, k < N → ps.reverse.take (k + 1) = ps.reverse.take k ++ [prU (zs.getD (N - 1 - k) 0)] := fun k h => by rw [← hps]; exact ps_rev h (by rw [HLZ.out]; exact hNl)
        have hpd : ∀ k, k < N → ps.drop k = prU (zs.getD k 0) :: ps.drop (k + 1) := fun k h => by rw [← hps]; exact ps_drop h (by rw [HLZ.out]; exact hNl)
        have HPL := Lib.hid hpl; have HPA := Lib.hid hpa; have HPB := Lib.hid hpb; have HPD := Lib.hid hpd
        clear hN hps hpl hpa hpb hpd
        clear hx3 dT hnb hnp hn0 CHKX
        go_wp2
        go_loopw [5, 6, 8] (fun v5 v6 i wr => ∃ (k ma mb ca cb : Nat) (A C : List Ed) (aa ab : Option Addr), k ≤ N ∧ ma ≤ 40 + k ∧ mb ≤ 40 + k ∧ v5 = .slice aa ma ca ∧ v6 = .slice ab mb cb ∧ i = .int .i64 k ∧ Hid (A.length = ma) ∧ Hid (C.length = mb) ∧ Hid (Back x (ps.take k) A) ∧ Hid (Back x (ps.reverse.take k) C) ∧ Hid (Eds wr (.slice aa ma ca) A) ∧ Hid (Eds wr (.slice ab mb cb) C) ∧ Hid (Below w2.heap.size w2 wr)) (fun _ _ i _ => N - (intOf i).toNat)
        case atStart => exact ⟨0, _, _, _, _, x, x, _, _, Nat.zero_le _, by omega, by omega, rfl, rfl, rfl, HN, HN, Lib.hid (Back.refl HOK.out), Lib.hid (Back.refl HOK.out), SX, SX, Lib.hid (Below.refl _ _)⟩
        case round =>
          obtain ⟨k, ma, mb, ca, cb, A, C, aa, ab, hk, hma, hmb, rfl, rfl, rfl, HMA, HMB, HBA, HBC, SA, SC, HB⟩ := hrel
          by_cases hlt : k < N
          · have hkl : k < lz := by omega
            obtain ⟨N1, hN1⟩ : ∃ z, N - 1 = z := ⟨_, rfl⟩
            obtain ⟨j, hj⟩ : ∃ z, N1 - k = z := ⟨_, rfl⟩
            have hN1a : 1 ≤ N := by omega
            have hN1b : N ≤ 1000 := by omega
            have hN1c : N1 ≤ 1000 := by omega
            have hkN : k ≤ N1 := by omega
            have hjl : j < lz := by omega
            obtain ⟨bv, ov, rfl, -, hcv⟩ := (SV.out.below HB.out).at k (by rw [HLZ.out]; omega)
            rw [HLZ.out] at hcv
            have hc1 := hcv k hkl
            have hc2 := hcv j hjl
            have ha1 := HPA.out k hlt
            have hb1 := HPB.out k hlt
            rw [hN1, hj] at hb1
            have g1 := FV.out _ (zs_mem (k := k) (by rw [HLZ.out]; exact hkl))
            have g2 := FV.out _ (zs_mem (k := j) (by rw [HLZ.out]; exact hjl))
            obtain ⟨z1, hz1⟩ : ∃ z, zs.getD k 0 = z := ⟨_, rfl⟩
            obtain ⟨z2, hz2⟩ : ∃ z, zs.getD j 0 = z := ⟨_, rfl⟩
            rw [hz1] at hc1 ha1 g1
            rw [hz2] at hc2 hb1 g2
            obtain ⟨g10, g11⟩ := g1
            obtain ⟨g20, g21⟩ := g2
            clear hcv hz1 hz2
            obtain ⟨s1, hs1⟩ : ∃ s, z1 / 256 = s := ⟨_, rfl⟩
            obtain ⟨r1, hr1⟩ : ∃ s, s1 % 8 = s := ⟨_, rfl⟩
            obtain ⟨f1, hf1⟩ : ∃ s, r1 - 1 = s := ⟨_, rfl⟩
            obtain ⟨t1, ht1⟩ : ∃ s, z1 % 8 = s := ⟨_, rfl⟩
            have hpr1 : prU z1 = (f1, t1) := by unfold prU; rw [hs1, hr1, hf1, ht1]
            have hs10 : 0 ≤ s1 := by omega
            have hs11 : s1 ≤ 65535 := by omega
            have hr10 : 0 ≤ r1 := by omega
            have hr11 : r1 ≤ 65535 := by omega
            have ht10 : 0 ≤ t1 := by omega
            have ht11 : t1 ≤ 65535 := by omega
            have hf10 : -1 ≤ f1 := by omega
            obtain ⟨s2, hs2⟩ : ∃ s, z2 / 256 = s := ⟨_, rfl⟩
            obtain ⟨r2, hr2⟩ : ∃ s, s2 % 8 = s := ⟨_, rfl⟩
            obtain ⟨f2, hf2⟩ : ∃ s, r2 - 1 = s := ⟨_, rfl⟩
            obtain ⟨t2, ht2⟩ : ∃ s, z2 % 8 = s := ⟨_, rfl⟩
            have hpr2 : prU z2 = (f2, t2) := by unfold prU; rw [hs2, hr2, hf2, ht2]
            have hs20 : 0 ≤ s2 := by omega
            have hs21 : s2 ≤ 65535 := by omega
            have hr20 : 0 ≤ r2 := by omega
            have hr21 : r2 ≤ 65535 := by omega
            have ht20 : 0 ≤ t2 := by omega
            have ht21 : t2 ≤ 65535 := by omega
            have hf20 : -1 ≤ f2 := by omega
            rw [hpr1] at ha1
            rw [hpr2] at hb1
            have hsA : A.length ≤ 1000000 := by rw [HMA.out]; omega
            have hsC : C.length ≤ 1000000 := by rw [HMB.out]; omega
            have kadd1 := fun V w h => add_any V A f1 t1 w h hsA
            have kadd2 := fun V w h => add_any V C f2 t2 w h hsC
            obtain ⟨pa1, pa2⟩ := HBA.out.add hf10 ht10
            obtain ⟨pb1, pb2⟩ := HBC.out.add hf20 ht20
            rw [← ha1] at pa2
            rw [← hb1] at pb2
            have l1 := add_len A f1 t1
            have l2 := add_len C f2 t2
            rw [HMA.out] at l1
            rw [HMB.out] at l2
            obtain ⟨A1, hA1⟩ : ∃ z, addL A f1 t1 = z := ⟨_, rfl⟩
            obtain ⟨K1, hK1⟩ : ∃ z, addK A f1 t1 = z := ⟨_, rfl⟩
            obtain ⟨C1, hC1⟩ : ∃ z, addL C f2 t2 = z := ⟨_, rfl⟩
            obtain ⟨K2, hK2⟩ : ∃ z, addK C f2 t2 = z := ⟨_, rfl⟩
            rw [hA1] at kadd1 pa2 l1
            rw [hK1] at kadd1 pa1 pa2
            rw [hC1] at kadd2 pb2 l2
            rw [hK2] at kadd2 pb1 pb2
            obtain ⟨m1, hm1⟩ : ∃ z, A1.length = z := ⟨_, rfl⟩
            obtain ⟨m2, hm2⟩ : ∃ z, C1.length = z := ⟨_, rfl⟩
            rw [hm1] at kadd1 l1
            rw [hm2] at kadd2 l2
            have HM1 := Lib.hid hm1; have HM2 := Lib.hid hm2; have PA1 := Lib.hid pa1; have PA2 := Lib.hid pa2; have PB1 := Lib.hid pb1; have PB2 := Lib.hid pb2
            clear hA1 hK1 hC1 hK2 hm1 hm2 pa1 pa2 pb1 pb2 hsA hsC ha1 hb1 hpr1 hpr2
            go_upto_region 9 with fail
            refine rol_run (by kernel_rfl) [[], [], [], [1, 2], [1, 2, 3], [1, 2, 3, 4], [1, 2, 3, 4, 5], [1, 2, 3, 4, 5, 6], [1, 2, 3, 4, 5, 6, 7], [], [], [9, 10], [9, 10, 11], [9, 10, 11, 12], [9, 10, 11, 12, 13], [0, 1, 2, 3, 4, 5, 6, 7, 8, 9, 10, 11, 12, 13, 14], [0, 1, 2, 3, 4, 5, 6, 7, 8, 9, 10, 11, 12, 13, 14, 15], [0, 1, 2, 3, 4, 5, 6, 7, 8, 9, 10, 11, 12, 13, 14, 15, 16], [0, 1, 2, 3, 4, 5, 6, 7, 8, 9, 10, 11, 12, 13, 14, 15, 16], [0, 1, 2, 3, 4, 5, 6, 7, 8, 9, 10, 11, 12, 13, 14, 15, 16, 17], [0, 1, 2, 3, 4, 5, 6, 7, 8, 9, 10, 11, 12, 13, 14, 15, 16, 17, 18, 19]] (by kernel_rfl) [45, 46, 47, 48, 49, 50, 51, 52, 53, 54, 55, 56, 57, 58, 59, 60, 44, 61, 62, 9, 10] [[], [], [], [1, 2], [3], [4], [5], [6], [7], [], [], [9, 10], [11], [12], [13], [0, 8, 14], [15], [16], [16], [17], [18]] [0, 0, 0, 0, 0, 0, 0, 0, 0, 0, 0, 0, 0, 0, 0, 1, 1, 1, 0, 1, 0] [0, 0, 0, 0, 0, 0, 0, 0, 0, 0, 0, 0, 0, 0, 0, 1, 0, 0, 0, 0, 0] [1000, 1000, 1000, 1000, 1000, 1000, 1000, 1000, 1000, 1000, 1000, 1000, 1000, 1000, 1000, 1000, 1000, 1000, 1000, 1000, 1000] [.val 45 (.slice aa ma ca), .val 46 (.slice (some ⟨bv, ov, none⟩) lz vc), .val 47 (.int .i64 (k : Int)), .val 48 (.pointer (some ⟨bv, ov + k, none⟩)), .val 49 (.int .u16 z1), .val 50 (.int .u16 s1), .val 51 (.int .u16 r1), .val 52 (.int .i64 r1), .val 53 (.int .i64 f1), .val 54 (.slice (some ⟨bv, ov, none⟩) lz vc), .val 55 (.int .i64 (k : Int)), .val 56 (.pointer (some ⟨bv, ov + k, none⟩)), .val 57 (.int .u16 z1), .val 58 (.int .u16 t1), .val 59 (.int .i64 t1), .mem 60 (tupPE wr.heap.size m1 A1 (.int .i64 K1)), .mem 44 (tupPE wr.heap.size m1 A1 (.int .i64 K1)), .mem 61 (rowPE wr.heap.size m1 A1), .val 62 (.int .i64 K1), .mem 9 (rowPE wr.heap.size m1 A1), .val 10 (.int .i64 K1)] (by kernel_rfl) ?_ (wr.heap.size) (wr.heap.size) rfl (Below.refl _ _) rfl (fun _ => 0) ?_ ?_ ?_
            · intro j hj
              have hj3 : j < 21 := hj
              have hj2 : j = 0 ∨ j = 1 ∨ j = 2 ∨ j = 3 ∨ j = 4 ∨ j = 5 ∨ j = 6 ∨ j = 7 ∨ j = 8 ∨ j = 9 ∨ j = 10 ∨ j = 11 ∨ j = 12 ∨ j = 13 ∨ j = 14 ∨ j = 15 ∨ j = 16 ∨ j = 17 ∨ j = 18 ∨ j = 19 ∨ j = 20 := by omega
              clear hj hj3
              rcases hj2 with rfl | rfl | rfl | rfl | rfl | rfl | rfl | rfl | rfl | rfl | rfl | rfl | rfl | rfl | rfl | rfl | rfl | rfl | rfl | rfl | rfl
              · exact trivial
              · exact trivial
              · exact trivial
              · exact trivial
              · exact trivial
              · exact trivial
              · exact trivial
              · exact trivial
              · exact trivial
              · exact trivial
              · exact trivial
              · exact trivial
              · exact trivial
              · exact trivial
              · exact trivial
              · exact tupPE_near
              · exact tupPE_near
              · exact rowPE_near
              · exact trivial
              · exact rowPE_near
              · exact trivial
            · intro j hj0 hj
              exact absurd hj (Nat.not_lt.2 hj0)
            · intro i hi a wx who hG hF
              have hz : a.tmps.size = 150 := hG.size
              have hi3 : i < 21 := hi
              have hi2 : i = 0 ∨ i = 1 ∨ i = 2 ∨ i = 3 ∨ i = 4 ∨ i = 5 ∨ i = 6 ∨ i = 7 ∨ i = 8 ∨ i = 9 ∨ i = 10 ∨ i = 11 ∨ i = 12 ∨ i = 13 ∨ i = 14 ∨ i = 15 ∨ i = 16 ∨ i = 17 ∨ i = 18 ∨ i = 19 ∨ i = 20 := by omega
              clear hi hi3
              rcases hi2 with rfl | rfl | rfl | rfl | rfl | rfl | rfl | rfl | rfl | rfl | rfl | rfl | rfl | rfl | rfl | rfl | rfl | rfl | rfl | rfl | rfl
              · exact rol_val rfl rfl rfl (by rw [hz]; decide) (ex_move (Or.inl rfl) (eval_slot ((hG.slots 5 (by decide)).trans rfl))) hG.below
              · exact rol_val rfl rfl rfl (by rw [hz]; decide) (ex_move (Or.inl rfl) (eval_slot ((hG.slots 1 (by decide)).trans rfl))) hG.below
              · exact rol_val rfl rfl rfl (by rw [hz]; decide) (ex_move (Or.inl rfl) (eval_slot ((hG.slots 8 (by decide)).trans rfl))) hG.below
              · exact rol_val rfl rfl rfl (by rw [hz]; decide) (ex_index rfl (eval_slot (hF 1 (by decide))) (eval_slot (hF 2 (by decide))) (idx_u16 hkl)) hG.below
              · exact rol_val rfl rfl rfl (by rw [hz]; decide) (ex_load rfl (eval_slot (hF 3 (by decide))) (ld_u16 (cell_keep hc1 hG.below))) hG.below
              · exact rol_val rfl rfl rfl (by rw [hz]; decide) (ex_bin rfl (eval_slot (hF 4 (by decide))) rfl (by go_simp) (shr_u16 z1 s1 hs1 _)) hG.below
              · exact rol_val rfl rfl rfl (by rw [hz]; decide) (ex_bin rfl (eval_slot (hF 5 (by decide))) rfl (by go_simp) (rem_u16 s1 r1 hs10 hs11 hr1 _)) hG.below
              · exact rol_val rfl rfl rfl (by rw [hz]; decide) (ex_conv rfl (eval_slot (hF 6 (by decide))) (conv_u16 r1 hr10 hr11 _)) hG.below
              · exact rol_val rfl rfl rfl (by rw [hz]; decide) (ex_bin rfl (eval_slot (hF 7 (by decide))) rfl (by go_simp) (sub_one r1 f1 hr10 hr11 hf1 _)) hG.below
              · exact rol_val rfl rfl rfl (by rw [hz]; decide) (ex_move (Or.inl rfl) (eval_slot ((hG.slots 1 (by decide)).trans rfl))) hG.below
              · exact rol_val rfl rfl rfl (by rw [hz]; decide) (ex_move (Or.inl rfl) (eval_slot ((hG.slots 8 (by decide)).trans rfl))) hG.below
              · exact rol_val rfl rfl rfl (by rw [hz]; decide) (ex_index rfl (eval_slot (hF 9 (by decide))) (eval_slot (hF 10 (by decide))) (idx_u16 hkl)) hG.below
              · exact rol_val rfl rfl rfl (by rw [hz]; decide) (ex_load rfl (eval_slot (hF 11 (by decide))) (ld_u16 (cell_keep hc1 hG.below))) hG.below
              · exact rol_val rfl rfl rfl (by rw [hz]; decide) (ex_bin rfl (eval_slot (hF 12 (by decide))) rfl (by go_simp) (rem_u16 z1 t1 g10 g11 ht1 _)) hG.below
              · exact rol_val rfl rfl rfl (by rw [hz]; decide) (ex_conv rfl (eval_slot (hF 13 (by decide))) (conv_u16 t1 ht10 ht11 _)) hG.below
              · refine rol_call rfl rfl rfl (by rw [hz]; decide) (ex_call rfl (by simp [eval_slot (hF 0 (by decide)), eval_slot (hF 8 (by decide)), eval_slot (hF 14 (by decide))]) eAdd) (kadd1 _ wx (SA.out.below hG.below)) ?_ hG.below hG.below.size
                rintro e w1 ⟨v, rfl, hown, hb1⟩
                exact ⟨_, rfl, hb1, .inr ⟨_, v.ownBlock, rfl, fun b e => ⟨(hown.lt b e).1, (hown.lt b e).2⟩, v, rfl, row_base hown hG.below.size, rfl⟩⟩
              · exact rol_move rfl rfl rfl (by rw [hz]; decide) (Or.inl rfl) (hF 15 (by decide)) hG.below
              · exact rol_ext_rowE rfl rfl rfl (by rw [hz]; decide) rfl (hF 16 (by decide)) hG.below
              · exact rol_ext_valE rfl rfl rfl (by rw [hz]; decide) rfl (hF 16 (by decide)) hG.below
              · exact rol_move rfl rfl rfl (by rw [hz]; decide) (Or.inr rfl) (hF 17 (by decide)) hG.below
              · exact rol_val rfl rfl rfl (by rw [hz]; decide) (ex_move (Or.inr rfl) (eval_slot (hF 18 (by decide)))) hG.below
            · intro a wx who hG hF
              obtain ⟨v9, ob9, fv9, fo9, fp9⟩ := hF 19 (of_decide_eq_true (by kernel_rfl)) (of_decide_eq_true (by kernel_rfl))
              replace fv9 : a.tmps.getD 9 undef = v9 := eval_slot (s := 9) fv9
              have fv10 : a.tmps.getD 10 undef = .int .i64 K1 := eval_slot (s := 10) (hF 20 (of_decide_eq_true (by kernel_rfl)) (of_decide_eq_true (by kernel_rfl)))
              have hrow9 := fp9.1
              obtain ⟨a9, c9, rfl, hE9⟩ := edsO (es := A1) (by rw [HM1.out]; exact hrow9)
              rw [HM1.out] at fv9 hE9
              clear fo9 fp9 hrow9
              have hbx := hG.below
              have hnx := hG.new
              rw [hG.frame]
              simp only [List.foldl_cons, List.foldl_nil, List.setIfInBounds_toArray, List.set_cons_zero, List.set_cons_succ]
              generalize a.tmps.getD 45 undef = u45
              generalize a.tmps.getD 46 undef = u46
              generalize a.tmps.getD 47 undef = u47
              generalize a.tmps.getD 48 undef = u48
              generalize a.tmps.getD 49 undef = u49
              generalize a.tmps.getD 50 undef = u50
              generalize a.tmps.getD 51 undef = u51
              generalize a.tmps.getD 52 undef = u52
              generalize a.tmps.getD 53 undef = u53
              generalize a.tmps.getD 54 undef = u54
              generalize a.tmps.getD 55 undef = u55
              generalize a.tmps.getD 56 undef = u56
              generalize a.tmps.getD 57 undef = u57
              generalize a.tmps.getD 58 undef = u58
              generalize a.tmps.getD 59 undef = u59
              generalize a.tmps.getD 60 undef = u60
              generalize a.tmps.getD 44 undef = u44
              generalize a.tmps.getD 61 undef = u61
              generalize a.tmps.getD 62 undef = u62
              rw [fv9]
              rw [fv10]
              clear hF hG fv9 fv10
              obtain ⟨wv, hwv⟩ : ∃ v, v = wx := ⟨_, rfl⟩
              subst hwv
              have S9 := Lib.hid hE9
              replace SC := Lib.hid (SC.out.below hbx)
              replace hc2 := cell_keep hc2 hbx
              replace HB := Lib.hid (below_step HB.out hbx)
              clear hE9 hbx hnx kadd1
              go_upto_region 10 with fail
              refine rol_run (by kernel_rfl) [[], [], [], [2], [], [2, 3, 4], [1, 2, 3, 4, 5], [1, 2, 3, 4, 5, 6], [1, 2, 3, 4, 5, 6, 7], [1, 2, 3, 4, 5, 6, 7, 8], [1, 2, 3, 4, 5, 6, 7, 8, 9], [1, 2, 3, 4, 5, 6, 7, 8, 9, 10], [], [], [13], [], [13, 14, 15], [12, 13, 14, 15, 16], [12, 13, 14, 15, 16, 17], [12, 13, 14, 15, 16, 17, 18], [12, 13, 14, 15, 16, 17, 18, 19], [0, 1, 2, 3, 4, 5, 6, 7, 8, 9, 10, 11, 12, 13, 14, 15, 16, 17, 18, 19, 20], [0, 1, 2, 3, 4, 5, 6, 7, 8, 9, 10, 11, 12, 13, 14, 15, 16, 17, 18, 19, 20, 21], [0, 1, 2, 3, 4, 5, 6, 7, 8, 9, 10, 11, 12, 13, 14, 15, 16, 17, 18, 19, 20, 21, 22], [0, 1, 2, 3, 4, 5, 6, 7, 8, 9, 10, 11, 12, 13, 14, 15, 16, 17, 18, 19, 20, 21, 22], [0, 1, 2, 3, 4, 5, 6, 7, 8, 9, 10, 11, 12, 13, 14, 15, 16, 17, 18, 19, 20, 21, 22, 23], [0, 1, 2, 3, 4, 5, 6, 7, 8, 9, 10, 11, 12, 13, 14, 15, 16, 17, 18, 19, 20, 21, 22, 23, 24, 25]] (by kernel_rfl) [64, 65, 66, 67, 68, 69, 70, 71, 72, 73, 74, 75, 76, 77, 78, 79, 80, 81, 82, 83, 84, 85, 63, 86, 87, 11, 12] [[], [], [], [2], [], [3, 4], [1, 5], [6], [7], [8], [9], [10], [], [], [13], [], [14, 15], [12, 16], [17], [18], [19], [0, 11, 20], [21], [22], [22], [23], [24]] [0, 0, 0, 0, 0, 0, 0, 0, 0, 0, 0, 0, 0, 0, 0, 0, 0, 0, 0, 0, 0, 1, 1, 1, 0, 1, 0] [0, 0, 0, 0, 0, 0, 0, 0, 0, 0, 0, 0, 0, 0, 0, 0, 0, 0, 0, 0, 0, 1, 0, 0, 0, 0, 0] [1000, 1000, 1000, 1000, 1000, 1000, 1000, 1000, 1000, 1000, 1000, 1000, 1000, 1000, 1000, 1000, 1000, 1000, 1000, 1000, 1000, 1000, 1000, 1000, 1000, 1000, 1000] [.val 64 (.slice ab mb cb), .val 65 (.slice (some ⟨bv, ov, none⟩) lz vc), .val 66 (.int .i64 (N : Int)), .val 67 (.int .i64 (N1 : Int)), .val 68 (.int .i64 (k : Int)), .val 69 (.int .i64 (j : Int)), .val 70 (.pointer (some ⟨bv, ov + j, none⟩)), .val 71 (.int .u16 z2), .val 72 (.int .u16 s2), .val 73 (.int .u16 r2), .val 74 (.int .i64 r2), .val 75 (.int .i64 f2), .val 76 (.slice (some ⟨bv, ov, none⟩) lz vc), .val 77 (.int .i64 (N : Int)), .val 78 (.int .i64 (N1 : Int)), .val 79 (.int .i64 (k : Int)), .val 80 (.int .i64 (j : Int)), .val 81 (.pointer (some ⟨bv, ov + j, none⟩)), .val 82 (.int .u16 z2), .val 83 (.int .u16 t2), .val 84 (.int .i64 t2), .mem 85 (tupPE wv.heap.size m2 C1 (.int .i64 K2)), .mem 63 (tupPE wv.heap.size m2 C1 (.int .i64 K2)), .mem 86 (rowPE wv.heap.size m2 C1), .val 87 (.int .i64 K2), .mem 11 (rowPE wv.heap.size m2 C1), .val 12 (.int .i64 K2)] (by kernel_rfl) ?_ (wv.heap.size) (wv.heap.size) rfl (Below.refl _ _) rfl (fun _ => 0) ?_ ?_ ?_
              · intro j hj
                have hj3 : j < 27 := hj
                have hj2 : j = 0 ∨ j = 1 ∨ j = 2 ∨ j = 3 ∨ j = 4 ∨ j = 5 ∨ j = 6 ∨ j = 7 ∨ j = 8 ∨ j = 9 ∨ j = 10 ∨ j = 11 ∨ j = 12 ∨ j = 13 ∨ j = 14 ∨ j = 15 ∨ j = 16 ∨ j = 17 ∨ j = 18 ∨ j = 19 ∨ j = 20 ∨ j = 21 ∨ j = 22 ∨ j = 23 ∨ j = 24 ∨ j = 25 ∨ j = 26 := by omega
                clear hj hj3
                rcases hj2 with rfl | rfl | rfl | rfl | rfl | rfl | rfl | rfl | rfl | rfl | rfl | rfl | rfl | rfl | rfl | rfl | rfl | rfl | rfl | rfl | rfl | rfl | rfl | rfl | rfl | rfl | rfl
                · exact trivial
                · exact trivial
                · exact trivial
                · exact trivial
                · exact trivial
                · exact trivial
                · exact trivial
                · exact trivial
                · exact trivial
                · exact trivial
                · exact trivial
                · exact trivial
                · exact trivial
                · exact trivial
                · exact trivial
                · exact trivial
                · exact trivial
                · exact trivial
                · exact trivial
                · exact trivial
                · exact trivial
                · exact tupPE_near
                · exact tupPE_near
                · exact rowPE_near
                · exact trivial
                · exact rowPE_near
                · exact trivial
              · intro j hj0 hj
                exact absurd hj (Nat.not_lt.2 hj0)
              · intro i hi a wx who hG hF
                have hz : a.tmps.size = 150 := hG.size
                have hi3 : i < 27 := hi
                have hi2 : i = 0 ∨ i = 1 ∨ i = 2 ∨ i = 3 ∨ i = 4 ∨ i = 5 ∨ i = 6 ∨ i = 7 ∨ i = 8 ∨ i = 9 ∨ i = 10 ∨ i = 11 ∨ i = 12 ∨ i = 13 ∨ i = 14 ∨ i = 15 ∨ i = 16 ∨ i = 17 ∨ i = 18 ∨ i = 19 ∨ i = 20 ∨ i = 21 ∨ i = 22 ∨ i = 23 ∨ i = 24 ∨ i = 25 ∨ i = 26 := by omega
                clear hi hi3
                rcases hi2 with rfl | rfl | rfl | rfl | rfl | rfl | rfl | rfl | rfl | rfl | rfl | rfl | rfl | rfl | rfl | rfl | rfl | rfl | rfl | rfl | rfl | rfl | rfl | rfl | rfl | rfl | rfl
                · exact rol_val rfl rfl rfl (by rw [hz]; decide) (ex_move (Or.inl rfl) (eval_slot ((hG.slots 6 (by decide)).trans rfl))) hG.below
                · exact rol_val rfl rfl rfl (by rw [hz]; decide) (ex_move (Or.inl rfl) (eval_slot ((hG.slots 1 (by decide)).trans rfl))) hG.below
                · exact rol_val rfl rfl rfl (by rw [hz]; decide) (ex_move (Or.inl rfl) (eval_slot ((hG.slots 7 (by decide)).trans rfl))) hG.below
                · exact rol_val rfl rfl rfl (by rw [hz]; decide) (ex_bin rfl (eval_slot (hF 2 (by decide))) rfl (by go_simp) (sub_nat1 N N1 hN1a hN1b hN1 _)) hG.below
                · exact rol_val rfl rfl rfl (by rw [hz]; decide) (ex_move (Or.inl rfl) (eval_slot ((hG.slots 8 (by decide)).trans rfl))) hG.below
                · exact rol_val rfl rfl rfl (by rw [hz]; decide) (ex_bin rfl (eval_slot (hF 3 (by decide))) (eval_slot (hF 4 (by decide))) (by go_simp) (sub_nat N1 k j hkN hN1c hj _)) hG.below
                · exact rol_val rfl rfl rfl (by rw [hz]; decide) (ex_index rfl (eval_slot (hF 1 (by decide))) (eval_slot (hF 5 (by decide))) (idx_u16 hjl)) hG.below
                · exact rol_val rfl rfl rfl (by rw [hz]; decide) (ex_load rfl (eval_slot (hF 6 (by decide))) (ld_u16 (cell_keep hc2 hG.below))) hG.below
                · exact rol_val rfl rfl rfl (by rw [hz]; decide) (ex_bin rfl (eval_slot (hF 7 (by decide))) rfl (by go_simp) (shr_u16 z2 s2 hs2 _)) hG.below
                · exact rol_val rfl rfl rfl (by rw [hz]; decide) (ex_bin rfl (eval_slot (hF 8 (by decide))) rfl (by go_simp) (rem_u16 s2 r2 hs20 hs21 hr2 _)) hG.below
                · exact rol_val rfl rfl rfl (by rw [hz]; decide) (ex_conv rfl (eval_slot (hF 9 (by decide))) (conv_u16 r2 hr20 hr21 _)) hG.below
                · exact rol_val rfl rfl rfl (by rw [hz]; decide) (ex_bin rfl (eval_slot (hF 10 (by decide))) rfl (by go_simp) (sub_one r2 f2 hr20 hr21 hf2 _)) hG.below
                · exact rol_val rfl rfl rfl (by rw [hz]; decide) (ex_move (Or.inl rfl) (eval_slot ((hG.slots 1 (by decide)).trans rfl))) hG.below
                · exact rol_val rfl rfl rfl (by rw [hz]; decide) (ex_move (Or.inl rfl) (eval_slot ((hG.slots 7 (by decide)).trans rfl))) hG.below
                · exact rol_val rfl rfl rfl (by rw [hz]; decide) (ex_bin rfl (eval_slot (hF 13 (by decide))) rfl (by go_simp) (sub_nat1 N N1 hN1a hN1b hN1 _)) hG.below
                · exact rol_val rfl rfl rfl (by rw [hz]; decide) (ex_move (Or.inl rfl) (eval_slot ((hG.slots 8 (by decide)).trans rfl))) hG.below
                · exact rol_val rfl rfl rfl (by rw [hz]; decide) (ex_bin rfl (eval_slot (hF 14 (by decide))) (eval_slot (hF 15 (by decide))) (by go_simp) (sub_nat N1 k j hkN hN1c hj _)) hG.below
                · exact rol_val rfl rfl rfl (by rw [hz]; decide) (ex_index rfl (eval_slot (hF 12 (by decide))) (eval_slot (hF 16 (by decide))) (idx_u16 hjl)) hG.below
                · exact rol_val rfl rfl rfl (by rw [hz]; decide) (ex_load rfl (eval_slot (hF 17 (by decide))) (ld_u16 (cell_keep hc2 hG.below))) hG.below
                · exact rol_val rfl rfl rfl (by rw [hz]; decide) (ex_bin rfl (eval_slot (hF 18 (by decide))) rfl (by go_simp) (rem_u16 z2 t2 g20 g21 ht2 _)) hG.below
                · exact rol_val rfl rfl rfl (by rw [hz]; decide) (ex_conv rfl (eval_slot (hF 19 (by decide))) (conv_u16 t2 ht20 ht21 _)) hG.below
                · refine rol_call rfl rfl rfl (by rw [hz]; decide) (ex_call rfl (by simp [eval_slot (hF 0 (by decide)), eval_slot (hF 11 (by decide)), eval_slot (hF 20 (by decide))]) eAdd) (kadd2 _ wx (SC.out.below hG.below)) ?_ hG.below hG.below.size
                  rintro e w1 ⟨v, rfl, hown, hb1⟩
                  exact ⟨_, rfl, hb1, .inr ⟨_, v.ownBlock, rfl, fun b e => ⟨(hown.lt b e).1, (hown.lt b e).2⟩, v, rfl, row_base hown hG.below.size, rfl⟩⟩
                · exact rol_move rfl rfl rfl (by rw [hz]; decide) (Or.inl rfl) (hF 21 (by decide)) hG.below
                · exact rol_ext_rowE rfl rfl rfl (by rw [hz]; decide) rfl (hF 22 (by decide)) hG.below
                · exact rol_ext_valE rfl rfl rfl (by rw [hz]; decide) rfl (hF 22 (by decide)) hG.below
                · exact rol_move rfl rfl rfl (by rw [hz]; decide) (Or.inr rfl) (hF 23 (by decide)) hG.below
                · exact rol_val rfl rfl rfl (by rw [hz]; decide) (ex_move (Or.inr rfl) (eval_slot (hF 24 (by decide)))) hG.below
              · intro a wx who hG hF
                obtain ⟨v11, ob11, fv11, fo11, fp11⟩ := hF 25 (of_decide_eq_true (by kernel_rfl)) (of_decide_eq_true (by kernel_rfl))
                replace fv11 : a.tmps.getD 11 undef = v11 := eval_slot (s := 11) fv11
                have fv12 : a.tmps.getD 12 undef = .int .i64 K2 := eval_slot (s := 12) (hF 26 (of_decide_eq_true (by kernel_rfl)) (of_decide_eq_true (by kernel_rfl)))
                have hrow11 := fp11.1
                obtain ⟨a11, c11, rfl, hE11⟩ := edsO (es := C1) (by rw [HM2.out]; exact hrow11)
                rw [HM2.out] at fv11 hE11
                clear fo11 fp11 hrow11
                have hbx := hG.below
                have hnx := hG.new
                rw [hG.frame]
                simp only [List.foldl_cons, List.foldl_nil, List.setIfInBounds_toArray, List.set_cons_zero, List.set_cons_succ]
                generalize a.tmps.getD 64 undef = u64
                generalize a.tmps.getD 65 undef = u65
                generalize a.tmps.getD 66 undef = u66
                generalize a.tmps.getD 67 undef = u67
                generalize a.tmps.getD 68 undef = u68
                generalize a.tmps.getD 69 undef = u69
                generalize a.tmps.getD 70 undef = u70
                generalize a.tmps.getD 71 undef = u71
                generalize a.tmps.getD 72 undef = u72
                generalize a.tmps.getD 73 undef = u73
                generalize a.tmps.getD 74 undef = u74
                generalize a.tmps.getD 75 undef = u75
                generalize a.tmps.getD 76 undef = u76
                generalize a.tmps.getD 77 undef = u77
                generalize a.tmps.getD 78 undef = u78
                generalize a.tmps.getD 79 undef = u79
                generalize a.tmps.getD 80 undef = u80
                generalize a.tmps.getD 81 undef = u81
                generalize a.tmps.getD 82 undef = u82
                generalize a.tmps.getD 83 undef = u83
                generalize a.tmps.getD 84 undef = u84
                generalize a.tmps.getD 85 undef = u85
                generalize a.tmps.getD 63 undef = u63
                generalize a.tmps.getD 86 undef = u86
                generalize a.tmps.getD 87 undef = u87
                rw [fv11]
                rw [fv12]
                clear hF hG fv11 fv12
                have S11 := Lib.hid hE11
                replace S9 := Lib.hid (S9.out.below hbx)
                replace HB := Lib.hid (below_step HB.out hbx)
                clear hE11 hbx hnx kadd2 hc1 hc2
                rcases PA1.out with ea | ea
                · have na := PA2.out ea
                  subst ea
                  rcases PB1.out with eb | eb
                  · have nb := PB2.out eb
                    subst eb
                    have hca : chkE A1 = 0 := by unfold chkE; rw [na.ok]; rfl
                    have kc := fun V w h => check_any V A1 w h
                    rw [hca] at kc
                    have NA := Lib.hid na; have NB := Lib.hid nb
                    clear na nb hca
                    go_wp2_with (go_at_call 14; refine (kc _ _ S9.out).mono ?_; rintro e w7 ⟨rfl, hb7⟩; replace S9 := Lib.hid (S9.out.below hb7); replace S11 := Lib.hid (S11.out.below hb7); replace HB := Lib.hid (below_step HB.out hb7); clear hb7)
                    go_roundw
                    case rel => exact ⟨k + 1, m1, m2, c9, c11, A1, C1, a9, a11, by omega, by omega, by omega, rfl, rfl, by go_num, HM1, HM2, NA, NB, S9, S11, HB⟩
                    case measure => simp [intOf]; omega
                  · subst eb
                    replace B := Lib.hid (below_step B.out HB.out)
                    go_wp2_with (go_at_call 16; refine (eawake_any _).mono ?_; rintro e w9 ⟨rfl, hb9⟩; replace B := Lib.hid (below_step B.out hb9); clear hb9)
                    go_ret
                    exact ⟨rfl, B.out⟩
                · subst ea
                  replace B := Lib.hid (below_step B.out HB.out)
                  go_wp2_with (go_at_call 16; refine (eawake_any _).mono ?_; rintro e w9 ⟨rfl, hb9⟩; replace B := Lib.hid (below_step B.out hb9); clear hb9)
                  go_ret
                  exact ⟨rfl, B.out⟩
          · have ek : k = N := by omega
            have h1 := HBA.out
            have h2 := HBC.out
            rw [List.take_of_length_le (by rw [HPL.out]; omega)] at h1
            rw [List.take_of_length_le (by rw [List.length_reverse, HPL.out]; omega)] at h2
            have eAC : A = C := h1.same h2 fun F T => (cnt_rev ps F T).symm
            subst eAC
            replace HBA := Lib.hid h1
            replace SX := Lib.hid (SX.out.below HB.out); replace SV := Lib.hid (SV.out.below HB.out); replace B := Lib.hid (below_step B.out HB.out)
            have hma2 : ma ≤ 60 := by omega
            clear h1 h2 HBC HMB HB ek
            go_upto_region 18 with (go_at_call 24; refine (refsame_any _ _ A A _ SA.out SC.out).mono ?_; rintro e w6 ⟨rfl, hb6⟩; rw [decide_eq_true rfl]; replace SA := Lib.hid (SA.out.below hb6); replace SX := Lib.hid (SX.out.below hb6); replace SV := Lib.hid (SV.out.below hb6); replace B := Lib.hid (below_step B.out hb6); clear hb6 SC)
            clear hk hlt hma hmb
            go_wp2
            go_loopw [5, 13] (fun v5 i wr => ∃ (k ma ca : Nat) (A : List Ed) (aa : Option Addr), k ≤ N ∧ ma ≤ 60 + k ∧ v5 = .slice aa ma ca ∧ i = .int .i64 k ∧ Hid (A.length = ma) ∧ Hid (Back x (ps.drop k) A) ∧ Hid (Eds wr (.slice aa ma ca) A) ∧ Hid (Below w6.heap.size w6 wr)) (fun _ i _ => N - (intOf i).toNat)
            case atStart => exact ⟨0, ma, ca, A, aa, Nat.zero_le _, by omega, rfl, rfl, HMA, HBA, SA, Lib.hid (Below.refl _ _)⟩
            case round =>
              clear HBA HMA SA hma2
              obtain ⟨k, ma, ca, A, aa, hk, hma, rfl, rfl, HMA, HBA, SA, HB⟩ := hrel
              by_cases hlt : k < N
              · have hkl : k < lz := by omega
                obtain ⟨bv, ov, rfl, -, hcv⟩ := (SV.out.below HB.out).at k (by rw [HLZ.out]; omega)
                rw [HLZ.out] at hcv
                have hc1 := hcv k hkl
                have hd1 := HPD.out k hlt
                have g1 := FV.out _ (zs_mem (k := k) (by rw [HLZ.out]; exact hkl))
                obtain ⟨z1, hz1⟩ : ∃ z, zs.getD k 0 = z := ⟨_, rfl⟩
                rw [hz1] at hc1 hd1 g1
                obtain ⟨g10, g11⟩ := g1
                clear hcv hz1
                obtain ⟨s1, hs1⟩ : ∃ s, z1 / 256 = s := ⟨_, rfl⟩
                obtain ⟨r1, hr1⟩ : ∃ s, s1 % 8 = s := ⟨_, rfl⟩
                obtain ⟨f1, hf1⟩ : ∃ s, r1 - 1 = s := ⟨_, rfl⟩
                obtain ⟨t1, ht1⟩ : ∃ s, z1 % 8 = s := ⟨_, rfl⟩
                have hpr1 : prU z1 = (f1, t1) := by unfold prU; rw [hs1, hr1, hf1, ht1]
                have hs10 : 0 ≤ s1 := by omega
                have hs11 : s1 ≤ 65535 := by omega
                have hr10 : 0 ≤ r1 := by omega
                have hr11 : r1 ≤ 65535 := by omega
                have ht10 : 0 ≤ t1 := by omega
                have ht11 : t1 ≤ 65535 := by omega
                have hf10 : -1 ≤ f1 := by omega
                rw [hpr1] at hd1
                have hsA : A.length ≤ 1000000 := by rw [HMA.out]; omega
                have kdrop := fun V w h => drop_any V A f1 t1 w h hsA
                have hba := HBA.out
                rw [hd1] at hba
                obtain ⟨pa1, pa2⟩ := Back.drop HOK.out hba hf10 ht10
                rw [pa1] at kdrop
                have l1 := drop_len A f1 t1
                rw [HMA.out] at l1
                have hca : chkE (dropL A f1 t1) = 0 := by unfold chkE; rw [pa2.ok]; rfl
                obtain ⟨A1, hA1⟩ : ∃ z, dropL A f1 t1 = z := ⟨_, rfl⟩
                rw [hA1] at kdrop pa2 l1 hca
                obtain ⟨m1, hm1⟩ : ∃ z, A1.length = z := ⟨_, rfl⟩
                rw [hm1] at kdrop l1
                have kc := fun V w h => check_any V A1 w h
                rw [hca] at kc
                have HM1 := Lib.hid hm1; have NA := Lib.hid pa2
                clear hA1 hm1 pa1 pa2 hca hsA hba hd1 hpr1
                go_upto_region 21 with fail
                refine rol_run (by kernel_rfl) [[], [], [], [1, 2], [1, 2, 3], [1, 2, 3, 4], [1, 2, 3, 4, 5], [1, 2, 3, 4, 5, 6], [1, 2, 3, 4, 5, 6, 7], [], [], [9, 10], [9, 10, 11], [9, 10, 11, 12], [9, 10, 11, 12, 13], [0, 1, 2, 3, 4, 5, 6, 7, 8, 9, 10, 11, 12, 13, 14], [0, 1, 2, 3, 4, 5, 6, 7, 8, 9, 10, 11, 12, 13, 14, 15], [0, 1, 2, 3, 4, 5, 6, 7, 8, 9, 10, 11, 12, 13, 14, 15, 16], [0, 1, 2, 3, 4, 5, 6, 7, 8, 9, 10, 11, 12, 13, 14, 15, 16], [0, 1, 2, 3, 4, 5, 6, 7, 8, 9, 10, 11, 12, 13, 14, 15, 16, 17], [0, 1, 2, 3, 4, 5, 6, 7, 8, 9, 10, 11, 12, 13, 14, 15, 16, 17, 18, 19]] (by kernel_rfl) [118, 119, 120, 121, 122, 123, 124, 125, 126, 127, 128, 129, 130, 131, 132, 133, 117, 134, 135, 14, 15] [[], [], [], [1, 2], [3], [4], [5], [6], [7], [], [], [9, 10], [11], [12], [13], [0, 8, 14], [15], [16], [16], [17], [18]] [0, 0, 0, 0, 0, 0, 0, 0, 0, 0, 0, 0, 0, 0, 0, 1, 1, 1, 0, 1, 0] [0, 0, 0, 0, 0, 0, 0, 0, 0, 0, 0, 0, 0, 0, 0, 1, 0, 0, 0, 0, 0] [1000, 1000, 1000, 1000, 1000, 1000, 1000, 1000, 1000, 1000, 1000, 1000, 1000, 1000, 1000, 1000, 1000, 1000, 1000, 1000, 1000] [.val 118 (.slice aa ma ca), .val 119 (.slice (some ⟨bv, ov, none⟩) lz vc), .val 120 (.int .i64 (k : Int)), .val 121 (.pointer (some ⟨bv, ov + k, none⟩)), .val 122 (.int .u16 z1), .val 123 (.int .u16 s1), .val 124 (.int .u16 r1), .val 125 (.int .i64 r1), .val 126 (.int .i64 f1), .val 127 (.slice (some ⟨bv, ov, none⟩) lz vc), .val 128 (.int .i64 (k : Int)), .val 129 (.pointer (some ⟨bv, ov + k, none⟩)), .val 130 (.int .u16 z1), .val 131 (.int .u16 t1), .val 132 (.int .i64 t1), .mem 133 (tupPE wr.heap.size m1 A1 (.int .i64 0)), .mem 117 (tupPE wr.heap.size m1 A1 (.int .i64 0)), .mem 134 (rowPE wr.heap.size m1 A1), .val 135 (.int .i64 0), .mem 14 (rowPE wr.heap.size m1 A1), .val 15 (.int .i64 0)] (by kernel_rfl) ?_ (wr.heap.size) (wr.heap.size) rfl (Below.refl _ _) rfl (fun _ => 0) ?_ ?_ ?_
                · intro j hj
                  have hj3 : j < 21 := hj
                  have hj2 : j = 0 ∨ j = 1 ∨ j = 2 ∨ j = 3 ∨ j = 4 ∨ j = 5 ∨ j = 6 ∨ j = 7 ∨ j = 8 ∨ j = 9 ∨ j = 10 ∨ j = 11 ∨ j = 12 ∨ j = 13 ∨ j = 14 ∨ j = 15 ∨ j = 16 ∨ j = 17 ∨ j = 18 ∨ j = 19 ∨ j = 20 := by omega
                  clear hj hj3
                  rcases hj2 with rfl | rfl | rfl | rfl | rfl | rfl | rfl | rfl | rfl | rfl | rfl | rfl | rfl | rfl | rfl | rfl | rfl | rfl | rfl | rfl | rfl
                  · exact trivial
                  · exact trivial
                  · exact trivial
                  · exact trivial
                  · exact trivial
                  · exact trivial
                  · exact trivial
                  · exact trivial
                  · exact trivial
                  · exact trivial
                  · exact trivial
                  · exact trivial
                  · exact trivial
                  · exact trivial
                  · exact trivial
                  · exact tupPE_near
                  · exact tupPE_near
                  · exact rowPE_near
                  · exact trivial
                  · exact rowPE_near
                  · exact trivial
                · intro j hj0 hj
                  exact absurd hj (Nat.not_lt.2 hj0)
                · intro i hi a wx who hG hF
                  have hz : a.tmps.size = 150 := hG.size
                  have hi3 : i < 21 := hi
                  have hi2 : i = 0 ∨ i = 1 ∨ i = 2 ∨ i = 3 ∨ i = 4 ∨ i = 5 ∨ i = 6 ∨ i = 7 ∨ i = 8 ∨ i = 9 ∨ i = 10 ∨ i = 11 ∨ i = 12 ∨ i = 13 ∨ i = 14 ∨ i = 15 ∨ i = 16 ∨ i = 17 ∨ i = 18 ∨ i = 19 ∨ i = 20 := by omega
                  clear hi hi3
                  rcases hi2 with rfl | rfl | rfl | rfl | rfl | rfl | rfl | rfl | rfl | rfl | rfl | rfl | rfl | rfl | rfl | rfl | rfl | rfl | rfl | rfl | rfl
                  · exact rol_val rfl rfl rfl (by rw [hz]; decide) (ex_move (Or.inl rfl) (eval_slot ((hG.slots 5 (by decide)).trans rfl))) hG.below
                  · exact rol_val rfl rfl rfl (by rw [hz]; decide) (ex_move (Or.inl rfl) (eval_slot ((hG.slots 1 (by decide)).trans rfl))) hG.below
                  · exact rol_val rfl rfl rfl (by rw [hz]; decide) (ex_move (Or.inl rfl) (eval_slot ((hG.slots 13 (by decide)).trans rfl))) hG.below
                  · exact rol_val rfl rfl rfl (by rw [hz]; decide) (ex_index rfl (eval_slot (hF 1 (by decide))) (eval_slot (hF 2 (by decide))) (idx_u16 hkl)) hG.below
                  · exact rol_val rfl rfl rfl (by rw [hz]; decide) (ex_load rfl (eval_slot (hF 3 (by decide))) (ld_u16 (cell_keep hc1 hG.below))) hG.below
                  · exact rol_val rfl rfl rfl (by rw [hz]; decide) (ex_bin rfl (eval_slot (hF 4 (by decide))) rfl (by go_simp) (shr_u16 z1 s1 hs1 _)) hG.below
                  · exact rol_val rfl rfl rfl (by rw [hz]; decide) (ex_bin rfl (eval_slot (hF 5 (by decide))) rfl (by go_simp) (rem_u16 s1 r1 hs10 hs11 hr1 _)) hG.below
                  · exact rol_val rfl rfl rfl (by rw [hz]; decide) (ex_conv rfl (eval_slot (hF 6 (by decide))) (conv_u16 r1 hr10 hr11 _)) hG.below
                  · exact rol_val rfl rfl rfl (by rw [hz]; decide) (ex_bin rfl (eval_slot (hF 7 (by decide))) rfl (by go_simp) (sub_one r1 f1 hr10 hr11 hf1 _)) hG.below
                  · exact rol_val rfl rfl rfl (by rw [hz]; decide) (ex_move (Or.inl rfl) (eval_slot ((hG.slots 1 (by decide)).trans rfl))) hG.below
                  · exact rol_val rfl rfl rfl (by rw [hz]; decide) (ex_move (Or.inl rfl) (eval_slot ((hG.slots 13 (by decide)).trans rfl))) hG.below
                  · exact rol_val rfl rfl rfl (by rw [hz]; decide) (ex_index rfl (eval_slot (hF 9 (by decide))) (eval_slot (hF 10 (by decide))) (idx_u16 hkl)) hG.below
                  · exact rol_val rfl rfl rfl (by rw [hz]; decide) (ex_load rfl (eval_slot (hF 11 (by decide))) (ld_u16 (cell_keep hc1 hG.below))) hG.below
                  · exact rol_val rfl rfl rfl (by rw [hz]; decide) (ex_bin rfl (eval_slot (hF 12 (by decide))) rfl (by go_simp) (rem_u16 z1 t1 g10 g11 ht1 _)) hG.below
                  · exact rol_val rfl rfl rfl (by rw [hz]; decide) (ex_conv rfl (eval_slot (hF 13 (by decide))) (conv_u16 t1 ht10 ht11 _)) hG.below
                  · refine rol_call rfl rfl rfl (by rw [hz]; decide) (ex_call rfl (by simp [eval_slot (hF 0 (by decide)), eval_slot (hF 8 (by decide)), eval_slot (hF 14 (by decide))]) eDrop) (kdrop _ wx (SA.out.below hG.below)) ?_ hG.below hG.below.size
                    rintro e w1 ⟨v, rfl, hown, hb1⟩
                    exact ⟨_, rfl, hb1, .inr ⟨_, v.ownBlock, rfl, fun b e => ⟨(hown.lt b e).1, (hown.lt b e).2⟩, v, rfl, row_base hown hG.below.size, rfl⟩⟩
                  · exact rol_move rfl rfl rfl (by rw [hz]; decide) (Or.inl rfl) (hF 15 (by decide)) hG.below
                  · exact rol_ext_rowE rfl rfl rfl (by rw [hz]; decide) rfl (hF 16 (by decide)) hG.below
                  · exact rol_ext_valE rfl rfl rfl (by rw [hz]; decide) rfl (hF 16 (by decide)) hG.below
                  · exact rol_move rfl rfl rfl (by rw [hz]; decide) (Or.inr rfl) (hF 17 (by decide)) hG.below
                  · exact rol_val rfl rfl rfl (by rw [hz]; decide) (ex_move (Or.inr rfl) (eval_slot (hF 18 (by decide)))) hG.below
                · intro a wx who hG hF
                  obtain ⟨v14, ob14, fv14, fo14, fp14⟩ := hF 19 (of_decide_eq_true (by kernel_rfl)) (of_decide_eq_true (by kernel_rfl))
                  replace fv14 : a.tmps.getD 14 undef = v14 := eval_slot (s := 14) fv14
                  have fv15 : a.tmps.getD 15 undef = .int .i64 0 := eval_slot (s := 15) (hF 20 (of_decide_eq_true (by kernel_rfl)) (of_decide_eq_true (by kernel_rfl)))
                  have hrow14 := fp14.1
                  obtain ⟨a14, c14, rfl, hE14⟩ := edsO (es := A1) (by rw [HM1.out]; exact hrow14)
                  rw [HM1.out] at fv14 hE14
                  clear fo14 fp14 hrow14
                  have hbx := hG.below
                  have hnx := hG.new
                  rw [hG.frame]
                  simp only [List.foldl_cons, List.foldl_nil, List.setIfInBounds_toArray, List.set_cons_zero, List.set_cons_succ]
                  generalize a.tmps.getD 118 undef = u118
                  generalize a.tmps.getD 119 undef = u119
                  generalize a.tmps.getD 120 undef = u120
                  generalize a.tmps.getD 121 undef = u121
                  generalize a.tmps.getD 122 undef = u122
                  generalize a.tmps.getD 123 undef = u123
                  generalize a.tmps.getD 124 undef = u124
                  generalize a.tmps.getD 125 undef = u125
                  generalize a.tmps.getD 126 undef = u126
                  generalize a.tmps.getD 127 undef = u127
                  generalize a.tmps.getD 128 undef = u128
                  generalize a.tmps.getD 129 undef = u129
                  generalize a.tmps.getD 130 undef = u130
                  generalize a.tmps.getD 131 undef = u131
                  generalize a.tmps.getD 132 undef = u132
                  generalize a.tmps.getD 133 undef = u133
                  generalize a.tmps.getD 117 undef = u117
                  generalize a.tmps.getD 134 undef = u134
                  generalize a.tmps.getD 135 undef = u135
                  rw [fv14]
                  rw [fv15]
                  clear hF hG fv14 fv15
                  have S14 := Lib.hid hE14
                  replace HB := Lib.hid (below_step HB.out hbx)
                  clear hE14 hbx hnx kdrop hc1
                  go_wp2_with (go_at_call 14; refine (kc _ _ S14.out).mono ?_; rintro e w7 ⟨rfl, hb7⟩; replace S14 := Lib.hid (S14.out.below hb7); replace HB := Lib.hid (below_step HB.out hb7); clear hb7)
                  go_roundw
                  case rel => exact ⟨k + 1, m1, c14, A1, a14, by omega, by omega, rfl, by go_num, HM1, NA, S14, HB⟩
                  case measure => simp [intOf]; omega
              · have h1 := HBA.out
                rw [List.drop_eq_nil_of_le (by rw [HPL.out]; omega)] at h1
                have eA : A = x := h1.same (Back.refl HOK.out) fun F T => rfl
                subst eA
                replace SX := Lib.hid (SX.out.below HB.out); replace B := Lib.hid (below_step B.out HB.out)
                clear h1
                go_wp2_with (first
                  | (go_at_call 24; refine (refsame_any _ _ A A _ SA.out SX.out).mono ?_; rintro e w8 ⟨rfl, hb8⟩; rw [decide_eq_true rfl]; replace B := Lib.hid (below_step B.out hb8); clear hb8)
                  | (go_at_call 16; refine (eawake_any _).mono ?_; rintro e w9 ⟨rfl, hb9⟩; replace B := Lib.hid (below_step B.out hb9); clear hb9))
                go_ret
                exact ⟨rfl, B.out⟩

theorem own : ownKnob Try.prog.godebug = none := by kernel_rfl
theorem laidOut : laidOutB Try.prog = true := by kernel_rfl

set_option maxRecDepth 100000 in
theorem lifted (os : Os) (started : os.Started) (H : Type) (enc : TypeId × Value → H) :
    ReturnsInHanded {} Try.checked os 5 .any (Rows.edgesBackSpec.pre6 enc Try.prog Try.f5 Rows.edgesBackRow.domain false) (Rows.edgesBackSpec.post enc Try.prog Try.f5 false true false false) := by
  refine returnsInHanded_of_change (C := Try.checked) own started (by kernel_rfl) Try.func5
    (ChangeSpec.witness6 (enc := enc) (C := Try.checked) false ⟨#[], #[.slice none 0 0, .slice none 0 0], []⟩ 8 (by kernel_rfl) (by kernel_rfl) (by kernel_rfl) (by kernel_rfl)) ?_
  intro W base args ds gs before hval0 hW hcnd _
  have hval : ∀ (j : Nat) t v, Try.f5.params[j]? = some t → args[j]? = some v → Value.okWide Try.prog W .any base t v := hval0
  have hW' := hW
  obtain ⟨p, q, hA0, hV, rfl, hfz, hnd⟩ := hW
  have hA : DataW.TrodAll enc Try.prog W 0 (fun _ => true) true Try.f5.params.toList args.toList ds p := hA0
  rw [Try.params5] at hA hval
  obtain ⟨v0, vs0, d0, ds0, p0, q0, hargs, rfl, rfl, h0, r0⟩ := trodAll_cons hA
  obtain ⟨v1, vs1, d1, ds1, p1, q1, rfl, rfl, rfl, h1, r1⟩ := trodAll_cons r0
  obtain ⟨rfl, rfl, rfl⟩ := trodAll_nil r1
  obtain rfl : args = #[v0, v1] := by cases args; simp_all
  obtain ⟨rfl, rfl⟩ := trodVars_none hV
  obtain ⟨a0, len0, cap0, rfl⟩ := okWide_slice Try.underlying22 (hval 0 22 v0 rfl rfl)
  have k0 := h0
  have lt0 : ∀ x ∈ p0, x.block < W.heap.size := by obtain ⟨m, hm⟩ := k0; exact DataW.trod_lt m _ _ _ hm
  obtain ⟨z0, w0⟩ : ∃ zs, Eds W (.slice a0 len0 cap0) zs ∧ ∀ e ∈ zs, fitE e := by
    obtain ⟨fuel, hf⟩ := h0
    exact eds_open (by simpa [Value.cells] using hf)
  obtain ⟨a1, len1, cap1, rfl⟩ := okWide_slice Try.underlying45 (hval 1 45 v1 rfl rfl)
  have k1 := h1
  have lt1 : ∀ x ∈ p1, x.block < W.heap.size := by obtain ⟨m, hm⟩ := k1; exact DataW.trod_lt m _ _ _ hm
  obtain ⟨z1, w1⟩ : ∃ zs, U16s W (.slice a1 len1 cap1) zs ∧ ∀ e ∈ zs, fitU16 e := by
    obtain ⟨fuel, hf⟩ := h1
    exact u16s_open (by simpa [Value.cells] using hf)
  clear hA0 hval0
  refine (walk _ z0 _ z1 W w0 w1).mono fun e W' ⟨he, bel⟩ => ?_
  subst he
  exact ⟨_, rfl, _, _, _, [], _, [], hW', trodAll_mk1 (shut_bool Try.underlying4 _), (trodAll_cons_mk (Below.trod laidOut (by kernel_rfl) (of_decide_eq_true (by kernel_rfl)) k0 bel lt0) (trodAll_cons_mk (Below.trod laidOut (by kernel_rfl) (of_decide_eq_true (by kernel_rfl)) k1 bel lt1) trodAll_mk0)), rfl, bel.frame _, fun h => by cases h⟩

-- the given statement
theorem proved : Rows.EdgesBackSaid :=
  OpenClaim.holds_of_wide 5 Try.f5 rfl rfl rfl rfl rfl rfl rfl ⟨rfl, rfl, rfl, rfl, rfl⟩ rfl rfl rfl rfl rfl (by kernel_rfl) Try.func5 (by kernel_rfl)
    (of_decide_eq_true (by kernel_rfl)) (by unfold Func.isWrapper; first | (rw [if_pos (by decide +kernel)]; kernel_rfl) | (rw [if_neg (by decide +kernel)]; exact ⟨rfl, rfl⟩))
    (fun os started H enc _ => lifted os started H enc)
end Go.Proofs.Ytpbhngneciiaaaa.edgesBack
