/- Rows' nodes, a path's last version: of the program. -/
import Derived.Test.YtnngfcjfhhfafaaGreatTalI
namespace Go.Proofs.YtnngfcjfhhfafaaGreat
open Go.RowKit
set_option linter.unusedVariables false
set_option maxRecDepth 100000

theorem blk_nds {w : World} {b : Nat} {p v : List UInt8} (hh : w.heap[b]? = some (.cells #[.string (mkB p), .string (mkB v)] 24 (0, 0))) : Nds w (.slice (some ⟨b, 0, none⟩) 1 1) [(p, v)] := by
  obtain ⟨c0, c1, _, _⟩ := row2 hh
  exact ⟨some ⟨b, 0, none⟩, 1, rfl, Nat.le_refl _, by unfold maxLen; omega, (fun h => by cases h), fun _ => ⟨b, 0, rfl, (Array.getElem?_eq_some_iff.1 hh).1, fun j hj => by
    have hj2 : j = 0 := by simp at hj; omega
    subst hj2
    exact ⟨c0, c1⟩⟩⟩
theorem run_app_ndT {w : World} {base n : Nat} {v : Value} {K : List Nd} (hown : w.ownsRow base 24 2 v n (ndsC K)) {ad : Addr} {m c : Nat} {L : List Nd} (hN : Nds w (.slice (some ad) m c) L) (hlen : n + m ≤ 200000000) (hbase : base ≤ w.heap.size) (t : TypeId) :
    ∃ v' w', (Builtin.append_ #[35, 35] t #[v, .slice (some ad) m c]).run Tryz.prog w = .ok v' w' ∧ w'.ownsRow base 24 2 v' (n + m) (ndsC (K ++ L)) ∧ w.grownBy w' v.ownBlock := by
  obtain ⟨i, hi, hz, hsize, hby⟩ := info_parts Tryz.info_node
  obtain ⟨v', w', hr, h2, h3, _, _⟩ := run_append_own_at (P := Tryz.prog) w base 35 t 24 i (.agg #[.string ByteArray.empty, .string ByteArray.empty]) 2 32 Tryz.underlying35 hi hz hsize hby rfl (by decide) v n _ hown ad m c (ndsC L) (by rw [ndsC_len, hN.lenE.1]) (hN.src ad rfl) (fun u hu => List.all_eq_true.1 (ndsC_one L) u hu) (by unfold maxLen; omega) (by omega) hbase
  rw [← ndsC_app] at h2
  exact ⟨v', w', hr, h2, h3⟩
section
variable {wr : World} {ops : Array Oper} {rest : List Oper} {o : Oper} {a : Act} {Q : Exit → Act → World → Prop}
/-- 'l = append(l, n)', l the call's own: the node has just been laid in a block of its own. -/
theorem wpList_push_ndT (hgd : o.guard = none) (s x : Operand) (ho : o.op = .call { callee := .builtin .append, args := #[s, x], argTypes := #[35, 35] })
    (base : Nat) (V : Value) (K : List Nd) (n : Nat) (hs : a.eval s = V) (hown : wr.ownsRow base 24 2 V n (ndsC K)) (p v : List UInt8) (N : Nat) (hN : wr.heap.size = N) (hx : a.eval x = .slice (some ⟨N, 0, none⟩) 1 1) (hlen : n ≤ 100000000) (hbase : base ≤ wr.heap.size)
    (h : ∀ a' c' w', w'.ownsRow base 24 2 (.slice a' (n + 1) c') (n + 1) (ndsC (K ++ [(p, v)])) → wr.grownBy w' V.ownBlock → wpList Tryz.prog ops Q rest (a.put o.dst (.slice a' (n + 1) c')) w') :
    wpList Tryz.prog ops Q (o :: rest) a (wr.alloc (.cells #[.string (mkB p), .string (mkB v)] 24)) := by
  subst hN
  refine wpList_plain hgd fun K' hK' => ?_
  obtain ⟨v', w', hr, h2, h3⟩ := run_app_ndT (hown.alloc (.cells #[.string (mkB p), .string (mkB v)] 24)) (blk_nds (heap_alloc_new wr (.cells #[.string (mkB p), .string (mkB v)] 24))) (m := 1) (c := 1) (by omega) (by simp; omega) o.type
  obtain ⟨a', c', rfl⟩ := own_form h2
  have hk := h a' c' w' h2 ((World.grownBy_alloc wr _ _).trans h3)
  unfold Oper.wp
  simp [execOp, ho, resolve, invoke, builtin, hs, hx, hr, Result.andThen]
  exact hK' _ _ hk
end
theorem grown_box {w w' : World} {N n g : Nat} {e t : TypeId} {size : Nat} {v : Value} {xs : List Value} {cs : Array Value} (hown : w.ownsRow N e size v n xs) (hg : w.grownBy w' v.ownBlock) (hne : e ≠ t) (hb : w.heap[g]? = some (.cells cs t (0, 0))) : w'.heap[g]? = some (.cells cs t (0, 0)) :=
  (hg.block g (Array.getElem?_eq_some_iff.1 hb).1 fun q => own_nebox hown hb hne q.symm).trans hb
theorem all_take {l : List Rw} {k : Nat} (h : k < l.length) : rwAll (l.take (k + 1)) = rwAll (l.take k) ++ ((l.getD k zR).2.map fun v => ((l.getD k zR).1, v)) := by
  rw [List.take_succ_eq_append_getElem h, rwAll_app, rwAll_one, gd_at h]
theorem all_len {M : Nat} : ∀ {l : List Rw}, (∀ r ∈ l, r.2.length ≤ M) → (rwAll l).length ≤ l.length * M
  | [], _ => by simp [rwAll]
  | r :: l, h => by
    have ih := all_len (l := l) fun x hx => h x (List.mem_cons_of_mem _ hx)
    have h1 := h r List.mem_cons_self
    rw [rwAll_cons, List.length_append, List.length_map, List.length_cons, Nat.succ_mul]; omega
theorem allE_no {l : List Rw} (h : okR l = false) : allE l = ([], 1) := by unfold allE; rw [h]; rfl
theorem allE_yes {l : List Rw} (h : okR l = true) : allE l = (rwAll l, 0) := by unfold allE; rw [h]; rfl

set_option maxHeartbeats 3200000 in
theorem tall_any (V : Value) (l : List Rw) (w : World) (hV : Rws w V l) (hl : l.length ≤ 1000) (hv : ∀ r ∈ l, r.2.length ≤ 10000) (hp : ∀ r ∈ l, r.1.length ≤ 1000000000) (hs : ∀ r ∈ l, ∀ x ∈ r.2, x.length ≤ 1000000000) :
    Calls Tryz.prog 25 #[V] w fun e w' => ∃ x, e = .returned (.tuple #[x, .int .i64 (allE l).2]) ∧ w'.ownsRow w.heap.size 24 2 x (allE l).1.length (ndsC (allE l).1) ∧ Below w.heap.size w w' := by
  obtain ⟨Al, cl, rfl, hl1, hl2, -, -⟩ := hV.ex
  unfold maxLen at hl2
  have kc := fun V w h => tcheck_any V l w h (by omega) hp hs
  obtain ⟨n, hn⟩ : ∃ n, l.length = n := ⟨_, rfl⟩
  rw [hn] at hl hl1 hV ⊢
  have SV := Lib.hid hV; have HN := Lib.hid hn; have HV := Lib.hid hv; have KC := Lib.hid kc
  cases ho : okR l with
  | false =>
    have HE := Lib.hid (show (if okR l = true then (0 : Int) else 1) = 1 by rw [ho]; rfl)
    rw [allE_no ho]
    clear hV hn hv hp hs kc ho
    go_enter Tryz.func25, Tryz.ntmps25
    go_wp2_with (go_at_call 12; refine (KC.out _ _ SV.out).mono ?_; rintro e w1 ⟨rfl, hb1⟩; rw [HE.out]; have B := Lib.hid hb1; clear hb1)
    go_ret2
    exact ⟨_, rfl, World.ownsRow_nil _ _ _ _, B.out⟩
  | true =>
    have HE := Lib.hid (show (if okR l = true then (0 : Int) else 1) = 0 by rw [ho]; rfl)
    rw [allE_yes ho]
    obtain ⟨R, hR⟩ : ∃ R, rwAll l = R := ⟨_, rfl⟩
    rw [hR]
    have HR := Lib.hid hR
    obtain ⟨N0, hN0⟩ : ∃ N, w.heap.size = N := ⟨_, rfl⟩
    have HN0 := Lib.hid hN0
    rw [hN0]
    have hal := fun k => all_len (M := 10000) (l := l.take k) fun r hr => hv r (List.mem_of_mem_take hr)
    have HAL := Lib.hid (show ∀ k, (rwAll (l.take k)).length ≤ n * 10000 from fun k => Nat.le_trans (hal k) (Nat.mul_le_mul_right _ (by rw [List.length_take]; omega)))
    clear hV hn hv hp hs kc ho hR hN0 hal
    go_enter Tryz.func25, Tryz.ntmps25
    go_wp2_with (go_at_call 12; refine (KC.out _ _ SV.out).mono ?_; rintro e w1 ⟨rfl, hb1⟩; rw [HE.out]; rw [HN0.out] at hb1; have B := Lib.hid hb1; clear hb1)
    go_loopw [5, 17] (fun v5 i wr => ∃ (k : Nat) (X : Value), k ≤ n ∧ i = .int .i64 k ∧ X = v5 ∧ Hid (wr.ownsRow N0 24 2 X (rwAll (l.take k)).length (ndsC (rwAll (l.take k)))) ∧ Hid (Below N0 w wr)) (fun _ i _ => n - (intOf i).toNat)
    case atStart => exact ⟨0, _, Nat.zero_le _, rfl, rfl, Lib.hid (World.ownsRow_nil _ _ _ _), B⟩
    case round =>
      obtain ⟨k, X, hk, rfl, rfl, HO, HB⟩ := hrel
      by_cases hlt : k < n
      · have hkl : k < l.length := by rw [HN.out]; exact hlt
        obtain ⟨bl, ol, ay, ny, cy, rfl, c0, c1, hsy⟩ := SV.out.at k hkl
        have hbw : Below w.heap.size w wr := by rw [HN0.out]; exact HB.out
        have hc0 := cell_keep c0 hbw
        have hc1 := cell_keep c1 hbw
        have htk := all_take hkl
        have hvy := HV.out _ (gd_in (z := zR) hkl)
        obtain ⟨y, hy⟩ : ∃ y, y = l.getD k zR := ⟨_, rfl⟩
        rw [← hy] at hc0 hsy htk hvy
        obtain ⟨p, vs⟩ := y
        simp only at hc0 hc1 hsy hvy htk
        have hny := hsy.lenE
        have hkb : (k : Int) < (n : Int) := by omega
        have HTK := Lib.hid htk; have SY := Lib.hid hsy; have HVL := Lib.hid hny.1; have HNS := Lib.hid (show N0 ≤ wr.heap.size by rw [← HN0.out]; exact hbw.size)
        have hny2 : ny ≤ 10000 := by rw [← hny.1]; exact hvy
        obtain ⟨-, hny1, hny3⟩ := hny
        unfold maxLen at hny3
        obtain ⟨P, hP⟩ : ∃ P, rwAll (l.take k) = P := ⟨_, rfl⟩
        have hpl : P.length ≤ n * 10000 := by rw [← hP]; exact HAL.out k
        rw [hP] at HO HTK
        clear hy htk hvy hsy c0 c1 hbw hP
        go_upto_region 8 with fail
        obtain ⟨W5, gk, hW5, hgk, r5, hb5⟩ := boxT wr (.string (mkB p)) (.slice ay ny cy) 58
        rw [hW5, hgk]
        obtain ⟨d0, d1, -, -⟩ := row2 r5
        have RK := Lib.hid r5; have HO5 := Lib.hid (ownsRow_belowB HO.out hb5); have HB5 := Lib.hid (HB.out.trans (hb5.mono HNS.out)); have HNS5 := Lib.hid (Nat.le_trans HNS.out hb5.size)
        clear hW5 hgk r5 hb5 hc0 hc1
        go_wp2
        clear d0 d1
        go_loopw [5, 24] (fun v5 i ws => ∃ (j : Nat) (Y : Value) (K : List Nd) (q : Nat), j ≤ ny ∧ i = .int .i64 j ∧ Y = v5 ∧ Hid (K = P ++ (vs.take j).map fun v => (p, v)) ∧ Hid (K.length = q) ∧ Hid (q = P.length + j) ∧ Hid (ws.ownsRow N0 24 2 Y q (ndsC K)) ∧ Hid (ws.heap[gk]? = some (.cells #[.string (mkB p), .slice ay ny cy] 58 (0, 0))) ∧ Hid (Below N0 w ws)) (fun _ i _ => ny - (intOf i).toNat)
        case atStart => exact ⟨0, _, P, _, Nat.zero_le _, rfl, rfl, Lib.hid (by simp), Lib.hid rfl, Lib.hid rfl, HO5, RK, HB5⟩
        case round =>
          obtain ⟨j, Y, K, q, hj, rfl, rfl, HK, HQ, HQE, HOW, HBX, HB6⟩ := hrel
          by_cases hlt2 : j < ny
          · have hjl : j < vs.length := by rw [HVL.out]; exact hlt2
            obtain ⟨bz, oz, rfl, hcz⟩ := SY.out.atT j hjl
            have hcz2 := cell_keep hcz (show Below w.heap.size w wr by rw [HN0.out]; exact HB6.out)
            obtain ⟨d0, d1, -, -⟩ := row2 HBX.out
            obtain ⟨x, hx⟩ : ∃ x, x = vs.getD j [] := ⟨_, rfl⟩
            rw [← hx] at hcz2
            have htj : (vs.take (j + 1)).map (fun v => (p, v)) = (vs.take j).map (fun v => (p, v)) ++ [(p, x)] := by
              rw [List.take_succ_eq_append_getElem hjl, List.map_append, hx, gd_at hjl]; rfl
            have HTJ := Lib.hid htj
            have hjb : (j : Int) < (ny : Int) := by omega
            have HNS6 := Lib.hid (show N0 ≤ wr.heap.size by rw [← HN0.out]; exact (show Below w.heap.size w wr by rw [HN0.out]; exact HB6.out).size)
            clear hx htj hcz hjl
            go_wp2_with (at_builtin; refine wpList_push_ndT rfl _ _ rfl N0 Y K q rfl HOW.out p x _ rfl rfl (by have := HQE.out; omega) HNS6.out ?_; intro a7 c7 w7 h7 hg7; have HO7 := Lib.hid h7; have HBX7 := Lib.hid (grown_box HOW.out hg7 (by decide) HBX.out); have HB7 := Lib.hid (HB6.out.grown hg7 HNS6.out (fun b e => (own_lt HOW.out e).1)); clear h7 hg7 d0 d1 hcz2)
            go_roundw
            case rel => exact ⟨j + 1, _, K ++ [(p, x)], q + 1, by omega, by go_num, rfl, Lib.hid (by rw [HK.out, HTJ.out, List.append_assoc]), Lib.hid (by rw [List.length_append, HQ.out]; rfl), Lib.hid (by rw [HQE.out]; rfl), HO7, HBX7, HB7⟩
            case measure => simp [intOf]; omega
          · have e : j = ny := by omega
            subst e
            have hK : K = rwAll (l.take (k + 1)) := by rw [HK.out, HTK.out, List.take_of_length_le (by rw [HVL.out]; exact Nat.le_refl _)]
            have HK2 := Lib.hid hK; clear hK
            go_wp2
            go_roundw
            case rel => exact ⟨k + 1, _, by omega, by go_num, rfl, Lib.hid (by rw [← HK2.out, HQ.out]; exact HOW.out), HB6⟩
            case measure => simp [intOf]; omega
      · have e : k = n := by omega
        subst e
        have hP : rwAll (l.take k) = R := by rw [List.take_of_length_le (by rw [HN.out]; exact Nat.le_refl _)]; exact HR.out
        rw [hP] at HO
        clear hP
        go_wp2
        go_ret2
        exact ⟨_, rfl, HO.out, HB.out⟩

/-! ### The last version -/
theorem bestE_no {l : List Rw} {p : List UInt8} (h : (okR l && pathB p) = false) : bestE l p = ([], 1) := by unfold bestE; rw [h]; rfl
theorem bestE_none {l : List Rw} {p : List UInt8} (h : okR l = true) (k : pathB p = true) (m : rwVer l p = []) : bestE l p = ([], 2) := by unfold bestE; rw [h, k, m]; rfl
theorem bestE_yes {l : List Rw} {p : List UInt8} (h : okR l = true) (k : pathB p = true) (m : rwVer l p ≠ []) : bestE l p = (lastV (rwVer l p), 0) := by unfold bestE; rw [h, k, if_neg m]; rfl

set_option maxHeartbeats 3200000 in
theorem tbest_any (V : Value) (l : List Rw) (p : List UInt8) (w : World) (hV : Rws w V l) (hl : l.length ≤ 10000) (hp : ∀ r ∈ l, r.1.length ≤ 1000000000) (hs : ∀ r ∈ l, ∀ x ∈ r.2, x.length ≤ 1000000000) (hpl : p.length ≤ 1000000000) :
    Calls Tryz.prog 27 #[V, .string (mkB p)] w fun e w' => e = .returned (.tuple #[.string (mkB (bestE l p).1), .int .i64 (bestE l p).2]) ∧ Below w.heap.size w w' := by
  obtain ⟨Al, cl, rfl, hl1, hl2, -, -⟩ := hV.ex
  unfold maxLen at hl2
  have kc := fun V w h => tcheck_any V l w h (by omega) hp hs
  have km := fun w => pmay_b p w hpl
  obtain ⟨n, hn⟩ : ∃ n, l.length = n := ⟨_, rfl⟩
  obtain ⟨E, hE⟩ : ∃ E, bestE l p = E := ⟨_, rfl⟩
  rw [hE]
  have HEH := Lib.hid hE; clear hE
  rw [hn] at hl hl1 hV ⊢
  have SV := Lib.hid hV; have HN := Lib.hid hn; have KC := Lib.hid kc
  cases ho : okR l with
  | false =>
    have HE := Lib.hid (show (if okR l = true then (0 : Int) else 1) = 1 by rw [ho]; rfl)
    obtain rfl : E = ([], 1) := by rw [← HEH.out]; exact bestE_no (by rw [ho]; rfl)
    clear hV hn hp hs kc ho km
    go_enter Tryz.func27, Tryz.ntmps27
    go_wp2_with (go_at_call 12; refine (KC.out _ _ SV.out).mono ?_; rintro e w1 ⟨rfl, hb1⟩; rw [HE.out]; have B := Lib.hid hb1; clear hb1)
    go_ret2
    exact ⟨rfl, B.out⟩
  | true =>
    have HE := Lib.hid (show (if okR l = true then (0 : Int) else 1) = 0 by rw [ho]; rfl)
    cases hpo : pathB p with
    | false =>
      obtain rfl : E = ([], 1) := by rw [← HEH.out]; exact bestE_no (by rw [ho, hpo]; rfl)
      rw [hpo] at km
      have KM := Lib.hid km
      clear hV hn hp hs kc ho km hpo
      go_enter Tryz.func27, Tryz.ntmps27
      go_wp2_with (first
        | (go_at_call 12; refine (KC.out _ _ SV.out).mono ?_; rintro e w1 ⟨rfl, hb1⟩; rw [HE.out]; have B := Lib.hid hb1; clear hb1)
        | (go_at_call 42; refine (KM.out _).mono ?_; rintro e w1 ⟨rfl, hb1⟩; replace B := Lib.hid (below_step B.out hb1); clear hb1))
      go_ret2
      exact ⟨rfl, B.out⟩
    | true =>
      have ks := fun w h => seek16_any Al n cl l p w h ho (by omega)
      rw [hpo] at km
      have KM := Lib.hid km; have KS := Lib.hid ks; have HO := Lib.hid ho; have HPO := Lib.hid hpo
      clear hV hn hp hs kc ho km hpo ks
      go_enter Tryz.func27, Tryz.ntmps27
      go_upto_region 4 with (first
        | (go_at_call 12; refine (KC.out _ _ SV.out).mono ?_; rintro e w1 ⟨rfl, hb1⟩; rw [HE.out]; have B := Lib.hid hb1; clear hb1)
        | (go_at_call 42; refine (KM.out _).mono ?_; rintro e w1 ⟨rfl, hb1⟩; replace B := Lib.hid (below_step B.out hb1); clear hb1)
        | (go_at_call 52; refine (KS.out _ (SV.out.below B.out)).mono ?_; rintro e w1 ⟨⟨i, rfl, hi, hI⟩, hb1⟩; have HI := Lib.hid hI; replace B := Lib.hid (below_step B.out hb1); clear hb1 hI))
      cases hf : foundP l p i with
      | false =>
        obtain rfl : E = ([], 2) := by rw [← HEH.out]; exact bestE_none HO.out HPO.out (ver_not (by rw [HN.out]; exact hi) HO.out HI.out hf)
        clear hf
        go_wp2
        go_ret2
        exact ⟨rfl, B.out⟩
      | true =>
        have hil := (found_eq hf).1
        have hvr := ver_found HO.out hf
        obtain ⟨b, off, ay, ny, cy, rfl, c0, c1, hsy⟩ := (SV.out.below B.out).at i hil
        have hfit := ((okR_iff.1 HO.out).1 _ (gd_in (z := zR) hil)).2
        have hne := (fitV_iff.1 hfit).2.2
        rw [← hvr] at hsy hne
        have hny := hsy.lenE
        have hpos := List.length_pos_iff.2 hne
        have hin : (i : Int) < (n : Int) := by have := HN.out; omega
        obtain ⟨bz, oz, rfl, hcz⟩ := hsy.atT (ny - 1) (by omega)
        have hlast : (rwVer l p).getD (ny - 1) [] = lastV (rwVer l p) := by unfold lastV; rw [hny.1]
        rw [hlast] at hcz
        obtain ⟨m, hm⟩ : ∃ m, ny - 1 = m := ⟨_, rfl⟩
        rw [hm] at hcz
        have hnm : (ny : Int) - 1 = (m : Int) := by omega
        have hmn : (m : Int) < (ny : Int) := by omega
        obtain ⟨-, hny1, hny2⟩ := hny
        unfold maxLen at hny2
        obtain ⟨x, hx⟩ : ∃ x, lastV (rwVer l p) = x := ⟨_, rfl⟩
        obtain rfl : E = (x, 0) := by rw [← HEH.out, ← hx]; exact bestE_yes HO.out HPO.out hne
        rw [hx] at hcz
        clear hf hil hvr c0 hsy hfit hne hpos hlast hm hx
        go_wp2
        go_ret2
        exact ⟨rfl, B.out⟩
end Go.Proofs.YtnngfcjfhhfafaaGreat
