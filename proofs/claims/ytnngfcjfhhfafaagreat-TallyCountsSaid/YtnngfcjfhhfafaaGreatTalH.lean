/- Rows where a path has these versions in the stead of its own: of the program. -/
import Derived.Test.YtnngfcjfhhfafaaGreatTalG
namespace Go.Proofs.YtnngfcjfhhfafaaGreat
open Go.RowKit
set_option linter.unusedVariables false
set_option maxRecDepth 100000

theorem own_form {w : World} {base : Nat} {e : TypeId} {size : Nat} {v : Value} {n : Nat} {xs : List Value} (h : w.ownsRow base e size v n xs) : ∃ a c, v = .slice a n c := by
  rcases h.2 with ⟨rfl, rfl⟩ | ⟨g, cap, cur, rfl, _⟩
  · exact ⟨_, _, rfl⟩
  · exact ⟨_, _, rfl⟩
section
variable {wr : World} {ops : Array Oper} {rest : List Oper} {o : Oper} {a : Act} {Q : Exit → Act → World → Prop}
/-- 'rows = append(rows, Row{p, vs})', the rows the call's own; the row has just been laid in a block of its own. -/
theorem wpList_push_rw (hgd : o.guard = none) (s x : Operand) (ho : o.op = .call { callee := .builtin .append, args := #[s, x], argTypes := #[22, 22] })
    (N : Nat) (V : Value) (rs : List Rw) (ys : List Value) (n : Nat) (hn : rs.length = n) (hys : ys.length = rs.length) (hs : a.eval s = V) (hown : wr.ownsRow N 58 2 V n (rwC rs ys)) (r : Rw) (y : Value) (hy : y.oneCell' = true) (M : Nat) (hM : wr.heap.size = M) (hx : a.eval x = .slice (some ⟨M, 0, none⟩) 1 1) (hlen : n ≤ 1000000) (hbase : N ≤ wr.heap.size)
    (h : ∀ a' c' w', w'.ownsRow N 58 2 (.slice a' (n + 1) c') (n + 1) (rwC (rs ++ [r]) (ys ++ [y])) → wr.grownBy w' V.ownBlock → (∀ (b : Nat) (cs : Array Value), wr.heap[b]? = some (.cells cs 9 (0, 0)) → w'.heap[b]? = wr.heap[b]?) → wpList Tryz.prog ops Q rest (a.put o.dst (.slice a' (n + 1) c')) w') :
    wpList Tryz.prog ops Q (o :: rest) a (wr.alloc (.cells #[.string (mkB r.1), y] 58)) := by
  subst hM
  refine wpList_plain hgd fun K' hK' => ?_
  have hal := hown.alloc (.cells #[.string (mkB r.1), y] 58)
  obtain ⟨v', w', hr, h2, h3, -⟩ := run_app_rw hys hal (ls := [r]) (zs := [y]) (a0 := some ⟨wr.heap.size, 0, none⟩) (m := 1) (c := 1) rfl rfl (fun e => by cases e) (blk_src (heap_alloc_new wr _)) (by simp [hy]) (by omega) (by simp; omega) o.type
  obtain ⟨a', c', rfl⟩ := own_form h2
  have ht : ∀ (b : Nat) (cs : Array Value), wr.heap[b]? = some (.cells cs 9 (0, 0)) → w'.heap[b]? = wr.heap[b]? := fun b cs hc => by
    have hb := (Below.refl wr.heap.size wr).alloc (Nat.le_refl _) (.cells #[.string (mkB r.1), y] 58)
    have h5 := row_keepB hc hb
    exact (txt_kept hal h3 b cs h5).trans (h5.trans hc.symm)
  have hk := h a' c' w' h2 ((World.grownBy_alloc wr _ _).trans h3) ht
  unfold Oper.wp
  simp [execOp, ho, resolve, invoke, builtin, hs, hx, hr, Result.andThen]
  exact hK' _ _ hk
/-- 'append(rows, more...)', both the call's own. -/
theorem wpList_cat_rw (hgd : o.guard = none) (s x : Operand) (ho : o.op = .call { callee := .builtin .append, args := #[s, x], argTypes := #[22, 22] })
    (N : Nat) (V : Value) (rs : List Rw) (ys : List Value) (n : Nat) (hys : ys.length = rs.length) (hs : a.eval s = V) (hown : wr.ownsRow N 58 2 V n (rwC rs ys)) (N' : Nat) (a0 : Option Addr) (m c : Nat) (ls : List Rw) (zs : List Value) (hm : ls.length = m) (hz : zs.length = ls.length) (hx : a.eval x = .slice a0 m c) (hsrc : wr.ownsRow N' 58 2 (.slice a0 m c) m (rwC ls zs)) (h1 : (zs.all fun u => u.oneCell') = true) (hlen : n + m ≤ 2000000) (hbase : N ≤ wr.heap.size)
    (h : ∀ a' c' w', w'.ownsRow N 58 2 (.slice a' (n + m) c') (n + m) (rwC (rs ++ ls) (ys ++ zs)) → wr.grownBy w' V.ownBlock → (∀ (b : Nat) (cs : Array Value), wr.heap[b]? = some (.cells cs 9 (0, 0)) → w'.heap[b]? = wr.heap[b]?) → wpList Tryz.prog ops Q rest (a.put o.dst (.slice a' (n + m) c')) w') :
    wpList Tryz.prog ops Q (o :: rest) a wr := by
  refine wpList_plain hgd fun K' hK' => ?_
  obtain ⟨v', w', hr, h2, h3, -⟩ := run_app_rw hys hown hm hz (own_src hsrc).1 (own_src hsrc).2 h1 hlen hbase o.type
  obtain ⟨a', c', rfl⟩ := own_form h2
  have hk := h a' c' w' h2 h3 (txt_kept hown h3)
  unfold Oper.wp
  simp [execOp, ho, resolve, invoke, builtin, hs, hx, hr, Result.andThen]
  exact hK' _ _ hk
end
theorem RwI.len {w : World} {lo : Nat} {ys : List Value} {rs : List Rw} (h : RwI w lo ys rs) : ys.length = rs.length := h.1

set_option maxHeartbeats 3200000 in
theorem twith_any (V U : Value) (l : List Rw) (p : List UInt8) (vs : List (List UInt8)) (base : Nat) (w : World) (hV : Rws w V l) (hU : w.ownsRow base 9 1 U vs.length (strC vs)) (ol : okR l = true) (hl : l.length ≤ 100000) (hv : ∀ r ∈ l, r.2.length ≤ 100000) (hvs : vs.length ≤ 1000000) (hbs : base ≤ w.heap.size) :
    Calls Tryz.prog 39 #[V, .string (mkB p), U] w fun e w' => ∃ v ys, e = .returned v ∧ w'.ownsRow w.heap.size 58 2 v (rwWith l p vs).length (rwC (rwWith l p vs) ys) ∧ RwI w' base ys (rwWith l p vs) ∧ (∀ j, j < (rwWith l p vs).length → ∀ b, (ys.getD j undef).ownBlock = some b → w.heap.size ≤ b ∨ U.ownBlock = some b) ∧ Below w.heap.size w w' := by
  obtain ⟨a, c, rfl, h1, h2, -, -⟩ := hV.ex
  unfold maxLen at h2
  obtain ⟨au, cu, rfl, -⟩ := stsO hU
  obtain ⟨n, hn⟩ : ∃ n, l.length = n := ⟨_, rfl⟩
  obtain ⟨m, hm⟩ : ∃ m, vs.length = m := ⟨_, rfl⟩
  have ks := fun w h => seek16_any a n c l p w h ol (by omega)
  have hcut := fun i (h : FindP l p i i) (hi : i ≤ n) => with_cut (l := l) (p := p) (i := i) vs (by omega) ol h
  rw [hn] at hl h1 hV ⊢
  rw [hm] at hvs hU ⊢
  have SV := Lib.hid hV; have SU := Lib.hid hU; have HN := Lib.hid hn; have HM := Lib.hid hm; have HV := Lib.hid hv; have KS := Lib.hid ks; have HCUT := Lib.hid hcut; have HBS := Lib.hid hbs
  clear hV hU hn hm hv ks hcut ol hbs
  go_enter Tryz.func39, Tryz.ntmps39
  go_upto_region 2 with (go_at_call 52; refine (KS.out _ SV.out).mono ?_; rintro e w1 ⟨⟨i, rfl, hi, hI⟩, hb1⟩; have HI := Lib.hid hI; have B := Lib.hid hb1; clear hb1 hI KS)
  have hV1 := SV.out
  obtain ⟨A0, hA0, hN0⟩ := hV1.back hi
  obtain ⟨A2, hA2, hN2⟩ := hV1.front hi
  have HA2 := Lib.hid hN2
  have hs0 : ∀ w, (Instr.sliceAt 22 (.slice a n c) (some (.int .i64 (i : Int))) none none).run Tryz.prog w = .ok (.slice A0 (n - i) (c - i)) w := fun w => by have h := rw_back w a n c i hi h1; rw [hA0] at h; exact h
  have hs2 : ∀ w, (Instr.sliceAt 22 (.slice a n c) none (some (.int .i64 (i : Int))) none).run Tryz.prog w = .ok (.slice A2 i c) w := fun w => by have h := rw_front w a n c i (by omega); rw [hA2] at h; exact h
  clear hA2 hN2
  by_cases hm0 : m = 0
  · cases hf : foundP l p i with
    | false =>
      have hN1 := hN0
      have hcut := HCUT.out i HI.out (by omega)
      rw [hf] at hcut
      simp only [Bool.false_eq_true, if_false] at hcut
      have HX := Lib.hid hcut; have HA1 := Lib.hid hN1
      clear hcut hN1 hN0 hA0 hf
      have ko := fun w h => town_any (.slice A2 i c) (l.take i) w h (by rw [List.length_take]; have := HN.out; omega) (fun r hr => HV.out r (List.mem_of_mem_take hr))
      have kr := fun w h => town_any (.slice A0 (n - (i)) (c - (i))) (l.drop (i)) w h (by rw [List.length_drop]; have := HN.out; omega) (fun r hr => HV.out r (List.mem_of_mem_drop hr))
      have hfl : (l.take i).length = i := by rw [List.length_take, HN.out]; omega
      have hrl : (l.drop (i)).length = n - (i) := by rw [List.length_drop, HN.out]
      obtain ⟨T1, hT1⟩ : ∃ T, l.take i = T := ⟨_, rfl⟩
      obtain ⟨T2, hT2⟩ : ∃ T, l.drop (i) = T := ⟨_, rfl⟩
      obtain ⟨n2, hn2⟩ : ∃ m, n - (i) = m := ⟨_, rfl⟩
      have hm2 : n2 ≤ 100000 := by omega
      obtain ⟨c2, hc2⟩ : ∃ m, c - (i) = m := ⟨_, rfl⟩
      rw [hT1] at ko hfl
      rw [hT2, hn2, hc2] at kr
      rw [hT2, hn2] at hrl
      have S1 := Lib.hid (show ∀ w', Rws w' (.slice a n c) l → Rws w' (.slice A2 i c) T1 from by rw [← hT1]; exact HA2.out)
      have S2 := Lib.hid (show ∀ w', Rws w' (.slice a n c) l → Rws w' (.slice A0 n2 c2) T2 from by rw [← hT2, ← hn2, ← hc2]; exact HA1.out)
      rw [hT1, hT2] at HX
      rw [hn2, hc2] at hs0
      have KO := Lib.hid ko; have KR := Lib.hid kr; have HFL := Lib.hid hfl; have HRL := Lib.hid hrl
      clear HA1 HA2 ko kr hfl hrl hT1 hT2 hn2 hc2 HCUT
      have hi2 : i ≤ 100000 := by omega
      go_upto_region 6 with (go_at_call 35; refine (KO.out _ (S1.out _ (SV.out.below B.out))).mono ?_; rintro e w2 ⟨v2, rfl, ho, hb2⟩; have B2 := Lib.hid (below_step B.out hb2); have HO := Lib.hid (ho.base B.out.size); have HU := Lib.hid (ownsRow_belowB SU.out B2.out); clear hb2 ho)
      obtain ⟨ys, hr1, hI1⟩ := HO.out
      rw [HFL.out] at hr1
      obtain ⟨a2, k2, rfl⟩ := own_form hr1
      have HR1 := Lib.hid hr1; have HK1 := Lib.hid (fun j hj b e => (hI1.2 j hj).lt b e |>.1); have HI1 := Lib.hid (hI1.base HBS.out)
      clear hr1 hI1 HO
      have hpos : ¬ (0 : Int) < (m : Int) := by have := HM.out; omega
      go_upto_region 8 with fail
      have HS2 := Lib.hid (S2.out _ (SV.out.below B2.out))
      go_wp2_with (first
        | (go_at_call 35; refine (KR.out _ HS2.out).mono ?_; rintro e w4 ⟨v4, rfl, ho4, hb4⟩; obtain ⟨zs, hr4, hI4⟩ := ho4; rw [HRL.out] at hr4; obtain ⟨a4, c4, rfl⟩ := own_form hr4; have HR5 := Lib.hid (ownsRow_belowB HR1.out hb4); have HI5 := Lib.hid (HI1.out.below hb4); have HR4 := Lib.hid hr4; have HK4 := Lib.hid (fun j hj b e => Nat.le_trans B2.out.size ((hI4.2 j hj).lt b e).1); have HI4 := Lib.hid (hI4.base (Nat.le_trans HBS.out B2.out.size)); have B4 := Lib.hid (below_step B2.out hb4); clear hb4 hr4 hI4)
        | (at_builtin; refine wpList_cat_rw rfl _ _ rfl w.heap.size (.slice a2 i k2) T1 ys (i) HI5.out.1 rfl HR5.out _ a4 n2 c4 T2 zs HRL.out HI4.out.1 rfl HR4.out HI4.out.slices (by omega) B4.out.size ?_; intro a5 c5 w5 h5 hg5 ht5; have HR6 := Lib.hid h5; have HI6 := Lib.hid ((HI5.out.app HI4.out).keep ht5); have B5 := Lib.hid (B4.out.grown hg5 B4.out.size (fun b e => (own_lt HR5.out e).1)); clear h5 hg5 ht5))
      go_ret
      have HXX := HX.out
      rw [if_pos (List.eq_nil_of_length_eq_zero (by have := HM.out; omega)), List.nil_append] at HXX
      rw [HXX]
      refine ⟨_, ys ++ zs, rfl, ?_, ?_, ?_, B5.out⟩
      · have e : (T1 ++ T2).length = i + n2 := by rw [List.length_append, HRL.out, HFL.out]
        rw [e]; exact HR6.out
      · exact HI6.out
      · intro j hj b e
        rw [gd_app HI5.out.1] at e
        by_cases hj2 : j < T1.length
        · rw [if_pos hj2] at e
          exact .inl (HK1.out j hj2 b e)
        · rw [if_neg hj2] at e
          rw [List.length_append] at hj
          exact .inl (HK4.out (j - T1.length) (by omega) b e)
    | true =>
      obtain ⟨A1, hA1, hN1⟩ := hV1.back (i := i + 1) (by have := HN.out; have := (found_eq hf).1; omega)
      have hin : (i : Int) + 1 ≤ (n : Int) := by have := HN.out; have := (found_eq hf).1; omega
      have hs1 : ∀ w, (Instr.sliceAt 22 (.slice a n c) (some (.int .i64 ((i : Int) + 1))) none none).run Tryz.prog w = .ok (.slice A1 (n - (i + 1)) (c - (i + 1))) w := fun w => by
        have h := rw_back w a n c (i + 1) (by omega) h1
        rw [hA1, show ((i + 1 : Nat) : Int) = (i : Int) + 1 by omega] at h
        exact h
      have hcut := HCUT.out i HI.out (by omega)
      rw [hf] at hcut
      simp only [if_pos] at hcut
      have HX := Lib.hid hcut; have HA1 := Lib.hid hN1
      clear hcut hN1 hN0 hA1 hA0 hf
      have ko := fun w h => town_any (.slice A2 i c) (l.take i) w h (by rw [List.length_take]; have := HN.out; omega) (fun r hr => HV.out r (List.mem_of_mem_take hr))
      have kr := fun w h => town_any (.slice A1 (n - (i + 1)) (c - (i + 1))) (l.drop (i + 1)) w h (by rw [List.length_drop]; have := HN.out; omega) (fun r hr => HV.out r (List.mem_of_mem_drop hr))
      have hfl : (l.take i).length = i := by rw [List.length_take, HN.out]; omega
      have hrl : (l.drop (i + 1)).length = n - (i + 1) := by rw [List.length_drop, HN.out]
      obtain ⟨T1, hT1⟩ : ∃ T, l.take i = T := ⟨_, rfl⟩
      obtain ⟨T2, hT2⟩ : ∃ T, l.drop (i + 1) = T := ⟨_, rfl⟩
      obtain ⟨n2, hn2⟩ : ∃ m, n - (i + 1) = m := ⟨_, rfl⟩
      have hm2 : n2 ≤ 100000 := by omega
      obtain ⟨c2, hc2⟩ : ∃ m, c - (i + 1) = m := ⟨_, rfl⟩
      rw [hT1] at ko hfl
      rw [hT2, hn2, hc2] at kr
      rw [hT2, hn2] at hrl
      have S1 := Lib.hid (show ∀ w', Rws w' (.slice a n c) l → Rws w' (.slice A2 i c) T1 from by rw [← hT1]; exact HA2.out)
      have S2 := Lib.hid (show ∀ w', Rws w' (.slice a n c) l → Rws w' (.slice A1 n2 c2) T2 from by rw [← hT2, ← hn2, ← hc2]; exact HA1.out)
      rw [hT1, hT2] at HX
      rw [hn2, hc2] at hs1
      have KO := Lib.hid ko; have KR := Lib.hid kr; have HFL := Lib.hid hfl; have HRL := Lib.hid hrl
      clear HA1 HA2 ko kr hfl hrl hT1 hT2 hn2 hc2 HCUT
      have hi2 : i ≤ 100000 := by omega
      go_upto_region 6 with (go_at_call 35; refine (KO.out _ (S1.out _ (SV.out.below B.out))).mono ?_; rintro e w2 ⟨v2, rfl, ho, hb2⟩; have B2 := Lib.hid (below_step B.out hb2); have HO := Lib.hid (ho.base B.out.size); have HU := Lib.hid (ownsRow_belowB SU.out B2.out); clear hb2 ho)
      obtain ⟨ys, hr1, hI1⟩ := HO.out
      rw [HFL.out] at hr1
      obtain ⟨a2, k2, rfl⟩ := own_form hr1
      have HR1 := Lib.hid hr1; have HK1 := Lib.hid (fun j hj b e => (hI1.2 j hj).lt b e |>.1); have HI1 := Lib.hid (hI1.base HBS.out)
      clear hr1 hI1 HO
      have hpos : ¬ (0 : Int) < (m : Int) := by have := HM.out; omega
      go_upto_region 8 with fail
      have HS2 := Lib.hid (S2.out _ (SV.out.below B2.out))
      go_wp2_with (first
        | (go_at_call 35; refine (KR.out _ HS2.out).mono ?_; rintro e w4 ⟨v4, rfl, ho4, hb4⟩; obtain ⟨zs, hr4, hI4⟩ := ho4; rw [HRL.out] at hr4; obtain ⟨a4, c4, rfl⟩ := own_form hr4; have HR5 := Lib.hid (ownsRow_belowB HR1.out hb4); have HI5 := Lib.hid (HI1.out.below hb4); have HR4 := Lib.hid hr4; have HK4 := Lib.hid (fun j hj b e => Nat.le_trans B2.out.size ((hI4.2 j hj).lt b e).1); have HI4 := Lib.hid (hI4.base (Nat.le_trans HBS.out B2.out.size)); have B4 := Lib.hid (below_step B2.out hb4); clear hb4 hr4 hI4)
        | (at_builtin; refine wpList_cat_rw rfl _ _ rfl w.heap.size (.slice a2 i k2) T1 ys (i) HI5.out.1 rfl HR5.out _ a4 n2 c4 T2 zs HRL.out HI4.out.1 rfl HR4.out HI4.out.slices (by omega) B4.out.size ?_; intro a5 c5 w5 h5 hg5 ht5; have HR6 := Lib.hid h5; have HI6 := Lib.hid ((HI5.out.app HI4.out).keep ht5); have B5 := Lib.hid (B4.out.grown hg5 B4.out.size (fun b e => (own_lt HR5.out e).1)); clear h5 hg5 ht5))
      go_ret
      have HXX := HX.out
      rw [if_pos (List.eq_nil_of_length_eq_zero (by have := HM.out; omega)), List.nil_append] at HXX
      rw [HXX]
      refine ⟨_, ys ++ zs, rfl, ?_, ?_, ?_, B5.out⟩
      · have e : (T1 ++ T2).length = i + n2 := by rw [List.length_append, HRL.out, HFL.out]
        rw [e]; exact HR6.out
      · exact HI6.out
      · intro j hj b e
        rw [gd_app HI5.out.1] at e
        by_cases hj2 : j < T1.length
        · rw [if_pos hj2] at e
          exact .inl (HK1.out j hj2 b e)
        · rw [if_neg hj2] at e
          rw [List.length_append] at hj
          exact .inl (HK4.out (j - T1.length) (by omega) b e)
  · cases hf : foundP l p i with
    | false =>
      have hN1 := hN0
      have hcut := HCUT.out i HI.out (by omega)
      rw [hf] at hcut
      simp only [Bool.false_eq_true, if_false] at hcut
      have HX := Lib.hid hcut; have HA1 := Lib.hid hN1
      clear hcut hN1 hN0 hA0 hf
      have ko := fun w h => town_any (.slice A2 i c) (l.take i) w h (by rw [List.length_take]; have := HN.out; omega) (fun r hr => HV.out r (List.mem_of_mem_take hr))
      have kr := fun w h => town_any (.slice A0 (n - (i)) (c - (i))) (l.drop (i)) w h (by rw [List.length_drop]; have := HN.out; omega) (fun r hr => HV.out r (List.mem_of_mem_drop hr))
      have hfl : (l.take i).length = i := by rw [List.length_take, HN.out]; omega
      have hrl : (l.drop (i)).length = n - (i) := by rw [List.length_drop, HN.out]
      obtain ⟨T1, hT1⟩ : ∃ T, l.take i = T := ⟨_, rfl⟩
      obtain ⟨T2, hT2⟩ : ∃ T, l.drop (i) = T := ⟨_, rfl⟩
      obtain ⟨n2, hn2⟩ : ∃ m, n - (i) = m := ⟨_, rfl⟩
      have hm2 : n2 ≤ 100000 := by omega
      obtain ⟨c2, hc2⟩ : ∃ m, c - (i) = m := ⟨_, rfl⟩
      rw [hT1] at ko hfl
      rw [hT2, hn2, hc2] at kr
      rw [hT2, hn2] at hrl
      have S1 := Lib.hid (show ∀ w', Rws w' (.slice a n c) l → Rws w' (.slice A2 i c) T1 from by rw [← hT1]; exact HA2.out)
      have S2 := Lib.hid (show ∀ w', Rws w' (.slice a n c) l → Rws w' (.slice A0 n2 c2) T2 from by rw [← hT2, ← hn2, ← hc2]; exact HA1.out)
      rw [hT1, hT2] at HX
      rw [hn2, hc2] at hs0
      have KO := Lib.hid ko; have KR := Lib.hid kr; have HFL := Lib.hid hfl; have HRL := Lib.hid hrl
      clear HA1 HA2 ko kr hfl hrl hT1 hT2 hn2 hc2 HCUT
      have hi2 : i ≤ 100000 := by omega
      go_upto_region 6 with (go_at_call 35; refine (KO.out _ (S1.out _ (SV.out.below B.out))).mono ?_; rintro e w2 ⟨v2, rfl, ho, hb2⟩; have B2 := Lib.hid (below_step B.out hb2); have HO := Lib.hid (ho.base B.out.size); have HU := Lib.hid (ownsRow_belowB SU.out B2.out); clear hb2 ho)
      obtain ⟨ys, hr1, hI1⟩ := HO.out
      rw [HFL.out] at hr1
      obtain ⟨a2, k2, rfl⟩ := own_form hr1
      have HR1 := Lib.hid hr1; have HK1 := Lib.hid (fun j hj b e => (hI1.2 j hj).lt b e |>.1); have HI1 := Lib.hid (hI1.base HBS.out)
      clear hr1 hI1 HO
      have hpos : (0 : Int) < (m : Int) := by have := HM.out; omega
      go_upto_region 8 with (at_builtin; refine wpList_push_rw rfl _ _ rfl w.heap.size (.slice a2 i k2) T1 ys i HFL.out HI1.out.1 rfl HR1.out (p, vs) (.slice au m cu) rfl _ rfl rfl (by omega) B2.out.size ?_; intro a3 c3 w3 h3 hg3 ht3; have HR3 := Lib.hid h3; have HI3 := Lib.hid ((HI1.out.keep ht3).snoc (r := (p, vs)) (y := .slice au m cu) (by rw [HM.out]; exact row_heap HU.out (fun b hb => by obtain ⟨cs, hc⟩ := own_block HU.out hb; exact ht3 b cs hc))); have B3 := Lib.hid (B2.out.grown hg3 B2.out.size (fun b e => (own_lt HR1.out e).1)); clear h3 hg3 ht3)
      have HS2 := Lib.hid (S2.out _ (SV.out.below B3.out))
      go_wp2_with (first
        | (go_at_call 35; refine (KR.out _ HS2.out).mono ?_; rintro e w4 ⟨v4, rfl, ho4, hb4⟩; obtain ⟨zs, hr4, hI4⟩ := ho4; rw [HRL.out] at hr4; obtain ⟨a4, c4, rfl⟩ := own_form hr4; have HR5 := Lib.hid (ownsRow_belowB HR3.out hb4); have HI5 := Lib.hid (HI3.out.below hb4); have HR4 := Lib.hid hr4; have HK4 := Lib.hid (fun j hj b e => Nat.le_trans B3.out.size ((hI4.2 j hj).lt b e).1); have HI4 := Lib.hid (hI4.base (Nat.le_trans HBS.out B3.out.size)); have B4 := Lib.hid (below_step B3.out hb4); clear hb4 hr4 hI4)
        | (at_builtin; refine wpList_cat_rw rfl _ _ rfl w.heap.size (.slice a3 (i + 1) c3) (T1 ++ [(p, vs)]) (ys ++ [Value.slice au m cu]) (i + 1) HI5.out.1 rfl HR5.out _ a4 n2 c4 T2 zs HRL.out HI4.out.1 rfl HR4.out HI4.out.slices (by omega) B4.out.size ?_; intro a5 c5 w5 h5 hg5 ht5; have HR6 := Lib.hid h5; have HI6 := Lib.hid ((HI5.out.app HI4.out).keep ht5); have B5 := Lib.hid (B4.out.grown hg5 B4.out.size (fun b e => (own_lt HR5.out e).1)); clear h5 hg5 ht5))
      go_ret
      have HXX := HX.out
      rw [if_neg (by intro e; have := HM.out; rw [e] at this; simp at this; omega), ← List.append_assoc] at HXX
      rw [HXX]
      refine ⟨_, (ys ++ [Value.slice au m cu]) ++ zs, rfl, ?_, ?_, ?_, B5.out⟩
      · have e : ((T1 ++ [(p, vs)]) ++ T2).length = i + 1 + n2 := by rw [List.length_append, List.length_append, HRL.out, HFL.out]; rfl
        rw [e]; exact HR6.out
      · exact HI6.out
      · intro j hj b e
        rw [gd_app HI5.out.1] at e
        by_cases hj2 : j < (T1 ++ [(p, vs)]).length
        · rw [if_pos hj2] at e
          rw [gd_snoc HI1.out.1 (by simpa using hj2)] at e
          by_cases hj3 : j = T1.length
          · rw [if_pos hj3] at e; exact .inr e
          · rw [if_neg hj3] at e; exact .inl (HK1.out j (by simp at hj2; omega) b e)
        · rw [if_neg hj2] at e
          rw [List.length_append] at hj
          exact .inl (HK4.out (j - (T1 ++ [(p, vs)]).length) (by omega) b e)
    | true =>
      obtain ⟨A1, hA1, hN1⟩ := hV1.back (i := i + 1) (by have := HN.out; have := (found_eq hf).1; omega)
      have hin : (i : Int) + 1 ≤ (n : Int) := by have := HN.out; have := (found_eq hf).1; omega
      have hs1 : ∀ w, (Instr.sliceAt 22 (.slice a n c) (some (.int .i64 ((i : Int) + 1))) none none).run Tryz.prog w = .ok (.slice A1 (n - (i + 1)) (c - (i + 1))) w := fun w => by
        have h := rw_back w a n c (i + 1) (by omega) h1
        rw [hA1, show ((i + 1 : Nat) : Int) = (i : Int) + 1 by omega] at h
        exact h
      have hcut := HCUT.out i HI.out (by omega)
      rw [hf] at hcut
      simp only [if_pos] at hcut
      have HX := Lib.hid hcut; have HA1 := Lib.hid hN1
      clear hcut hN1 hN0 hA1 hA0 hf
      have ko := fun w h => town_any (.slice A2 i c) (l.take i) w h (by rw [List.length_take]; have := HN.out; omega) (fun r hr => HV.out r (List.mem_of_mem_take hr))
      have kr := fun w h => town_any (.slice A1 (n - (i + 1)) (c - (i + 1))) (l.drop (i + 1)) w h (by rw [List.length_drop]; have := HN.out; omega) (fun r hr => HV.out r (List.mem_of_mem_drop hr))
      have hfl : (l.take i).length = i := by rw [List.length_take, HN.out]; omega
      have hrl : (l.drop (i + 1)).length = n - (i + 1) := by rw [List.length_drop, HN.out]
      obtain ⟨T1, hT1⟩ : ∃ T, l.take i = T := ⟨_, rfl⟩
      obtain ⟨T2, hT2⟩ : ∃ T, l.drop (i + 1) = T := ⟨_, rfl⟩
      obtain ⟨n2, hn2⟩ : ∃ m, n - (i + 1) = m := ⟨_, rfl⟩
      have hm2 : n2 ≤ 100000 := by omega
      obtain ⟨c2, hc2⟩ : ∃ m, c - (i + 1) = m := ⟨_, rfl⟩
      rw [hT1] at ko hfl
      rw [hT2, hn2, hc2] at kr
      rw [hT2, hn2] at hrl
      have S1 := Lib.hid (show ∀ w', Rws w' (.slice a n c) l → Rws w' (.slice A2 i c) T1 from by rw [← hT1]; exact HA2.out)
      have S2 := Lib.hid (show ∀ w', Rws w' (.slice a n c) l → Rws w' (.slice A1 n2 c2) T2 from by rw [← hT2, ← hn2, ← hc2]; exact HA1.out)
      rw [hT1, hT2] at HX
      rw [hn2, hc2] at hs1
      have KO := Lib.hid ko; have KR := Lib.hid kr; have HFL := Lib.hid hfl; have HRL := Lib.hid hrl
      clear HA1 HA2 ko kr hfl hrl hT1 hT2 hn2 hc2 HCUT
      have hi2 : i ≤ 100000 := by omega
      go_upto_region 6 with (go_at_call 35; refine (KO.out _ (S1.out _ (SV.out.below B.out))).mono ?_; rintro e w2 ⟨v2, rfl, ho, hb2⟩; have B2 := Lib.hid (below_step B.out hb2); have HO := Lib.hid (ho.base B.out.size); have HU := Lib.hid (ownsRow_belowB SU.out B2.out); clear hb2 ho)
      obtain ⟨ys, hr1, hI1⟩ := HO.out
      rw [HFL.out] at hr1
      obtain ⟨a2, k2, rfl⟩ := own_form hr1
      have HR1 := Lib.hid hr1; have HK1 := Lib.hid (fun j hj b e => (hI1.2 j hj).lt b e |>.1); have HI1 := Lib.hid (hI1.base HBS.out)
      clear hr1 hI1 HO
      have hpos : (0 : Int) < (m : Int) := by have := HM.out; omega
      go_upto_region 8 with (at_builtin; refine wpList_push_rw rfl _ _ rfl w.heap.size (.slice a2 i k2) T1 ys i HFL.out HI1.out.1 rfl HR1.out (p, vs) (.slice au m cu) rfl _ rfl rfl (by omega) B2.out.size ?_; intro a3 c3 w3 h3 hg3 ht3; have HR3 := Lib.hid h3; have HI3 := Lib.hid ((HI1.out.keep ht3).snoc (r := (p, vs)) (y := .slice au m cu) (by rw [HM.out]; exact row_heap HU.out (fun b hb => by obtain ⟨cs, hc⟩ := own_block HU.out hb; exact ht3 b cs hc))); have B3 := Lib.hid (B2.out.grown hg3 B2.out.size (fun b e => (own_lt HR1.out e).1)); clear h3 hg3 ht3)
      have HS2 := Lib.hid (S2.out _ (SV.out.below B3.out))
      go_wp2_with (first
        | (go_at_call 35; refine (KR.out _ HS2.out).mono ?_; rintro e w4 ⟨v4, rfl, ho4, hb4⟩; obtain ⟨zs, hr4, hI4⟩ := ho4; rw [HRL.out] at hr4; obtain ⟨a4, c4, rfl⟩ := own_form hr4; have HR5 := Lib.hid (ownsRow_belowB HR3.out hb4); have HI5 := Lib.hid (HI3.out.below hb4); have HR4 := Lib.hid hr4; have HK4 := Lib.hid (fun j hj b e => Nat.le_trans B3.out.size ((hI4.2 j hj).lt b e).1); have HI4 := Lib.hid (hI4.base (Nat.le_trans HBS.out B3.out.size)); have B4 := Lib.hid (below_step B3.out hb4); clear hb4 hr4 hI4)
        | (at_builtin; refine wpList_cat_rw rfl _ _ rfl w.heap.size (.slice a3 (i + 1) c3) (T1 ++ [(p, vs)]) (ys ++ [Value.slice au m cu]) (i + 1) HI5.out.1 rfl HR5.out _ a4 n2 c4 T2 zs HRL.out HI4.out.1 rfl HR4.out HI4.out.slices (by omega) B4.out.size ?_; intro a5 c5 w5 h5 hg5 ht5; have HR6 := Lib.hid h5; have HI6 := Lib.hid ((HI5.out.app HI4.out).keep ht5); have B5 := Lib.hid (B4.out.grown hg5 B4.out.size (fun b e => (own_lt HR5.out e).1)); clear h5 hg5 ht5))
      go_ret
      have HXX := HX.out
      rw [if_neg (by intro e; have := HM.out; rw [e] at this; simp at this; omega), ← List.append_assoc] at HXX
      rw [HXX]
      refine ⟨_, (ys ++ [Value.slice au m cu]) ++ zs, rfl, ?_, ?_, ?_, B5.out⟩
      · have e : ((T1 ++ [(p, vs)]) ++ T2).length = i + 1 + n2 := by rw [List.length_append, List.length_append, HRL.out, HFL.out]; rfl
        rw [e]; exact HR6.out
      · exact HI6.out
      · intro j hj b e
        rw [gd_app HI5.out.1] at e
        by_cases hj2 : j < (T1 ++ [(p, vs)]).length
        · rw [if_pos hj2] at e
          rw [gd_snoc HI1.out.1 (by simpa using hj2)] at e
          by_cases hj3 : j = T1.length
          · rw [if_pos hj3] at e; exact .inr e
          · rw [if_neg hj3] at e; exact .inl (HK1.out j (by simp at hj2; omega) b e)
        · rw [if_neg hj2] at e
          rw [List.length_append] at hj
          exact .inl (HK4.out (j - (T1 ++ [(p, vs)]).length) (by omega) b e)
end Go.Proofs.YtnngfcjfhhfafaaGreat
