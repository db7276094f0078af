/- Where edges lead, whence they come, and how many ends they have: of the program. -/
import Derived.Test.YtpbhngneciiaaaaEdgG
import Derived.Maps.OwnSet
import Derived.Sort.KeysCollected
namespace Go.Proofs.Ytpbhngneciiaaaa
open Go.RowKit Go.Maps
set_option maxRecDepth 100000

def nextK (l : List Ed) (f : Int) : Int := if mayE l f 0 then 0 else 1
def nextL (l : List Ed) (f : Int) : List Int := if mayE l f 0 then nextE l f else []
def backK (l : List Ed) (t : Int) : Int := if mayE l (-1) t then 0 else 1
def backL (l : List Ed) (t : Int) : List Int := if mayE l (-1) t then backE l t else []
def endsV (l : List Ed) : Int := if okE l then (endsE l : Int) else 0
theorem nextL_len (l : List Ed) (f : Int) : (nextL l f).length ≤ l.length := by
  unfold nextL; split
  · exact nextE_len l f
  · simp
theorem backL_len (l : List Ed) (t : Int) : (backL l t).length ≤ l.length := by
  unfold backL; split
  · exact backE_len l t
  · simp
abbrev intZ (l : List Int) : List Value := l.map (Value.int .i64)
theorem intZ_snoc (l : List Int) (z : Int) : intZ (l ++ [z]) = intZ l ++ [.int .i64 z] := by simp [intZ]
theorem intsZ {w : World} {base : Nat} {e : TypeId} {v : Value} {l : List Int} (h : w.ownsRow base e 1 v l.length (intZ l)) : ∃ a c, v = .slice a l.length c ∧ Ints w (.slice a l.length c) l := by
  have hst := Ints.owned h rfl
  obtain ⟨a, c, rfl, _⟩ := hst.ex
  exact ⟨a, c, rfl, hst⟩
theorem Ints.belowB {w w' : World} {v : Value} {zs : List Int} (h : Ints w v zs) (hb : Below w.heap.size w w') : Ints w' v zs := by
  obtain ⟨a, c, hv, h1, h2, hn, h3⟩ := h.ex
  refine ⟨a, c, hv, h1, h2, hn, fun hp => ?_⟩
  obtain ⟨b, off, ha, hlt, hc⟩ := h3 hp
  exact ⟨b, off, ha, Nat.lt_of_lt_of_le hlt hb.size, fun j hj => by rw [hb.cell (by exact hlt)]; exact hc j hj⟩

set_option maxHeartbeats 1600000 in
theorem next_any (V : Value) (l : List Ed) (z : Int) (w : World) (h : Eds w V l) (hl : l.length ≤ 1000000) :
    Calls Try.prog 11 #[V, .int .i64 z] w fun e w' => ∃ v, e = .returned (.tuple #[v, .int .i64 (nextK l z)]) ∧ w'.ownsRow w.heap.size 3 1 v (nextL l z).length (intZ (nextL l z)) ∧ Below w.heap.size w w' := by
  obtain ⟨a, c, rfl, -⟩ := h.ex
  have hmf := makef
  have kw := fun V g w h => wnext_any V l z g w h hl
  have km := fun V w h => pmay_any V l z 0 w h
  unfold nextL nextK
  obtain ⟨n, hn⟩ : ∃ n, l.length = n := ⟨_, rfl⟩
  rw [hn] at h hl ⊢
  have hF := List.length_filter_le (fun e : Ed => decide (e.1 = z)) l
  rw [hn] at hF
  obtain ⟨W, g, hW, hg, d1, hb⟩ := boxM w (.int .i64 z) 3
  have ST := Lib.hid (h.below hb); have B := Lib.hid hb; have HW := Lib.hid hW; have HG := Lib.hid hg
  clear h hb hW hg hn
  obtain ⟨o, ho⟩ : ∃ o, mayE l z 0 = o := ⟨_, rfl⟩
  rw [ho] at km ⊢
  cases o
  · simp only [Bool.false_eq_true, if_false]
    clear ho hF
    go_enter Try.func11, Try.ntmps11
    go_upto_region 1 with fail
    rw [HW.out, HG.out]
    go_wp2_with (go_at_call 27; refine (km _ _ ST.out).mono ?_; rintro e w1 ⟨rfl, hb1⟩; replace B := Lib.hid (below_step B.out hb1); clear hb1)
    go_ret2
    exact ⟨_, rfl, World.ownsRow_nil _ _ _ _, B.out⟩
  · simp only [if_true]
    have hM : nextE l z = (l.filter (fun e : Ed => decide (e.1 = z))).map (fun e : Ed => e.2.1) := rfl
    obtain ⟨M, hM0⟩ : ∃ M, nextE l z = M := ⟨_, rfl⟩
    rw [hM0] at hM ⊢
    obtain ⟨F, hf⟩ : ∃ F, l.filter (fun e : Ed => decide (e.1 = z)) = F := ⟨_, rfl⟩
    rw [hf] at kw hF hM
    obtain ⟨m, hm⟩ : ∃ m, F.length = m := ⟨_, rfl⟩
    rw [hm] at kw hF
    have HM := Lib.hid hm; have HMS := Lib.hid hM
    clear ho hM hM0 hf hm
    go_enter Try.func11, Try.ntmps11
    go_upto_region 1 with fail
    rw [HW.out, HG.out]
    go_wp2_with (first
      | (go_at_call 27; refine (km _ _ ST.out).mono ?_; rintro e w1 ⟨rfl, hb1⟩; replace ST := Lib.hid (ST.out.below hb1); replace d1 := cell_keep d1 hb1; replace B := Lib.hid (below_step B.out hb1); clear hb1 km)
      | (go_at_call 28; refine (kw _ _ _ ST.out d1).mono ?_; rintro e w2 ⟨v2, rfl, hown, hb2⟩; obtain ⟨a2, c2, rfl, hE2⟩ := edsO (by rw [HM.out]; exact hown); rw [HM.out] at hE2 ⊢; have SE := Lib.hid hE2; replace B := Lib.hid (below_step B.out hb2); clear hown hb2 hE2 kw))
    go_loopw [6, 17] (fun v i wr => ∃ k : Nat, k ≤ m ∧ i = .int .i64 k ∧ Hid (wr.ownsRow w2.heap.size 3 1 v k (intZ ((F.take k).map (fun e : Ed => e.2.1)))) ∧ Hid (Below w2.heap.size w2 wr)) (fun _ i _ => m - (intOf i).toNat)
    case atStart => exact ⟨0, Nat.zero_le _, rfl, Lib.hid (World.ownsRow_nil _ _ _ _), Lib.hid (Below.refl _ _)⟩
    case round =>
      obtain ⟨k, hk, rfl, HOWN, HB⟩ := hrel
      by_cases hlt : k < m
      · have hkl : k < F.length := by rw [HM.out]; exact hlt
        obtain ⟨b, off, rfl, -, hc0, hc1, hc2⟩ := (SE.out.below HB.out).at k hkl
        have htk := ed_take hkl
        obtain ⟨y, hy⟩ : ∃ y, y = F.getD k zE := ⟨_, rfl⟩
        rw [← hy] at hc0 hc1 hc2 htk
        obtain ⟨y1, y2, y3⟩ := y
        simp only at hc0 hc1 hc2
        have hs : (F.take (k + 1)).map (fun e : Ed => e.2.1) = (F.take k).map (fun e : Ed => e.2.1) ++ [y2] := by rw [htk, List.map_append]; rfl
        have HS := Lib.hid hs
        clear hy htk hs
        have hkb : (k : Int) < (m : Int) := by omega
        obtain ⟨X, hX⟩ : ∃ X, wr.alloc (.cells #[.int .i64 y1, .int .i64 y2, .int .i64 y3] 44) = X := ⟨_, rfl⟩
        have hbX : Below wr.heap.size wr X := by rw [← hX]; exact (Below.refl _ _).alloc (Nat.le_refl _) _
        obtain ⟨gx, hgx⟩ : ∃ gx, wr.heap.size = gx := ⟨_, rfl⟩
        have e0 : X.cell? ⟨gx, 0, none⟩ = some (.int .i64 y1) := by rw [← hX]; exact cell_new hgx.symm rfl
        have e1 : X.cell? ⟨gx, 1, none⟩ = some (.int .i64 y2) := by rw [← hX]; exact cell_new hgx.symm rfl
        have e2 : X.cell? ⟨gx, 2, none⟩ = some (.int .i64 y3) := by rw [← hX]; exact cell_new hgx.symm rfl
        replace HOWN := Lib.hid (ownsRow_belowB HOWN.out hbX)
        have HBX := Lib.hid (below_step HB.out hbX)
        have HX := Lib.hid hX; have HGX := Lib.hid hgx
        clear hX hgx hbX
        go_upto_region 7 with fail
        rw [HX.out, HGX.out]
        go_wp2_with (at_builtin; refine wpList_append_new rfl _ _ 27 rfl w2.heap.size 3 (.int .i64 0) 1 8 Try.underlying27 Try.info_int rfl (by decide) _ k _ rfl HOWN.out [.int .i64 y2] rfl rfl rfl (by omega) (by unfold maxLen; omega) HBX.out.size ?_; intro v3 w3 hown3 hb3; have HO3 := Lib.hid hown3; have HB3 := Lib.hid (HBX.out.trans hb3.toBelow); clear hown3 hb3)
        go_roundw
        case rel => exact ⟨k + 1, by omega, by go_num, Lib.hid (by rw [HS.out, intZ_snoc]; exact HO3.out), HB3⟩
        case measure => simp [intOf]; omega
      · go_wp2
        go_ret2
        have e : k = m := by omega
        subst e
        have h5 := HOWN.out
        rw [List.take_of_length_le (by rw [HM.out]; exact Nat.le_refl _), ← HMS.out] at h5
        have e6 : M.length = k := by rw [HMS.out, List.length_map, HM.out]
        rw [← e6] at h5
        exact ⟨_, rfl, row_base h5 B.out.size, below_step B.out HB.out⟩

set_option maxHeartbeats 1600000 in
theorem back_any (V : Value) (l : List Ed) (z : Int) (w : World) (h : Eds w V l) (hl : l.length ≤ 1000000) :
    Calls Try.prog 12 #[V, .int .i64 z] w fun e w' => ∃ v, e = .returned (.tuple #[v, .int .i64 (backK l z)]) ∧ w'.ownsRow w.heap.size 3 1 v (backL l z).length (intZ (backL l z)) ∧ Below w.heap.size w w' := by
  obtain ⟨a, c, rfl, -⟩ := h.ex
  have hmf := makef
  have kw := fun V g w h => wback_any V l z g w h hl
  have km := fun V w h => pmay_any V l (-1) z w h
  unfold backL backK
  obtain ⟨n, hn⟩ : ∃ n, l.length = n := ⟨_, rfl⟩
  rw [hn] at h hl ⊢
  have hF := List.length_filter_le (fun e : Ed => decide (e.2.1 = z)) l
  rw [hn] at hF
  obtain ⟨W, g, hW, hg, d1, hb⟩ := boxM w (.int .i64 z) 3
  have ST := Lib.hid (h.below hb); have B := Lib.hid hb; have HW := Lib.hid hW; have HG := Lib.hid hg
  clear h hb hW hg hn
  obtain ⟨o, ho⟩ : ∃ o, mayE l (-1) z = o := ⟨_, rfl⟩
  rw [ho] at km ⊢
  cases o
  · simp only [Bool.false_eq_true, if_false]
    clear ho hF
    go_enter Try.func12, Try.ntmps12
    go_upto_region 1 with fail
    rw [HW.out, HG.out]
    go_wp2_with (go_at_call 27; refine (km _ _ ST.out).mono ?_; rintro e w1 ⟨rfl, hb1⟩; replace B := Lib.hid (below_step B.out hb1); clear hb1)
    go_ret2
    exact ⟨_, rfl, World.ownsRow_nil _ _ _ _, B.out⟩
  · simp only [if_true]
    have hM : backE l z = (l.filter (fun e : Ed => decide (e.2.1 = z))).map (fun e : Ed => e.1) := rfl
    obtain ⟨M, hM0⟩ : ∃ M, backE l z = M := ⟨_, rfl⟩
    rw [hM0] at hM ⊢
    obtain ⟨F, hf⟩ : ∃ F, l.filter (fun e : Ed => decide (e.2.1 = z)) = F := ⟨_, rfl⟩
    rw [hf] at kw hF hM
    obtain ⟨m, hm⟩ : ∃ m, F.length = m := ⟨_, rfl⟩
    rw [hm] at kw hF
    have HM := Lib.hid hm; have HMS := Lib.hid hM
    clear ho hM hM0 hf hm
    go_enter Try.func12, Try.ntmps12
    go_upto_region 1 with fail
    rw [HW.out, HG.out]
    go_wp2_with (first
      | (go_at_call 27; refine (km _ _ ST.out).mono ?_; rintro e w1 ⟨rfl, hb1⟩; replace ST := Lib.hid (ST.out.below hb1); replace d1 := cell_keep d1 hb1; replace B := Lib.hid (below_step B.out hb1); clear hb1 km)
      | (go_at_call 28; refine (kw _ _ _ ST.out d1).mono ?_; rintro e w2 ⟨v2, rfl, hown, hb2⟩; obtain ⟨a2, c2, rfl, hE2⟩ := edsO (by rw [HM.out]; exact hown); rw [HM.out] at hE2 ⊢; have SE := Lib.hid hE2; replace B := Lib.hid (below_step B.out hb2); clear hown hb2 hE2 kw))
    go_loopw [6, 17] (fun v i wr => ∃ k : Nat, k ≤ m ∧ i = .int .i64 k ∧ Hid (wr.ownsRow w2.heap.size 3 1 v k (intZ ((F.take k).map (fun e : Ed => e.1)))) ∧ Hid (Below w2.heap.size w2 wr)) (fun _ i _ => m - (intOf i).toNat)
    case atStart => exact ⟨0, Nat.zero_le _, rfl, Lib.hid (World.ownsRow_nil _ _ _ _), Lib.hid (Below.refl _ _)⟩
    case round =>
      obtain ⟨k, hk, rfl, HOWN, HB⟩ := hrel
      by_cases hlt : k < m
      · have hkl : k < F.length := by rw [HM.out]; exact hlt
        obtain ⟨b, off, rfl, -, hc0, hc1, hc2⟩ := (SE.out.below HB.out).at k hkl
        have htk := ed_take hkl
        obtain ⟨y, hy⟩ : ∃ y, y = F.getD k zE := ⟨_, rfl⟩
        rw [← hy] at hc0 hc1 hc2 htk
        obtain ⟨y1, y2, y3⟩ := y
        simp only at hc0 hc1 hc2
        have hs : (F.take (k + 1)).map (fun e : Ed => e.1) = (F.take k).map (fun e : Ed => e.1) ++ [y1] := by rw [htk, List.map_append]; rfl
        have HS := Lib.hid hs
        clear hy htk hs
        have hkb : (k : Int) < (m : Int) := by omega
        obtain ⟨X, hX⟩ : ∃ X, wr.alloc (.cells #[.int .i64 y1, .int .i64 y2, .int .i64 y3] 44) = X := ⟨_, rfl⟩
        have hbX : Below wr.heap.size wr X := by rw [← hX]; exact (Below.refl _ _).alloc (Nat.le_refl _) _
        obtain ⟨gx, hgx⟩ : ∃ gx, wr.heap.size = gx := ⟨_, rfl⟩
        have e0 : X.cell? ⟨gx, 0, none⟩ = some (.int .i64 y1) := by rw [← hX]; exact cell_new hgx.symm rfl
        have e1 : X.cell? ⟨gx, 1, none⟩ = some (.int .i64 y2) := by rw [← hX]; exact cell_new hgx.symm rfl
        have e2 : X.cell? ⟨gx, 2, none⟩ = some (.int .i64 y3) := by rw [← hX]; exact cell_new hgx.symm rfl
        replace HOWN := Lib.hid (ownsRow_belowB HOWN.out hbX)
        have HBX := Lib.hid (below_step HB.out hbX)
        have HX := Lib.hid hX; have HGX := Lib.hid hgx
        clear hX hgx hbX
        go_upto_region 7 with fail
        rw [HX.out, HGX.out]
        go_wp2_with (at_builtin; refine wpList_append_new rfl _ _ 27 rfl w2.heap.size 3 (.int .i64 0) 1 8 Try.underlying27 Try.info_int rfl (by decide) _ k _ rfl HOWN.out [.int .i64 y1] rfl rfl rfl (by omega) (by unfold maxLen; omega) HBX.out.size ?_; intro v3 w3 hown3 hb3; have HO3 := Lib.hid hown3; have HB3 := Lib.hid (HBX.out.trans hb3.toBelow); clear hown3 hb3)
        go_roundw
        case rel => exact ⟨k + 1, by omega, by go_num, Lib.hid (by rw [HS.out, intZ_snoc]; exact HO3.out), HB3⟩
        case measure => simp [intOf]; omega
      · go_wp2
        go_ret2
        have e : k = m := by omega
        subst e
        have h5 := HOWN.out
        rw [List.take_of_length_le (by rw [HM.out]; exact Nat.le_refl _), ← HMS.out] at h5
        have e6 : M.length = k := by rw [HMS.out, List.length_map, HM.out]
        rw [← e6] at h5
        exact ⟨_, rfl, row_base h5 B.out.size, below_step B.out HB.out⟩


/-! ### A map whose keys are numbers -/
theorem int_key : Keyed Try.prog 3 := int_keyed Try.underlying3
theorem wf_fit {z : Int} (h : fitI z) : (Lit.int .i64 z).wf = true := WalkArith.wf_i64 h
theorem keyz {z : Int} (h : fitI z) : keyOf Try.prog 3 (.int .i64 z) = some (.int .i64 z) := by simp [keyOf, mapKey, Try.underlying3, wf_fit h]
/-- Block b is a map of at most nn entries whose keys are the numbers of S, no one twice. -/
structure ZMap (w : World) (b nn : Nat) (S : List Int) : Prop where
  nodup : S.Nodup
  ex : ∃ D : DataW Unit, w.ownsMap Try.prog 3 unitElem b nn D ∧ Maps.size D = S.length ∧ ∀ z : Int, fitI z → has D (.int .i64 z) = decide (z ∈ S)
theorem ZMap.made (w : World) : ZMap (w.alloc (.map #[] 0)) w.heap.size 0 [] :=
  ⟨List.nodup_nil, _, World.ownsMap_made w _ _ _, rfl, fun z _ => by simp [has]⟩
theorem ZMap.lt {w : World} {b nn : Nat} {S : List Int} (h : ZMap w b nn S) : b < w.heap.size := by obtain ⟨_, D, ho, _⟩ := h; exact ho.lt
theorem ZMap.below {w w' : World} {b nn : Nat} {S : List Int} (h : ZMap w b nn S) (hb : Below w.heap.size w w') : ZMap w' b nn S := by
  have hlt := h.lt
  obtain ⟨hf, D, ⟨es, clock, he, rest⟩, hD⟩ := h
  exact ⟨hf, D, ⟨es, clock, (hb.block b hlt).trans he, rest⟩, hD⟩
theorem keyz_lit {z : Int} (h : fitI z) : WideAt.IsKeyLit (.int .i64 z) := int_key.key (keyz h)
theorem zmap_put {w' : World} {b nn : Nat} {S : List Int} {D : DataW Unit} (hn : S.Nodup) (ht : Tidy D) (hs : Maps.size D = S.length) (hD : ∀ z : Int, fitI z → has D (.int .i64 z) = decide (z ∈ S)) {x : Int} (hx : fitI x)
    (ho : w'.ownsMap Try.prog 3 unitElem b nn (D.put (.int .i64 x) (.agg []))) : ZMap w' b nn (addI S x) := by
  refine ⟨addI_nodup hn x, _, ho, ?_, fun z hz => ?_⟩
  · rw [size_put ht, hD x hx, hs]
    unfold addI
    by_cases h : x ∈ S <;> simp [h]
  · have hm := addI_mem S x z
    by_cases e : z = x
    · subst e
      rw [has_put_same ht.isMap (keyz_lit hx), eq_comm, decide_eq_true_eq, hm]; exact .inr rfl
    · have hne : (Lit.int .i64 z) ≠ .int .i64 x := fun h => by injection h with _ h2; exact e h2
      rw [has_put_other hne, hD z hz]
      exact decide_eq_decide.2 (by rw [hm]; simp [e])
theorem zmap_del {w' : World} {b nn : Nat} {S : List Int} {D : DataW Unit} (hn : S.Nodup) (ht : Tidy D) (hs : Maps.size D = S.length) (hD : ∀ z : Int, fitI z → has D (.int .i64 z) = decide (z ∈ S)) {x : Int} (hx : fitI x)
    (ho : w'.ownsMap Try.prog 3 unitElem b nn (D.del (.int .i64 x))) : ZMap w' b nn (S.erase x) := by
  refine ⟨hn.erase x, _, ho, ?_, fun z hz => ?_⟩
  · have h1 := size_del ht (k := .int .i64 x)
    rw [hD x hx, hs] at h1
    rw [List.length_erase]
    by_cases h : x ∈ S <;> simp [h] at h1 ⊢ <;> omega
  · have hm := hn.mem_erase_iff (a := z) (b := x)
    by_cases e : z = x
    · subst e
      rw [has_del_same, eq_comm, decide_eq_false_iff_not, hm]; simp
    · have hne : (Lit.int .i64 z) ≠ .int .i64 x := fun h => by injection h with _ h2; exact e h2
      rw [has_del_other hne, hD z hz]
      exact decide_eq_decide.2 (by rw [hm]; simp [e])
theorem make_zmap (w : World) : (Instr.makeMap 54 none).run Try.prog w = .ok (.map (some w.heap.size)) (w.alloc (.map #[] 0)) := by
  simp [Instr.makeMap, Result.andThen]
section
variable {wr : World} {ops : Array Oper} {rest : List Oper} {o : Oper} {a : Act} {Q : Exit → Act → World → Prop}
/-- 'm[z] = struct{}{}'. -/
theorem wpList_put_zmap (hgd : o.guard = none) (m x y : Operand) (ho : o.op = .mapUpdate 54 m x y) {b n : Nat} {S : List Int} (hm : a.eval m = .map (some b)) (h : ZMap wr b n S) {z : Int} (hz : fitI z) (hx : a.eval x = .int .i64 z) (hy : a.eval y = .agg #[]) (hn : n ≤ 3000000)
    (hK : ∀ w', ZMap w' b (n + 1) (addI S z) → wr.grownBy w' (some b) → wpList Try.prog ops Q rest (a.put o.dst undef) w') : wpList Try.prog ops Q (o :: rest) a wr := by
  obtain ⟨hnd, D, hown, hs, hD⟩ := h
  refine wpList_mapUpdate_own _ hgd m x y 54 ho 3 55 int_key Try.underlying54 unitElem b n D hm hown (by unfold maxLen; omega) _ _ (.int .i64 z) hx hy (keyz hz) (.agg []) [] unitElem_mk ?_
  intro w1 hown1 hgrow1
  exact hK w1 (zmap_put hnd (hown.tidy int_key) hs hD hz hown1) hgrow1
/-- 'delete(m, z)'. -/
theorem wpList_del_zmap (hgd : o.guard = none) (m x : Operand) (ho : o.op = .call { callee := .builtin .delete, args := #[m, x], argTypes := #[54, 3] }) {b n : Nat} {S : List Int} (hm : a.eval m = .map (some b)) (h : ZMap wr b n S) {z : Int} (hz : fitI z) (hx : a.eval x = .int .i64 z)
    (hK : ∀ w', ZMap w' b n (S.erase z) → wr.grownBy w' (some b) → wpList Try.prog ops Q rest (a.put o.dst (.tuple #[])) w') : wpList Try.prog ops Q (o :: rest) a wr := by
  obtain ⟨hnd, D, hown, hs, hD⟩ := h
  refine wpList_delete_own _ hgd m x 54 3 ho 55 int_key Try.underlying54 unitElem b n D hm hown _ (.int .i64 z) hx (keyz hz) ?_
  intro w1 hown1 hturn1
  exact hK w1 (zmap_del hnd (hown.tidy int_key) hs hD hz hown1) hturn1.grown
/-- 'len(m)'. -/
theorem wpList_len_zmap (hgd : o.guard = none) (m : Operand) (ho : o.op = .call { callee := .builtin .len, args := #[m], argTypes := #[54] }) {b n : Nat} {S : List Int} (hm : a.eval m = .map (some b)) (h : ZMap wr b n S)
    (hK : wpList Try.prog ops Q rest (a.put o.dst (.int .i64 (S.length : Int))) wr) : wpList Try.prog ops Q (o :: rest) a wr := by
  obtain ⟨hnd, D, hown, hs, hD⟩ := h
  refine wpList_len_own _ hgd m 54 ho 3 55 Try.underlying54 unitElem b n D hm hown ?_
  rw [hs]; exact hK
end

set_option maxHeartbeats 1600000 in
theorem ends_any (V : Value) (l : List Ed) (w : World) (h : Eds w V l) (hl : l.length ≤ 1000000) (hf : ∀ e ∈ l, fitE e) :
    Calls Try.prog 13 #[V] w fun e w' => e = .returned (.tuple #[.int .i64 (endsV l), .int .i64 (chkE l)]) ∧ Below w.heap.size w w' := by
  obtain ⟨a, c, rfl, -⟩ := h.ex
  have kc := fun V w h => check_any V l w h
  have hmm := make_zmap
  unfold endsV
  unfold chkE at kc ⊢
  obtain ⟨n, hn⟩ : ∃ n, l.length = n := ⟨_, rfl⟩
  rw [hn] at h hl ⊢
  have ST := Lib.hid h; have HN := Lib.hid hn; have HF := Lib.hid hf
  clear h hn hf
  obtain ⟨o, ho⟩ : ∃ o, okE l = o := ⟨_, rfl⟩
  rw [ho] at kc ⊢
  cases o
  · simp only [Bool.false_eq_true, if_false] at kc ⊢
    clear ho
    go_enter Try.func13, Try.ntmps13
    go_wp2_with (go_at_call 14; refine (kc _ _ ST.out).mono ?_; rintro e w1 ⟨rfl, hb1⟩; have B := Lib.hid hb1; clear hb1)
    go_ret2
    exact ⟨rfl, B.out⟩
  · simp only [if_true] at kc ⊢
    have hend := ends_set ho
    have HE := Lib.hid hend
    clear ho hend
    go_enter Try.func13, Try.ntmps13
    go_wp2_with (go_at_call 14; refine (kc _ _ ST.out).mono ?_; rintro e w1 ⟨rfl, hb1⟩; replace ST := Lib.hid (ST.out.below hb1); have B := Lib.hid hb1; clear hb1 kc)
    obtain ⟨W, hW⟩ : ∃ W, w1.alloc (.map #[] 0) = W := ⟨_, rfl⟩
    have M0 := Lib.hid (ZMap.made w1)
    have B0 := Lib.hid ((Below.refl w1.heap.size w1).alloc (Nat.le_refl _) (.map #[] 0))
    rw [hW] at M0 B0 ⊢
    obtain ⟨g, hg⟩ : ∃ g, w1.heap.size = g := ⟨_, rfl⟩
    have HG := Lib.hid hg
    rw [hg] at M0 B0 ⊢
    clear hW hg
    go_loopw [13] (fun i wr => ∃ k : Nat, k ≤ n ∧ i = .int .i64 k ∧ Hid (ZMap wr g (2 * k) (setE (l.take k))) ∧ Hid (Below g w1 wr)) (fun i _ => n - (intOf i).toNat)
    case atStart => exact ⟨0, Nat.zero_le _, rfl, M0, B0⟩
    case round =>
      obtain ⟨k, hk, rfl, HM, HB⟩ := hrel
      by_cases hlt : k < n
      · have hkl : k < l.length := by rw [HN.out]; exact hlt
        obtain ⟨b, off, rfl, -, hc0, hc1, hc2⟩ := (ST.out.below (by rw [HG.out]; exact HB.out)).at k hkl
        have htk := ed_take hkl
        have hfit := HF.out _ (ed_mem hkl)
        obtain ⟨y, hy⟩ : ∃ y, y = l.getD k zE := ⟨_, rfl⟩
        rw [← hy] at hc0 hc1 hc2 htk hfit
        obtain ⟨y1, y2, y3⟩ := y
        simp only at hc0 hc1 hc2
        have hs : setE (l.take (k + 1)) = addI (addI (setE (l.take k)) y1) y2 := by rw [htk, setE_snoc]
        have HS := Lib.hid hs; have HFIT := Lib.hid hfit
        clear hy htk hs hfit
        have hkb : (k : Int) < (n : Int) := by omega
        obtain ⟨X, gx, hX, hgx, e0, e1, e2, hbX⟩ := boxE1 wr (.int .i64 y1) (.int .i64 y2) (.int .i64 y3) 44
        have hgs : g ≤ wr.heap.size := by have := HB.out.size; rw [HG.out] at this; exact this
        have hgx2 : g ≠ gx := by have := HM.out.lt; omega
        replace HM := Lib.hid (HM.out.below hbX)
        have HBX := Lib.hid (HB.out.trans (hbX.mono hgs))
        have HX := Lib.hid hX; have HGX := Lib.hid hgx; have HGS := Lib.hid (Nat.le_trans hgs hbX.size); have HGN := Lib.hid hgx2
        clear hX hgx hbX hgs hgx2
        go_upto_region 7 with fail
        rw [HX.out, HGX.out]
        go_upto_region 8 with (at_mapUpdate; refine wpList_put_zmap rfl _ _ _ rfl rfl HM.out HFIT.out.1 rfl rfl (by omega) ?_; intro w3 hm3 hg3; have HM3 := Lib.hid hm3; have hb3 := (HBX.out.grown hg3 HGS.out (fun j e => by cases e; exact Nat.le_refl _)); have HB3 := Lib.hid hb3; replace e1 := grown_cell hg3 e1 (by simp only [ne_eq, Option.some.injEq]; exact HGN.out); have HGS3 := Lib.hid (Nat.le_trans HGS.out hg3.size); clear hm3 hg3 hb3 e0 e2)
        go_wp2_with (at_mapUpdate; refine wpList_put_zmap rfl _ _ _ rfl rfl HM3.out HFIT.out.2.1 rfl rfl (by omega) ?_; intro w4 hm4 hg4; have HM4 := Lib.hid hm4; have HB4 := Lib.hid (HB3.out.grown hg4 HGS3.out (fun j e => by cases e; exact Nat.le_refl _)); clear hm4 hg4 e1)
        go_roundw
        case rel => exact ⟨k + 1, by omega, by go_num, Lib.hid (by rw [HS.out]; exact HM4.out), HB4⟩
        case measure => simp [intOf]; omega
      · have e : k = n := by omega
        subst e
        have hM := HM.out
        rw [List.take_of_length_le (by rw [HN.out]; exact Nat.le_refl _)] at hM
        have hgs : g ≤ wr.heap.size := by have := HB.out.size; rw [HG.out] at this; exact this
        replace HM := Lib.hid hM
        have HGS := Lib.hid hgs
        have hB1 := below_step B.out (HB.out.mono (by rw [HG.out]; exact Nat.le_refl _))
        have HBW := Lib.hid hB1
        clear hM hgs hB1
        go_wp2_with (first
          | (at_delete; refine wpList_del_zmap rfl _ _ rfl rfl HM.out (z := -1) ⟨by decide, by decide⟩ rfl ?_; intro w5 hm5 hg5; have HM5 := Lib.hid hm5; have HB5 := Lib.hid (HBW.out.grown hg5 HBW.out.size (fun j e => by cases e; have := B.out.size; rw [← HG.out]; exact this)); clear hm5 hg5)
          | (at_len; refine wpList_len_zmap rfl _ rfl rfl HM5.out ?_; rw [HE.out]))
        go_ret2
        exact ⟨rfl, HB5.out⟩
end Go.Proofs.Ytpbhngneciiaaaa
