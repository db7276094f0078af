/- A node's text: of the program. -/
import Derived.Test.YtceefoiffkgliaaStoG
namespace Go.Proofs.Ytceefoiffkgliaa
open Go.RowKit
set_option linter.unusedVariables false
set_option maxRecDepth 100000

theorem find_spot {K : List Nd} {T : List (List UInt8)} {x : Nd} {i : Nat} (h : okS K T = true) (hi : i ≤ K.length) (hf : FindI K x i i) : Spot (K.zip T) x i := by
  have hz := okS_zip h
  have hl : (K.zip T).length = K.length := by
    have := congrArg List.length hz.1
    rwa [List.length_map] at this
  have hat : ∀ t (ht : t < (K.zip T).length), ((K.zip T)[t]).1 = K.getD t ([], []) := fun t ht => by
    rw [nd_getD (by omega)]; simp
  exact ⟨by rw [hl]; exact hi, fun t ht k => by rw [hat]; exact hf.low t k, fun t ht k => by rw [hat]; exact hf.high t k (by omega)⟩
theorem map_cut (S : Sto) (i j : Nat) (x : Nd × Txt) : (S.take i ++ [x] ++ S.drop j).map Prod.fst = (S.map Prod.fst).take i ++ [x.1] ++ (S.map Prod.fst).drop j ∧ (S.take i ++ [x] ++ S.drop j).map Prod.snd = (S.map Prod.snd).take i ++ [x.2] ++ (S.map Prod.snd).drop j := by
  simp [List.map_take, List.map_drop]
theorem map_cut0 (S : Sto) (i j : Nat) : (S.take i ++ S.drop j).map Prod.fst = (S.map Prod.fst).take i ++ [] ++ (S.map Prod.fst).drop j ∧ (S.take i ++ S.drop j).map Prod.snd = (S.map Prod.snd).take i ++ [] ++ (S.map Prod.snd).drop j := by
  simp [List.map_take, List.map_drop]
theorem putE_in {K : List Nd} {T : List (List UInt8)} {x : Nd} {t : List UInt8} {i : Nat} (h : okS K T = true) (hx : okN x = true) (hi : i ≤ K.length) (hf : FindI K x i i) (hm : hasN K x = true) : putE K T x t = (K.take i ++ [x] ++ K.drop (i + 1), T.take i ++ [t] ++ T.drop (i + 1), 0) := by
  obtain ⟨z1, z2, z3⟩ := okS_zip h
  have e := put_in (t := t) (find_spot h hi hf) z3 hx (by unfold hasP; rw [z1]; exact hm)
  unfold putE
  rw [h, hx, e, (map_cut _ i (i + 1) (x, t)).1, (map_cut _ i (i + 1) (x, t)).2, z1, z2]; rfl
theorem putE_out {K : List Nd} {T : List (List UInt8)} {x : Nd} {t : List UInt8} {i : Nat} (h : okS K T = true) (hx : okN x = true) (hi : i ≤ K.length) (hf : FindI K x i i) (hm : hasN K x = false) : putE K T x t = (K.take i ++ [x] ++ K.drop i, T.take i ++ [t] ++ T.drop i, 0) := by
  obtain ⟨z1, z2, z3⟩ := okS_zip h
  have e := put_out (t := t) (find_spot h hi hf) z3 hx (by unfold hasP; rw [z1]; exact hm)
  unfold putE
  rw [h, hx, e, (map_cut _ i i (x, t)).1, (map_cut _ i i (x, t)).2, z1, z2]; rfl
theorem dropE_in {K : List Nd} {T : List (List UInt8)} {x : Nd} {i : Nat} (h : okS K T = true) (hx : okN x = true) (hi : i ≤ K.length) (hf : FindI K x i i) (hm : hasN K x = true) : dropE K T x = (K.take i ++ [] ++ K.drop (i + 1), T.take i ++ [] ++ T.drop (i + 1), 0) := by
  obtain ⟨z1, z2, z3⟩ := okS_zip h
  have e := drop_in (find_spot h hi hf) z3 (by unfold hasP; rw [z1]; exact hm)
  unfold dropE
  rw [h, hx, hm, e, (map_cut0 _ i (i + 1)).1, (map_cut0 _ i (i + 1)).2, z1, z2]; rfl
theorem dropE_out {K : List Nd} {T : List (List UInt8)} {x : Nd} (h : okS K T = true) (hx : okN x = true) (hm : hasN K x = false) : dropE K T x = (K, T, 2) := by
  unfold dropE; rw [h, hx, hm]; rfl
theorem getE_in {K : List Nd} {T : List (List UInt8)} {x : Nd} {i : Nat} (h : okS K T = true) (hx : okN x = true) (hi : i ≤ K.length) (hf : FindI K x i i) (hm : hasN K x = true) : getE K T x = (T.getD i [], 0) ∧ i < T.length := by
  obtain ⟨z1, z2, z3⟩ := okS_zip h
  have hsp := find_spot h hi hf
  have hm2 : hasP (K.zip T) x = true := by unfold hasP; rw [z1]; exact hm
  have e := get_in hsp z3 hm2
  obtain ⟨hi2, -⟩ := hsp.at z3 hm2
  have hl : (K.zip T).length = T.length := by
    have := congrArg List.length z2
    rwa [List.length_map] at this
  unfold getE
  rw [h, hx, hm, e, z2]
  exact ⟨rfl, by omega⟩
theorem getE_out {K : List Nd} {T : List (List UInt8)} {x : Nd} (h : okS K T = true) (hx : okN x = true) (hm : hasN K x = false) : getE K T x = ([], 2) := by
  unfold getE; rw [h, hx, hm]; rfl
theorem boxS3 (w : World) (x y x' y' x'' y'' : Value) (t t' t'' : TypeId) : ∃ W g g' g'', ((w.alloc (.cells #[x, y] t)).alloc (.cells #[x', y'] t')).alloc (.cells #[x'', y''] t'') = W ∧ w.heap.size = g ∧ w.heap.size + 1 = g' ∧ w.heap.size + 1 + 1 = g'' ∧ W.heap[g]? = some (.cells #[x, y] t (0, 0)) ∧ W.heap[g']? = some (.cells #[x', y'] t' (0, 0)) ∧ W.heap[g'']? = some (.cells #[x'', y''] t'' (0, 0)) ∧ Below w.heap.size w W := by
  obtain ⟨W, g, g', h1, h2, h3, h4, h5, h6⟩ := boxS2 w x y x' y' t t'
  subst h2 h3
  refine ⟨_, _, _, _, rfl, rfl, rfl, rfl, ?_, ?_, ?_, ?_⟩
  · rw [h1]; exact row_keepB h4 ((Below.refl _ _).alloc (Nat.le_refl _) _)
  · rw [h1]; exact row_keepB h5 ((Below.refl _ _).alloc (Nat.le_refl _) _)
  · have := heap_alloc_new ((w.alloc (.cells #[x, y] t)).alloc (.cells #[x', y'] t')) (.cells #[x'', y''] t''); simpa using this
  · rw [h1]; exact h6.alloc h6.size _

set_option maxHeartbeats 1600000 in
theorem sget_any (A B : Option Addr) (n c m d : Nat) (K : List Nd) (T : List (List UInt8)) (p v : List UInt8) (w : World) (hk : Nds w (.slice A n c) K) (ht : Strs w (.slice B m d) T) (hs : ∀ n ∈ K, smallN n) (hn : smallN (p, v)) (hl : n ≤ 600000) :
    Calls Try.prog 10 #[.agg #[.slice A n c, .slice B m d], .agg #[.string (mkB p), .string (mkB v)]] w fun e w' => e = .returned (.tuple #[.string (mkB (getE K T (p, v)).1), .int .i64 (getE K T (p, v)).2]) ∧ Below w.heap.size w w' := by
  obtain ⟨W, g, g', hW, hg, hg', r0, r1, hb⟩ := boxS2 w (.slice A n c) (.slice B m d) (.string (mkB p)) (.string (mkB v)) 25 27
  obtain ⟨d0, d1, -, -⟩ := row2 r0
  obtain ⟨d2, d3, -, -⟩ := row2 r1
  obtain ⟨hK, -, -⟩ := hk.lenE
  obtain ⟨hT, hm1, hm2⟩ := ht.lenE
  unfold maxLen at hm2
  have SK := Lib.hid (hk.below hb); have ST := Lib.hid (ht.belowB hb); have HS := Lib.hid hs; have HN := Lib.hid hn; have HW := Lib.hid hW; have HG := Lib.hid hg; have HG' := Lib.hid hg'; have BB := Lib.hid hb; have HK := Lib.hid hK; have HT := Lib.hid hT
  clear hk ht hs hn hW hg hg' hb r0 r1 hK hT
  obtain ⟨x, hx⟩ : ∃ x, (okS K T && okN (p, v)) = x := ⟨_, rfl⟩
  cases x
  · rw [getE_no hx]
    have HX := Lib.hid hx; clear hx
    go_enter Try.func10, Try.ntmps10
    go_upto_region 1 with fail
    rw [HW.out, HG'.out, HG.out]
    go_wp2_with (go_at_call 25; refine (seek_no _ _ _ _ _ _ K T p v _ SK.out ST.out HS.out HN.out HX.out).mono ?_; rintro e w1 ⟨rfl, hb1⟩; replace BB := Lib.hid (below_step BB.out hb1); clear hb1)
    go_ret2
    exact ⟨rfl, BB.out⟩
  · rw [Bool.and_eq_true] at hx
    obtain ⟨f, hf⟩ : ∃ f, hasN K (p, v) = f := ⟨_, rfl⟩
    have hsk := fun w h1 h2 => seek_yes A B n c m d K T p v w h1 h2 HS.out HN.out hl hx.1 hx.2
    rw [hf] at hsk
    have HSK := Lib.hid hsk; have HX := Lib.hid hx; have HF := Lib.hid hf
    clear hx hsk hf
    cases f
    · rw [getE_out HX.out.1 HX.out.2 HF.out]
      go_enter Try.func10, Try.ntmps10
      go_upto_region 1 with fail
      rw [HW.out, HG'.out, HG.out]
      go_wp2_with (go_at_call 25; refine (HSK.out _ SK.out ST.out).mono ?_; rintro e w1 ⟨⟨i, rfl, -, -⟩, hb1⟩; replace BB := Lib.hid (below_step BB.out hb1); clear hb1)
      go_ret2
      exact ⟨rfl, BB.out⟩
    · obtain ⟨G, hG⟩ : ∃ G, getE K T (p, v) = G := ⟨_, rfl⟩
      rw [hG]
      have HG0 := Lib.hid hG; clear hG
      go_enter Try.func10, Try.ntmps10
      go_upto_region 1 with fail
      rw [HW.out, HG'.out, HG.out]
      go_upto_region 6 with (go_at_call 25; refine (HSK.out _ SK.out ST.out).mono ?_; rintro e w1 ⟨⟨i, rfl, hi, hI⟩, hb1⟩; have HI := Lib.hid hI; replace BB := Lib.hid (below_step BB.out hb1); replace ST := Lib.hid (ST.out.belowB hb1); replace d1 := cell_keep d1 hb1; clear hb1 hI)
      obtain ⟨hge, hit⟩ := getE_in HX.out.1 HX.out.2 (by rw [HK.out]; exact hi) HI.out HF.out
      obtain ⟨b, off, rfl, -, hc⟩ := strs_at ST.out i hit
      have him : i < m := by rw [← HT.out]; exact hit
      have himI : (i : Int) < (m : Int) := by omega
      rw [HG0.out] at hge
      subst hge
      obtain ⟨Y, hY⟩ : ∃ Y, T.getD i [] = Y := ⟨_, rfl⟩
      rw [hY] at hc
      have HY := Lib.hid hY
      clear hY hit HI
      go_wp2
      go_ret2
      exact ⟨by show _ = Ending.returned (.tuple #[.string (mkB (T.getD i [])), .int .i64 0]); rw [HY.out]; rfl, BB.out⟩
end Go.Proofs.Ytceefoiffkgliaa
