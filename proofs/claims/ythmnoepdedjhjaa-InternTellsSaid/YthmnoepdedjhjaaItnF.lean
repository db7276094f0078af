/- THE TEXTS OF ItnD ItnE ItnF: Nodes' numbers, told one by one: of the program (All). A node's number, given if it has none: of the program (Id). Numbers' nodes: of the program (At). -/
import Derived.Test.YthmnoepdedjhjaaItnK
import Derived.RegionTactic
import Derived.BigRegion
namespace Go.Proofs.Ythmnoepdedjhjaa
open Go.RowKit Go.Maps
set_option maxRecDepth 100000

/-- All nodes' numbers, and the names then, or why not. -/
def allM (l t : List Nd) : List Nat × List Nd × Int := if okM l && t.all okN then (idsM l t, namesM l t, 0) else ([], l, 1)
theorem allM_m {l : List Nd} (t : List Nd) (h : okM l = false) : allM l t = ([], l, 1) := by unfold allM; rw [h]; rfl
theorem allM_n {l t : List Nd} (h : t.all okN = false) : allM l t = ([], l, 1) := by unfold allM; rw [h, Bool.and_false]; rfl
theorem allM_yes {l t : List Nd} (h : okM l = true) (k : t.all okN = true) : allM l t = (idsM l t, namesM l t, 0) := by unfold allM; rw [h, k]; rfl
theorem boxMR (w : World) (x : Value) (t : TypeId) : ∃ W g r, (w.alloc (.cells #[x] t)).alloc (.cells #[.slice none 0 0] t) = W ∧ w.heap.size = g ∧ w.heap.size + 1 = r ∧ W.heap.size = r + 1 ∧ W.cell? ⟨g, 0, none⟩ = some x ∧ W.heap[r]? = some (.cells #[.slice none 0 0] t (0, 0)) ∧ Below w.heap.size w W :=
  ⟨_, _, _, rfl, rfl, rfl, by simp, cell_alloc (cell_new rfl rfl) _, by have := heap_alloc_new (w.alloc (.cells #[x] t)) (.cells #[.slice none 0 0] t); simpa using this, ((Below.refl _ _).alloc (Nat.le_refl _) _).alloc (by simp) _⟩
/-- Three blocks of the call's own lie apart: the names' row, the numbers' row, the map. -/
structure Apart3 (x y : Option Nat) (b : Nat) : Prop where
  xy : ∀ k, x = some k → y ≠ some k
  xb : x ≠ some b
  yb : y ≠ some b
theorem Apart3.x {x y x' : Option Nat} {b N : Nat} (h : Apart3 x y b) (hx : x' = x ∨ x' = some (N + 1)) (hy : ∀ k, y = some k → k < N) (hb : b < N) : Apart3 x' y b := by
  rcases hx with rfl | rfl
  · exact h
  · exact ⟨fun k e e2 => by cases e; have := hy _ e2; omega, fun e => by injection e; omega, h.yb⟩
theorem Apart3.y {x y y' : Option Nat} {b N : Nat} (h : Apart3 x y b) (hy : y' = y ∨ y' = some (N + 1)) (hx : ∀ k, x = some k → k < N) (hb : b < N) : Apart3 x y' b := by
  rcases hy with rfl | rfl
  · exact h
  · exact ⟨fun k e e2 => by cases e2; have := hx _ e; omega, h.xb, fun e => by injection e; omega⟩

theorem IMap.mono {w : World} {b nn nn' : Nat} {K : List Nd} (h : IMap w b nn K) (hn : nn ≤ nn') : IMap w b nn' K := by
  obtain ⟨hf, D, ho, hD⟩ := h
  exact ⟨hf, D, ho.mono hn, hD⟩
/-- What All has on its way: the names' row, the numbers' row, and the map, apart. -/
structure AllSt (W0 : World) (b nn : Nat) (vN : Value) (kk : Nat) (K : List Nd) (vI : Value) (k : Nat) (I : List Nat) (KM : List Nd) (wr : World) : Prop where
  rn : wr.ownsRow W0.heap.size 26 2 vN kk (ndsC K)
  ri : wr.ownsRow W0.heap.size 3 1 vI k (intC I)
  mp : IMap wr b nn KM
  ap : Apart3 vN.ownBlock vI.ownBlock b
  bw : Below W0.heap.size W0 wr
  bb : W0.heap.size ≤ b
section
variable {W0 wr w' : World} {b nn kk k : Nat} {vN vI : Value} {K KM : List Nd} {I : List Nat}
theorem AllSt.alloc (h : AllSt W0 b nn vN kk K vI k I KM wr) (o : Obj) : AllSt W0 b nn vN kk K vI k I KM (wr.alloc o) :=
  ⟨h.rn.alloc o, h.ri.alloc o, h.mp.alloc o, h.ap, h.bw.alloc h.bw.size o, h.bb⟩
theorem AllSt.base (h : AllSt W0 b nn vN kk K vI k I KM wr) : W0.heap.size ≤ wr.heap.size := h.bw.size
theorem AllSt.put (h : AllSt W0 b nn vN kk K vI k I KM wr) {KM' : List Nd} {nn' : Nat} (hm : IMap w' b nn' KM') (hg : wr.grownBy w' (some b)) : AllSt W0 b nn' vN kk K vI k I KM' w' :=
  ⟨row_keptB h.rn hg (fun x e e2 => h.ap.xb (e.trans e2.symm)), row_keptB h.ri hg (fun x e e2 => h.ap.yb (e.trans e2.symm)), hm, h.ap, h.bw.grown hg h.bw.size (fun j e => by cases e; exact h.bb), h.bb⟩
theorem AllSt.pushN (h : AllSt W0 b nn vN kk K vI k I KM wr) {v' : Value} {kk' : Nat} {K' : List Nd} (hr : w'.ownsRow W0.heap.size 26 2 v' kk' (ndsC K')) (hg : wr.grownBy w' vN.ownBlock) (hl : v'.ownBlock = vN.ownBlock ∨ v'.ownBlock = some (wr.heap.size + 1)) :
    AllSt W0 b nn v' kk' K' vI k I KM w' :=
  ⟨hr, row_keptB h.ri hg (fun x e e2 => h.ap.xy x e2 e), h.mp.kept hg (fun e => h.ap.xb e.symm), h.ap.x hl (fun _ e => (own_lt h.ri e).2) h.mp.lt, h.bw.grown hg h.bw.size (fun _ e => (own_lt h.rn e).1), h.bb⟩
theorem AllSt.pushI (h : AllSt W0 b nn vN kk K vI k I KM wr) {v' : Value} {k' : Nat} {I' : List Nat} (hr : w'.ownsRow W0.heap.size 3 1 v' k' (intC I')) (hg : wr.grownBy w' vI.ownBlock) (hl : v'.ownBlock = vI.ownBlock ∨ v'.ownBlock = some (wr.heap.size + 1)) :
    AllSt W0 b nn vN kk K v' k' I' KM w' :=
  ⟨row_keptB h.rn hg (fun x e e2 => h.ap.xy x e e2), hr, h.mp.kept hg (fun e => h.ap.yb e.symm), h.ap.y hl (fun _ e => (own_lt h.rn e).2) h.mp.lt, h.bw.grown hg h.bw.size (fun _ e => (own_lt h.ri e).1), h.bb⟩
theorem AllSt.mono (h : AllSt W0 b nn vN kk K vI k I KM wr) {nn' : Nat} (hn : nn ≤ nn') : AllSt W0 b nn' vN kk K vI k I KM wr := ⟨h.rn, h.ri, h.mp.mono hn, h.ap, h.bw, h.bb⟩
end

set_option maxHeartbeats 3200000 in
theorem iall_any (V U : Value) (L l : List Nd) (w : World) (h : Nds w V L) (hl : Nds w U l) (hs : ∀ n ∈ L, smallN n) (hsl : ∀ n ∈ l, smallN n) (hlen : L.length ≤ 100000) (hlen2 : l.length ≤ 100000) :
    Calls Try.prog 22 #[.agg #[V], U] w fun e w' => ∃ vi vn, e = .returned (.tuple #[vi, .agg #[vn], .int .i64 (allM L l).2.2]) ∧ w'.ownsRow w.heap.size 3 1 vi (allM L l).1.length (intC (allM L l).1) ∧ w'.ownsRow w.heap.size 26 2 vn (allM L l).2.1.length (ndsC (allM L l).2.1) ∧ Below w.heap.size w w' := by
  obtain ⟨a, c, rfl, h1, h2, -, -⟩ := h.ex
  obtain ⟨a', c', rfl, h1', h2', -, -⟩ := hl.ex
  unfold maxLen at h2 h2'
  obtain ⟨n, hn⟩ : ∃ n, L.length = n := ⟨_, rfl⟩
  obtain ⟨m, hm⟩ : ∃ m, l.length = m := ⟨_, rfl⟩
  rw [hn] at h1 h hlen ⊢
  rw [hm] at h1' hl hlen2 ⊢
  obtain ⟨W, g, r, hW, hg, hr, hsz, d0, hrow, hb⟩ := boxMR w (.slice a n c) 24
  have SL := Lib.hid (h.below hb); have ST := Lib.hid (hl.below hb); have SM := Lib.hid hs; have SMT := Lib.hid hsl; have SF := Lib.hid (fits_small hs); have SFT := Lib.hid (fits_small hsl); have HN := Lib.hid hn; have HM := Lib.hid hm; have HW := Lib.hid hW; have HG := Lib.hid hg; have HR := Lib.hid hr; have HSZ := Lib.hid hsz; have B := Lib.hid hb; have HROW := Lib.hid hrow
  clear h hl hs hsl hn hm hW hg hr hb hsz hrow
  have k1 := fun U w h => icheck_any U L w h SM.out
  have k2 := fun U w h => imay_any U l w h SMT.out
  have k3 := fun U w h => inumbers_any U L w h SF.out
  obtain ⟨F1, F2, F3, hF⟩ : ∃ F1 F2 F3, allM L l = (F1, F2, F3) := ⟨_, _, _, rfl⟩
  rw [hF]
  obtain ⟨om, hom⟩ : ∃ o, okM L = o := ⟨_, rfl⟩
  obtain ⟨on, hon⟩ : ∃ o, l.all okN = o := ⟨_, rfl⟩
  rw [chkM_of hom] at k1
  rw [hon] at k2
  rw [HN.out] at k3
  have HF := Lib.hid hF; have HOM := Lib.hid hom; have HON := Lib.hid hon
  clear hF hom hon
  go_enter Try.func22, Try.ntmps22
  go_upto_region 1 with fail
  change Code.wp _ _ _ _ ((w.alloc (.cells #[.slice a n c] 24)).alloc (.cells #[.slice none 0 0] 24))
  rw [HW.out, HR.out, HG.out]
  go_upto_region 2 with (at_builtin; refine wpList_append_src rfl _ _ 22 rfl W.heap.size 26 (.agg #[.string ByteArray.empty, .string ByteArray.empty]) 2 32 Try.underlying22 Try.info_node rfl (by decide) (.slice none 0 0) 0 [] rfl (World.ownsRow_nil _ _ _ _) a n c (ndsC L) rfl (by rw [ndsC_len, HN.out]) SL.out.nil SL.out.src (ndsC_one L) (by omega) (by unfold maxLen; omega) (Nat.le_refl _) ?_; intro v1 w1 hown1 hbl1; have hb1 := hbl1.toBelow; clear hbl1)
  rw [List.nil_append, Nat.zero_add] at hown1
  obtain ⟨a1, c1, rfl, -⟩ := ndsO (by rw [HN.out]; exact hown1)
  rw [HN.out] at hown1 ⊢
  have HOWN := Lib.hid hown1
  have BW := Lib.hid hb1
  have ST0 := ST
  replace ST := Lib.hid (ST.out.below hb1)
  replace SL := Lib.hid (SL.out.below hb1)
  replace d0 := cell_keep d0 hb1
  clear hown1 hb1
  cases om
  · simp only [Bool.false_eq_true, if_false] at k1
    have hF := HF.out
    rw [allM_m _ HOM.out] at hF
    replace HF := Lib.hid hF; clear hF k2 k3
    go_wp2_with (first
      | (go_at_call 13; refine (k1 _ _ SL.out).mono ?_; rintro e w2 ⟨rfl, hb2⟩; replace HOWN := Lib.hid (ownsRow_belowB HOWN.out hb2); replace BW := Lib.hid (BW.out.trans (hb2.mono BW.out.size)); replace ST := Lib.hid (ST.out.below hb2); clear hb2 k1; have hrow := (BW.out.block r (by rw [HSZ.out]; omega)).trans HROW.out; obtain ⟨q0, f0⟩ := row1 hrow)
      | (go_at_call 25; refine (k2 _ _ ST.out).mono ?_; rintro e w3 ⟨rfl, hb3⟩; replace HOWN := Lib.hid (ownsRow_belowB HOWN.out hb3); replace BW := Lib.hid (BW.out.trans (hb3.mono BW.out.size)); replace ST := Lib.hid (ST.out.below hb3); clear hb3 k2))
    go_wp2
    try simp only [Exit.inBlock, Exit.then]
    injection HF.out with e1 e2
    injection e2 with e2 e3
    refine bodyPost_ret (v := .tuple #[.slice none 0 0, .agg #[.slice a1 n c1], .int .i64 1]) (results_tct (fn := Try.f22) (p := 4) (q := 5) (r := 6) (ty := 24) rfl _ _ r 24 #[.slice a1 n c1] (0, 0) _ rfl (row1_set hrow _) Try.underlying24 rfl Try.size_names) rfl ?_
    have hrg : r < W.heap.size := by rw [HSZ.out]; omega
    have hwr : w.heap.size ≤ r := by rw [← HR.out]; omega
    refine ⟨_, _, by rw [← e3], by rw [← e1]; exact World.ownsRow_nil _ _ _ _, by rw [← e2, HN.out]; exact row_base (row_far1 HOWN.out hrg _) B.out.size, (B.out.trans (BW.out.mono B.out.size)).setCell hwr _⟩
  · simp only [if_true] at k1
    cases on
    · have hF := HF.out
      rw [allM_n HON.out] at hF
      replace HF := Lib.hid hF; clear hF k3
      go_wp2_with (first
        | (go_at_call 13; refine (k1 _ _ SL.out).mono ?_; rintro e w2 ⟨rfl, hb2⟩; replace HOWN := Lib.hid (ownsRow_belowB HOWN.out hb2); replace BW := Lib.hid (BW.out.trans (hb2.mono BW.out.size)); replace ST := Lib.hid (ST.out.below hb2); clear hb2 k1)
        | (go_at_call 25; refine (k2 _ _ ST.out).mono ?_; rintro e w3 ⟨rfl, hb3⟩; replace HOWN := Lib.hid (ownsRow_belowB HOWN.out hb3); replace BW := Lib.hid (BW.out.trans (hb3.mono BW.out.size)); replace ST := Lib.hid (ST.out.below hb3); clear hb3 k2; have hrow := (BW.out.block r (by rw [HSZ.out]; omega)).trans HROW.out; obtain ⟨q0, f0⟩ := row1 hrow))
      go_wp2
      try simp only [Exit.inBlock, Exit.then]
      injection HF.out with e1 e2
      injection e2 with e2 e3
      refine bodyPost_ret (v := .tuple #[.slice none 0 0, .agg #[.slice a1 n c1], .int .i64 1]) (results_tct (fn := Try.f22) (p := 4) (q := 5) (r := 6) (ty := 24) rfl _ _ r 24 #[.slice a1 n c1] (0, 0) _ rfl (row1_set hrow _) Try.underlying24 rfl Try.size_names) rfl ?_
      have hrg : r < W.heap.size := by rw [HSZ.out]; omega
      have hwr : w.heap.size ≤ r := by rw [← HR.out]; omega
      refine ⟨_, _, by rw [← e3], by rw [← e1]; exact World.ownsRow_nil _ _ _ _, by rw [← e2, HN.out]; exact row_base (row_far1 HOWN.out hrg _) B.out.size, (B.out.trans (BW.out.mono B.out.size)).setCell hwr _⟩
    · have hF := HF.out
      rw [allM_yes HOM.out HON.out] at hF
      replace HF := Lib.hid hF; clear hF
      go_wp2_with (first
      | (go_at_call 13; refine (k1 _ _ SL.out).mono ?_; rintro e w2 ⟨rfl, hb2⟩; replace HOWN := Lib.hid (ownsRow_belowB HOWN.out hb2); replace BW := Lib.hid (BW.out.trans (hb2.mono BW.out.size)); replace ST := Lib.hid (ST.out.below hb2); clear hb2 k1)
      | (go_at_call 25; refine (k2 _ _ ST.out).mono ?_; rintro e w3 ⟨rfl, hb3⟩; replace HOWN := Lib.hid (ownsRow_belowB HOWN.out hb3); replace BW := Lib.hid (BW.out.trans (hb3.mono BW.out.size)); replace ST := Lib.hid (ST.out.below hb3); clear hb3 k2)
      | (go_at_call 26; refine (k3 _ _ (Nds.owned (by rw [HN.out]; exact HOWN.out))).mono ?_; rintro e w4 ⟨b, rfl, hm4, hb5, hb4⟩; have HAB := Lib.hid hb5; have HMAP := Lib.hid hm4; replace ST := Lib.hid (ST.out.below hb4); have HBW3 := Lib.hid BW.out.size; have HLT := Lib.hid (fun k (e : Value.ownBlock (.slice a1 n c1) = some k) => (own_lt HOWN.out e).2); replace HOWN := Lib.hid (ownsRow_belowB HOWN.out hb4); replace BW := Lib.hid (BW.out.trans (hb4.mono BW.out.size)); clear hb4 hm4 hb5 k3))
      have S0 := Lib.hid (AllSt.mk (W0 := W) (vI := .slice none 0 0) (I := []) HOWN.out (World.ownsRow_nil _ _ _ _) HMAP.out ⟨(fun k e e2 => by cases e2), (fun e => by have := HLT.out b e; have := HAB.out; omega), (fun e => by cases e)⟩ BW.out (Nat.le_trans HBW3.out HAB.out))
      have HOKT := Lib.hid (List.all_eq_true.1 HON.out)
      clear HOWN HMAP HLT HAB HBW3 BW ST SL d0
      go_loopw [7, 9, 31] (fun v7 v9 i wr => ∃ (k kk : Nat) (K : List Nd) (I : List Nat) (aN : Option Addr) (cN : Nat) (aI : Option Addr) (cI : Nat), k ≤ m ∧ kk ≤ n + k ∧ v7 = .slice aN kk cN ∧ v9 = .slice aI k cI ∧ i = .int .i64 k ∧ Hid (K = namesM L (l.take k)) ∧ Hid (I = idsM L (l.take k)) ∧ Hid (K.length = kk) ∧ Hid (AllSt W b (n + k) (.slice aN kk cN) kk K (.slice aI k cI) k I K wr)) (fun _ _ i _ => m - (intOf i).toNat)
      case atStart => exact ⟨0, n, L, [], a1, c1, none, 0, Nat.zero_le _, Nat.le_refl _, rfl, rfl, rfl, Lib.hid rfl, Lib.hid rfl, HN, S0⟩
      case round =>
        obtain ⟨k, kk, K, I, aN, cN, aI, cI, hk, hkk, rfl, rfl, rfl, HK, HI, HKL, HS⟩ := hrel
        by_cases hlt : k < m
        · have hkl : k < l.length := by rw [HM.out]; exact hlt
          obtain ⟨b5, off, rfl, -, hc0, hc1⟩ := (ST0.out.below HS.out.bw).at k hkl
          have htk : l.take (k + 1) = l.take k ++ [l.getD k ([], [])] := by rw [List.take_succ_eq_append_getElem hkl, nd_getD hkl]
          have hyf := SFT.out _ (nd_mem hkl)
          obtain ⟨y, hy⟩ : ∃ y, y = l.getD k ([], []) := ⟨_, rfl⟩
          rw [← hy] at hc0 hc1 htk hyf
          obtain ⟨y1, y2⟩ := y
          simp only at hc0 hc1
          have hkI : I.length = k := by rw [HI.out, idsM_len, List.length_take]; omega
          have hok : okM K = true := by rw [HK.out]; exact namesM_ok _ HOM.out fun x hx => HOKT.out x (List.mem_of_mem_take hx)
          have hK2 : namesM L (l.take (k + 1)) = addM K (y1, y2) := by rw [htk, namesM_snoc, ← HK.out]
          have hI2 : idsM L (l.take (k + 1)) = I ++ [ixN K (y1, y2)] := by rw [htk, idsM_snoc, ← HK.out, ← HI.out]
          obtain ⟨O, hO⟩ : ∃ O, hasN K (y1, y2) = O := ⟨_, rfl⟩
          obtain ⟨J, hJ⟩ : ∃ J, (if hasN K (y1, y2) then laN K (y1, y2) else 0) = J := ⟨_, rfl⟩
          have HYF := Lib.hid hyf; have HKI := Lib.hid hkI; have HOK := Lib.hid hok; have HK2 := Lib.hid hK2; have HI2 := Lib.hid hI2; have HO := Lib.hid hO; have HJ := Lib.hid hJ
          clear hy hyf htk hkI hok hK2 hI2 hO hJ
          have hkb : (k : Int) < (m : Int) := by omega
          have S1 := Lib.hid (HS.out.alloc (.cells #[.string (mkB y1), .string (mkB y2)] 26))
          cases O
          · go_wp2_with (first
              | (at_lookup; refine wpList_look_imap rfl _ _ rfl rfl S1.out.mp rfl HYF.out HJ.out HO.out ?_)
              | (at_mapUpdate; refine wpList_put_imap rfl _ _ _ rfl rfl S1.out.mp rfl HYF.out kk HKL.out rfl (by omega) (by omega) ?_; intro w5 hm5 hg5; have S2 := Lib.hid (S1.out.put hm5 hg5); have q0 := grown_cell hg5 (p := ⟨wr.heap.size, 0, none⟩) (cell_new rfl rfl) (fun e => by have := HS.out.mp.lt; have e2 : b = wr.heap.size := Option.some.inj e; omega); have q1 := grown_cell hg5 (p := ⟨wr.heap.size, 1, none⟩) (cell_new rfl rfl) (fun e => by have := HS.out.mp.lt; have e2 : b = wr.heap.size := Option.some.inj e; omega); clear hm5 hg5)
              | (at_builtin; refine wpList_push_nd rfl _ _ rfl W.heap.size _ K kk HKL.out rfl S2.out.rn y1 y2 _ (by simp) rfl (by omega) S2.out.base ?_; intro aN' cN' w6 hr6 hg6 hl6; have S3 := Lib.hid (S2.out.pushN hr6 hg6 hl6); clear hr6 hg6 hl6)
              | (at_builtin; refine wpList_push_int rfl _ _ rfl W.heap.size _ I k HKI.out rfl S3.out.ri kk _ (by simp) rfl (by omega) S3.out.base ?_; intro aI' cI' w7 hr7 hg7 hl7; have S4 := Lib.hid (S3.out.pushI hr7 hg7 hl7); clear hr7 hg7 hl7))
            go_roundw
            case rel => exact ⟨k + 1, kk + 1, K ++ [(y1, y2)], I ++ [kk], aN', cN', aI', cI', by omega, by omega, rfl, rfl, by go_num, Lib.hid (by rw [HK2.out, addM_no HO.out]), Lib.hid (by rw [HI2.out, ixN_none (hasN_not.1 HO.out), HKL.out]), Lib.hid (by rw [List.length_append, HKL.out]; rfl), S4⟩
            case measure => simp [intOf]; omega
          · go_wp2_with (first
              | (at_lookup; refine wpList_look_imap rfl _ _ rfl rfl S1.out.mp rfl HYF.out HJ.out HO.out ?_)
              | (at_builtin; refine wpList_push_int rfl _ _ rfl W.heap.size _ I k HKI.out rfl S1.out.ri J _ (by simp) rfl (by omega) S1.out.base ?_; intro aI' cI' w7 hr7 hg7 hl7; have S4 := Lib.hid (S1.out.pushI hr7 hg7 hl7); clear hr7 hg7 hl7))
            have hj : J = ixN K (y1, y2) := by rw [← HJ.out, if_pos HO.out]; exact laN_ix (okM_iff.1 HOK.out).2 (hasN_iff.1 HO.out)
            have HJX := Lib.hid hj; clear hj
            go_roundw
            case rel => exact ⟨k + 1, kk, K, I ++ [J], aN, cN, aI', cI', by omega, by omega, rfl, rfl, by go_num, Lib.hid (by rw [HK2.out, addM_yes HO.out]), Lib.hid (by rw [HI2.out, HJX.out]), HKL, Lib.hid (S4.out.mono (by omega))⟩
            case measure => simp [intOf]; omega
        · have hrow := (HS.out.bw.block r (by rw [HSZ.out]; omega)).trans HROW.out
          obtain ⟨q0, f0⟩ := row1 hrow
          go_wp2
          try simp only [Exit.inBlock, Exit.then]
          injection HF.out with e1 e2
          injection e2 with e2 e3
          have ek : k = m := by omega
          have hI := HI.out
          have hK := HK.out
          rw [List.take_of_length_le (by rw [HM.out]; omega)] at hI hK
          have hrg : r < W.heap.size := by rw [HSZ.out]; omega
          have hwr : w.heap.size ≤ r := by rw [← HR.out]; omega
          have hkI : I.length = k := by rw [hI, idsM_len, HM.out, ek]
          refine bodyPost_ret (v := .tuple #[.slice aI k cI, .agg #[.slice aN kk cN], .int .i64 0]) (results_tct (fn := Try.f22) (p := 4) (q := 5) (r := 6) (ty := 24) rfl _ _ r 24 #[.slice aN kk cN] (0, 0) _ rfl (row1_set hrow _) Try.underlying24 rfl Try.size_names) rfl ?_
          refine ⟨_, _, by rw [← e3], ?_, ?_, (B.out.trans (HS.out.bw.mono B.out.size)).setCell hwr _⟩
          · rw [← e1, ← hI, hkI]; exact row_base (row_far1 HS.out.ri hrg _) B.out.size
          · rw [← e2, ← hK, HKL.out]; exact row_base (row_far1 HS.out.rn hrg _) B.out.size
end Go.Proofs.Ythmnoepdedjhjaa

namespace Go.Proofs.Ythmnoepdedjhjaa
open Go.RowKit Go.Maps
set_option maxRecDepth 100000

def idM (l : List Nd) (n : Nd) : Nat × List Nd × Int := if okM l && okN n then (ixN l n, addM l n, 0) else (0, l, 1)
theorem idM_no {l : List Nd} {n : Nd} (h : (okM l && okN n) = false) : idM l n = (0, l, 1) := by unfold idM; rw [h]; rfl
theorem idM_yes {l : List Nd} {n : Nd} (h : (okM l && okN n) = true) : idM l n = (ixN l n, addM l n, 0) := by unfold idM; rw [h]; rfl
theorem allM_one_no {l : List Nd} {n : Nd} (h : (okM l && okN n) = false) : allM l [n] = ([], l, 1) := by
  unfold allM
  rw [show [n].all okN = okN n by simp, h]; rfl
theorem allM_one_yes {l : List Nd} {n : Nd} (h : (okM l && okN n) = true) : allM l [n] = ([ixN l n], addM l n, 0) := by
  unfold allM
  rw [show [n].all okN = okN n by simp, h]; rfl
/-- Three parameters' and results' own cells, just laid; the world named. -/
theorem boxMNR (w : World) (x : Value) (t : TypeId) (y z : Value) (u : TypeId) : ∃ W g g' r, ((w.alloc (.cells #[x] t)).alloc (.cells #[y, z] u)).alloc (.cells #[.slice none 0 0] t) = W ∧ w.heap.size = g ∧ w.heap.size + 1 = g' ∧ w.heap.size + 1 + 1 = r ∧ W.heap.size = r + 1 ∧ W.cell? ⟨g, 0, none⟩ = some x ∧ W.cell? ⟨g', 0, none⟩ = some y ∧ W.cell? ⟨g', 1, none⟩ = some z ∧ W.heap[r]? = some (.cells #[.slice none 0 0] t (0, 0)) ∧ Below w.heap.size w W :=
  ⟨_, _, _, _, rfl, rfl, rfl, rfl, by simp, cell_alloc (cell_alloc (cell_new rfl rfl) _) _, cell_alloc (cell_new (by simp) rfl) _, cell_alloc (cell_new (by simp) rfl) _, by have := heap_alloc_new ((w.alloc (.cells #[x] t)).alloc (.cells #[y, z] u)) (.cells #[.slice none 0 0] t); simpa using this, (((Below.refl _ _).alloc (Nat.le_refl _) _).alloc (by simp) _).alloc (by simp; omega) _⟩

set_option maxHeartbeats 3200000 in
theorem iid_any (V : Value) (L : List Nd) (p v : List UInt8) (w : World) (h : Nds w V L) (hs : ∀ n ∈ L, smallN n) (hn : smallN (p, v)) (hlen : L.length ≤ 100000) :
    Calls Try.prog 11 #[.agg #[V], .agg #[.string (mkB p), .string (mkB v)]] w fun e w' => ∃ vn, e = .returned (.tuple #[.int .i64 ((idM L (p, v)).1 : Int), .agg #[vn], .int .i64 (idM L (p, v)).2.2]) ∧ w'.ownsRow w.heap.size 26 2 vn (idM L (p, v)).2.1.length (ndsC (idM L (p, v)).2.1) ∧ Below w.heap.size w w' := by
  obtain ⟨a, c, rfl, h1, h2, -, -⟩ := h.ex
  obtain ⟨n, hln⟩ : ∃ n, L.length = n := ⟨_, rfl⟩
  rw [hln] at h1 h ⊢
  obtain ⟨W, g, g', r, hW, hg, hg', hr, hsz, d0, c0, c1, hrow, hb⟩ := boxMNR w (.slice a n c) 24 (.string (mkB p)) (.string (mkB v)) 26
  have k1 := fun U U' w (h : Nds w U L) (h' : Nds w U' [(p, v)]) => iall_any U U' L [(p, v)] w h h' hs (one_small hn) hlen (by simp)
  have SL := Lib.hid (h.below hb); have HN := Lib.hid hln; have HW := Lib.hid hW; have HG := Lib.hid hg; have HG' := Lib.hid hg'; have HR := Lib.hid hr; have B := Lib.hid hb; have HSZ := Lib.hid hsz; have HROW := Lib.hid hrow
  clear h hs hln hW hg hg' hr hb hn hsz hrow
  obtain ⟨o, ho⟩ : ∃ o, (okM L && okN (p, v)) = o := ⟨_, rfl⟩
  cases o
  · rw [idM_no ho]
    rw [allM_one_no ho] at k1
    clear ho
    go_enter Try.func11, Try.ntmps11
    go_upto_region 1 with fail
    change Code.wp _ _ _ _ (((w.alloc (.cells #[.slice a n c] 24)).alloc (.cells #[.string (mkB p), .string (mkB v)] 26)).alloc (.cells #[.slice none 0 0] 24))
    rw [HW.out, HR.out, HG'.out, HG.out]
    go_wp2_with (go_at_call 22; refine (k1 _ _ _ (SL.out.below ((Below.refl _ _).alloc (Nat.le_refl _) _)) (nds_one _ p v)).mono ?_; rintro e w1 ⟨vi, vn, rfl, hri, hrn, hb1⟩; obtain ⟨aI, cI, rfl, hI⟩ := intsO hri; obtain ⟨aN, cN, rfl, hN⟩ := ndsO hrn; simp only at hri hrn hI hN; replace B := Lib.hid (below_step (B.out.alloc B.out.size _) hb1); have hrow := (hb1.block r (by have := HSZ.out; simp; omega)).trans ((Below.heap_alloc _ _ _ (by have := HSZ.out; omega)).trans HROW.out); obtain ⟨q0, f0⟩ := row1 hrow; have HROW1 := Lib.hid hrow; clear hri hb1 hrow)
    obtain ⟨W3, q, hW3, hq, e0, hb3⟩ := boxM w1 (.slice aN L.length cN) 24
    have hrow3 := row_keepB HROW1.out hb3
    obtain ⟨q3, f3⟩ := row1 hrow3
    have HROW3 := Lib.hid hrow3; have HB3 := Lib.hid hb3; have HRN := Lib.hid (ownsRow_belowB hrn hb3)
    rw [hW3, hq]
    clear q0 f0 hW3 hq hrow3 hb3 hrn hN hI SL k1 d0 c0 c1
    go_region
    all_goals
      go_wp2_with fail
      try simp only [Exit.inBlock, Exit.then]
      have hrow := HROW3.out
      have hrg : r < W.heap.size := by have := HSZ.out; omega
      have hwr : w.heap.size ≤ r := by have := HR.out; omega
      refine bodyPost_ret (v := .tuple #[.int .i64 0, .agg #[.slice aN L.length cN], .int .i64 1]) (results_tct (fn := Try.f11) (p := 4) (q := 5) (r := 6) (ty := 24) rfl _ _ r 24 #[.slice aN L.length cN] (0, 0) _ rfl (row1_set hrow _) Try.underlying24 rfl Try.size_names) rfl ?_
      exact ⟨_, rfl, row_base (row_far1 HRN.out (by simp; omega) _) (by have := HR.out; have := HSZ.out; simp; omega), ((below_step B.out HB3.out).setCell hwr _).drew⟩
  · rw [idM_yes ho]
    rw [allM_one_yes ho] at k1
    simp only at k1
    clear ho
    obtain ⟨kk, hkk⟩ : ∃ kk, (addM L (p, v)).length = kk := ⟨_, rfl⟩
    obtain ⟨I, hI0⟩ : ∃ I, ixN L (p, v) = I := ⟨_, rfl⟩
    rw [hkk, hI0] at k1 ⊢
    have HKK := Lib.hid hkk; clear hkk hI0
    go_enter Try.func11, Try.ntmps11
    go_upto_region 1 with fail
    change Code.wp _ _ _ _ (((w.alloc (.cells #[.slice a n c] 24)).alloc (.cells #[.string (mkB p), .string (mkB v)] 26)).alloc (.cells #[.slice none 0 0] 24))
    rw [HW.out, HR.out, HG'.out, HG.out]
    go_wp2_with (go_at_call 22; refine (k1 _ _ _ (SL.out.below ((Below.refl _ _).alloc (Nat.le_refl _) _)) (nds_one _ p v)).mono ?_; rintro e w1 ⟨vi, vn, rfl, hri, hrn, hb1⟩; obtain ⟨aI, cI, rfl, hI⟩ := intsO hri; obtain ⟨aN, cN, rfl, hN⟩ := ndsO (by rw [HKK.out]; exact hrn); rw [HKK.out] at hrn hN ⊢; obtain ⟨bI, oI, rfl⟩ := hI.some (Nat.lt_succ_self 0); have ci := hI.cell 0 (Nat.lt_succ_self 0); replace B := Lib.hid (below_step (B.out.alloc B.out.size _) hb1); have hrow := (hb1.block r (by have := HSZ.out; simp; omega)).trans ((Below.heap_alloc _ _ _ (by have := HSZ.out; omega)).trans HROW.out); obtain ⟨q0, f0⟩ := row1 hrow; have HROW1 := Lib.hid hrow; clear hri hb1 hrow)
    obtain ⟨W3, q, hW3, hq, e0, hb3⟩ := boxM w1 (.slice aN kk cN) 24
    have hrow3 := row_keepB HROW1.out hb3
    obtain ⟨q3, f3⟩ := row1 hrow3
    have HROW3 := Lib.hid hrow3; have HB3 := Lib.hid hb3; have HRN := Lib.hid (ownsRow_belowB hrn hb3)
    rw [hW3, hq]
    have ci3 := cell_keep ci HB3.out
    simp only [Nat.add_zero] at ci3
    clear ci q0 f0 hW3 hq hrow3 hb3 hrn hN hI SL k1 d0 c0 c1
    go_region
    all_goals
      go_wp2_with fail
      try simp only [Exit.inBlock, Exit.then]
      have hrow := HROW3.out
      have hrg : r < W.heap.size := by have := HSZ.out; omega
      have hwr : w.heap.size ≤ r := by have := HR.out; omega
      refine bodyPost_ret (v := .tuple #[.int .i64 (I : Int), .agg #[.slice aN kk cN], .int .i64 0]) (results_tct (fn := Try.f11) (p := 4) (q := 5) (r := 6) (ty := 24) rfl _ _ r 24 #[.slice aN kk cN] (0, 0) _ rfl (row1_set hrow _) Try.underlying24 rfl Try.size_names) rfl ?_
      exact ⟨_, rfl, row_base (row_far1 HRN.out (by simp; omega) _) (by have := HR.out; have := HSZ.out; simp; omega), ((below_step B.out HB3.out).setCell hwr _).drew⟩
end Go.Proofs.Ythmnoepdedjhjaa

namespace Go.Proofs.Ythmnoepdedjhjaa
open Go.RowKit Go.Maps
set_option maxRecDepth 100000

/-- Is it a number of so many nodes. -/
def inM (n : Nat) (z : Int) : Bool := decide (0 ≤ z) && decide (z < (n : Int))
def pickM (l : List Nd) (zs : List Int) : List Nd := zs.map fun z => l.getD z.toNat ([], [])
def atM (l : List Nd) (zs : List Int) : List Nd × Int := if okM l then if zs.all (inM l.length) then (pickM l zs, 0) else ([], 2) else ([], 1)
theorem atM_no {l : List Nd} (zs : List Int) (h : okM l = false) : atM l zs = ([], 1) := by unfold atM; rw [h]; rfl
theorem atM_yes {l : List Nd} {zs : List Int} (h : okM l = true) (k : zs.all (inM l.length) = true) : atM l zs = (pickM l zs, 0) := by unfold atM; rw [h, k]; rfl
theorem atM_bad {l : List Nd} {zs : List Int} (h : okM l = true) (k : zs.all (inM l.length) = false) : atM l zs = ([], 2) := by unfold atM; rw [h, k]; rfl
theorem inM_nat {n j : Nat} : inM n (j : Int) = decide (j < n) := by
  unfold inM
  rw [decide_eq_true (show (0 : Int) ≤ (j : Int) by omega), Bool.true_and]
  exact decide_eq_decide.2 (by omega)
theorem inM_neg {n : Nat} {z : Int} (h : z < 0) : inM n z = false := by unfold inM; rw [decide_eq_false (by omega)]; rfl
theorem zs_take {zs : List Int} {k : Nat} (h : k < zs.length) : zs.take (k + 1) = zs.take k ++ [zs.getD k 0] := by
  rw [List.take_succ_eq_append_getElem h, List.getD_eq_getElem?_getD, List.getElem?_eq_getElem h]; rfl
theorem zs_bad {zs : List Int} {k n : Nat} (h : k < zs.length) (hb : inM n (zs.getD k 0) = false) : zs.all (inM n) = false := by
  cases e : zs.all (inM n)
  · rfl
  · have := List.all_eq_true.1 e (zs.getD k 0) (by rw [List.getD_eq_getElem?_getD, List.getElem?_eq_getElem h]; exact List.getElem_mem h)
    rw [hb] at this; cases this
theorem pickM_len (l : List Nd) (zs : List Int) : (pickM l zs).length = zs.length := List.length_map _

set_option maxHeartbeats 3200000 in
theorem iat_any (V U : Value) (L : List Nd) (zs : List Int) (w : World) (h : Nds w V L) (hz : Ints w U zs) (hs : ∀ n ∈ L, smallN n) (hlen : zs.length ≤ 100000) :
    Calls Try.prog 12 #[.agg #[V], U] w fun e w' => ∃ vn, e = .returned (.tuple #[vn, .int .i64 (atM L zs).2]) ∧ w'.ownsRow w.heap.size 26 2 vn (atM L zs).1.length (ndsC (atM L zs).1) ∧ Below w.heap.size w w' := by
  obtain ⟨a, c, rfl, h1, h2, -, -⟩ := h.ex
  obtain ⟨a', c', rfl, h1', h2', -, -⟩ := hz.ex
  unfold maxLen at h2 h2'
  obtain ⟨n, hn⟩ : ∃ n, L.length = n := ⟨_, rfl⟩
  obtain ⟨m, hm⟩ : ∃ m, zs.length = m := ⟨_, rfl⟩
  rw [hn] at h1 h ⊢
  rw [hm] at h1' hz hlen ⊢
  obtain ⟨W, g, hW, hg, d0, hb⟩ := boxM w (.slice a n c) 24
  have SL := Lib.hid (h.below hb); have SZ := Lib.hid (ints_belowB hz hb); have SM := Lib.hid hs; have HN := Lib.hid hn; have HM := Lib.hid hm; have HW := Lib.hid hW; have HG := Lib.hid hg; have B := Lib.hid hb
  clear h hz hs hn hm hW hg hb
  have k1 := fun U w h => icheck_any U L w h SM.out
  obtain ⟨F1, F2, hF⟩ : ∃ F1 F2, atM L zs = (F1, F2) := ⟨_, _, rfl⟩
  rw [hF]
  obtain ⟨om, hom⟩ : ∃ o, okM L = o := ⟨_, rfl⟩
  rw [chkM_of hom] at k1
  have HF := Lib.hid hF; have HOM := Lib.hid hom
  clear hF hom
  cases om
  · simp only [Bool.false_eq_true, if_false] at k1
    have hF := HF.out
    rw [atM_no _ HOM.out] at hF
    injection hF with e1 e2
    rw [← e1, ← e2]
    clear e1 e2 HF
    go_enter Try.func12, Try.ntmps12
    go_upto_region 1 with fail
    rw [HW.out, HG.out]
    go_wp2_with (go_at_call 13; refine (k1 _ _ SL.out).mono ?_; rintro e w1 ⟨rfl, hb1⟩; replace B := Lib.hid (below_step B.out hb1); clear hb1 k1)
    go_ret2
    exact ⟨_, rfl, World.ownsRow_nil _ _ _ _, B.out⟩
  · simp only [if_true] at k1
    go_enter Try.func12, Try.ntmps12
    go_upto_region 1 with fail
    rw [HW.out, HG.out]
    go_wp2_with (go_at_call 13; refine (k1 _ _ SL.out).mono ?_; rintro e W1 ⟨rfl, hb1⟩; replace B := Lib.hid (below_step B.out hb1); replace SL := Lib.hid (SL.out.below hb1); replace SZ := Lib.hid (ints_belowB SZ.out hb1); replace d0 := cell_keep d0 hb1; clear hb1 k1)
    go_loopw [6, 14] (fun v6 i wr => ∃ (k : Nat) (K : List Nd) (aN : Option Addr) (cN : Nat), k ≤ m ∧ v6 = .slice aN k cN ∧ i = .int .i64 k ∧ Hid (K = pickM L (zs.take k)) ∧ Hid (K.length = k) ∧ Hid ((zs.take k).all (inM n) = true) ∧ Hid (wr.ownsRow W1.heap.size 26 2 (.slice aN k cN) k (ndsC K)) ∧ Hid (Below W1.heap.size W1 wr)) (fun _ i _ => m - (intOf i).toNat)
    case atStart => exact ⟨0, [], none, 0, Nat.zero_le _, rfl, rfl, Lib.hid rfl, Lib.hid rfl, Lib.hid (by simp), Lib.hid (World.ownsRow_nil _ _ _ _), Lib.hid (Below.refl _ _)⟩
    case round =>
      obtain ⟨k, K, aN, cN, hk, rfl, rfl, HK, HKL, HA, HR, HB⟩ := hrel
      have d1 := cell_keep d0 HB.out
      by_cases hlt : k < m
      · have hkz : k < zs.length := by rw [HM.out]; exact hlt
        obtain ⟨bz, oz, rfl⟩ := SZ.out.some (by omega)
        have hz0 := (ints_belowB SZ.out HB.out).cell k hlt
        have htk := zs_take hkz
        have hbad := zs_bad (n := n) hkz
        obtain ⟨z, hz⟩ : ∃ z, z = zs.getD k 0 := ⟨_, rfl⟩
        rw [← hz] at hz0 htk hbad
        have HTK := Lib.hid htk; have HBAD := Lib.hid hbad
        clear hz htk hbad
        have hkb : (k : Int) < (m : Int) := by omega
        by_cases hneg : z < 0
        · have hbd : Hid (zs.all (inM n) = false) := Lib.hid (HBAD.out (inM_neg hneg))
          go_wp2
          go_ret2
          have hF := HF.out
          rw [atM_bad HOM.out (by rw [HN.out]; exact hbd.out)] at hF
          injection hF with e1 e2
          exact ⟨_, by rw [← e2]; rfl, by rw [← e1]; exact World.ownsRow_nil _ _ _ _, below_step B.out HB.out⟩
        · obtain ⟨j, rfl⟩ : ∃ j : Nat, z = (j : Int) := ⟨z.toNat, by omega⟩
          by_cases hj : j < n
          · have hjl : j < L.length := by rw [HN.out]; exact hj
            obtain ⟨bl, ol, rfl, -, hc0, hc1⟩ := (SL.out.below HB.out).at j hjl
            obtain ⟨y, hy⟩ : ∃ y, y = L.getD j ([], []) := ⟨_, rfl⟩
            rw [← hy] at hc0 hc1
            obtain ⟨y1, y2⟩ := y
            simp only at hc0 hc1
            have hK2 : pickM L (zs.take (k + 1)) = K ++ [(y1, y2)] := by
              rw [HTK.out, HK.out]; unfold pickM
              rw [List.map_append, hy]; rfl
            have hA2 : (zs.take (k + 1)).all (inM n) = true := by
              rw [HTK.out, List.all_append, HA.out, List.all_cons, inM_nat, decide_eq_true hj]; rfl
            have HK2 := Lib.hid hK2; have HA2 := Lib.hid hA2
            clear hy hK2 hA2
            have hjb : (j : Int) < (n : Int) := by omega
            go_wp2_with (at_builtin; refine wpList_push_nd rfl _ _ rfl W1.heap.size _ K k HKL.out rfl HR.out y1 y2 _ (by simp) rfl (by omega) HB.out.size ?_; intro aN' cN' w6 hr6 hg6 hl6; have HR2 := Lib.hid hr6; have HB2 := Lib.hid (HB.out.grown hg6 HB.out.size (fun _ e => (own_lt HR.out e).1)); clear hr6 hg6 hl6)
            go_roundw
            case rel => exact ⟨k + 1, K ++ [(y1, y2)], aN', cN', by omega, rfl, by go_num, Lib.hid HK2.out.symm, Lib.hid (by rw [List.length_append, HKL.out]; rfl), HA2, HR2, HB2⟩
            case measure => simp [intOf]; omega
          · have hbd : Hid (zs.all (inM n) = false) := Lib.hid (HBAD.out (by rw [inM_nat]; exact decide_eq_false hj))
            have hjb : ¬ (j : Int) < (n : Int) := by omega
            go_wp2
            go_ret2
            have hF := HF.out
            rw [atM_bad HOM.out (by rw [HN.out]; exact hbd.out)] at hF
            injection hF with e1 e2
            exact ⟨_, by rw [← e2]; rfl, by rw [← e1]; exact World.ownsRow_nil _ _ _ _, below_step B.out HB.out⟩
      · go_wp2
        go_ret2
        have hF := HF.out
        have ek : k = m := by omega
        have hA := HA.out; have hK := HK.out
        rw [List.take_of_length_le (by rw [HM.out]; omega)] at hA hK
        rw [atM_yes HOM.out (by rw [HN.out]; exact hA)] at hF
        injection hF with e1 e2
        exact ⟨_, by rw [← e2]; rfl, by rw [← e1, ← hK, HKL.out]; exact row_base HR.out B.out.size, below_step B.out HB.out⟩
end Go.Proofs.Ythmnoepdedjhjaa
