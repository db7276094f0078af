/- The contract of version's Split. -/
import Derived.Test.YthmnoepdedjhjaaVerC
import Derived.RegionTactic
import Derived.BigRegion
import Derived.Deep.RegionHeld3
namespace Go.Proofs.Ythmnoepdedjhjaa
open Go.RowKit
set_option maxRecDepth 100000

theorem parts_l (l : List UInt8) (w : World) (hs : l.length ≤ 1000000000) :
    Calls Try.prog 48 #[.string (mkB l), .int .u8 46] w fun e w' => ∃ a c, e = .returned (.slice a (splitL 46 l).length c) ∧ Strs w' (.slice a (splitL 46 l).length c) (splitL 46 l) ∧ (∀ ad, a = some ad → w.heap.size ≤ ad.block) ∧ Bel w.heap.size w w' := by
  refine (parts_any (mkB l) 46 w (by rw [mkB_size]; exact hs)).mono ?_
  rintro e w' ⟨v, rfl, hown, hb⟩
  rw [mkB_list] at hown
  have hst := Strs.owned hown
  obtain ⟨a, c, rfl, _⟩ := hst.ex
  refine ⟨a, c, rfl, hst, fun ad ha => ?_, hb⟩
  rcases Joins.ownsRow_forms hown with ⟨he, _⟩ | ⟨g, cap, he⟩
  · injection he with he; rw [ha] at he; cases he
  · have hl := (hown.lt g (by rw [he]; rfl)).1
    injection he with he; rw [ha] at he; injection he with he; rw [he]; exact hl

section
variable {P : Program}
theorem results_cell_tmp {fn : Func} {p q : Tmp} {ty : TypeId} (h : fn.results = #[.cell p ty, .tmp q]) (tmps : Array Value) (w : World) (g : Nat) (t : TypeId) (cs : Array Value) (fr : Nat × Nat) (d : TypeDesc)
    (hp : tmps.getD p undef = .pointer (some ⟨g, 0, none⟩)) (hg : w.heap[g]? = some (.cells cs t fr))
    (hu : P.underlying ty = some d) (hd : (match d with | .struct _ | .array _ _ => true | _ => false) = true) (hi : (P.info? ty).map (·.size) = some cs.size) :
    (results fn tmps).run P w = .ok (.tuple #[.agg cs, tmps.getD q undef]) w := by
  have hp' : tmps[p]?.getD undef = .pointer (some ⟨g, 0, none⟩) := by simpa using hp
  simp [results, h, hp', asAddr, run_loadVar_row w g t ty cs fr d hg hu hd hi]
end
theorem Try.size_ver : (Try.prog.info? 64).map (·.size) = some 4 := by kernel_rfl
theorem row_keep {w w' : World} {g : Nat} {o : Obj} (h : w.heap[g]? = some o) (hb : Bel w.heap.size w w') : w'.heap[g]? = some o :=
  (hb.block g (Array.getElem?_eq_some_iff.1 h).1).trans h
theorem row4 {w : World} {g : Nat} {x0 x1 x2 x3 : Value} {t : TypeId} (h : w.heap[g]? = some (.cells #[x0, x1, x2, x3] t (0, 0))) :
    w.cell? ⟨g, 0, none⟩ = some x0 ∧ w.cell? ⟨g, 1, none⟩ = some x1 ∧ w.cell? ⟨g, 2, none⟩ = some x2 ∧ w.cell? ⟨g, 3, none⟩ = some x3 ∧
    w.frozen? ⟨g, 0, none⟩ = false ∧ w.frozen? ⟨g, 1, none⟩ = false ∧ w.frozen? ⟨g, 2, none⟩ = false ∧ w.frozen? ⟨g, 3, none⟩ = false := by
  simp [World.cell?, World.frozen?, h]
theorem row4_set {w : World} {g : Nat} {x0 x1 x2 x3 : Value} {t : TypeId} (h : w.heap[g]? = some (.cells #[x0, x1, x2, x3] t (0, 0))) (y0 y1 y2 y3 : Value) :
    ((((w.setCell ⟨g, 0, none⟩ y0).setCell ⟨g, 1, none⟩ y1).setCell ⟨g, 2, none⟩ y2).setCell ⟨g, 3, none⟩ y3).heap[g]? = some (.cells #[y0, y1, y2, y3] t (0, 0)) := by
  simp [World.setCell, Array.getElem?_modify, h]
def zeroV4 : Array Value := #[.string ⟨#[]⟩, .string ⟨#[]⟩, .string ⟨#[]⟩, .slice none 0 0]
theorem verin_zero (w : World) : VerIn w (.agg zeroV4) ([], [], [], []) :=
  ⟨⟨none, 0, rfl, ⟨none, 0, rfl, Nat.le_refl _, by unfold maxLen; omega, fun _ => rfl, fun h => absurd h (by simp)⟩⟩⟩

theorem row4_set3 {w : World} {g : Nat} {x0 x1 x2 x3 : Value} {t : TypeId} (h : w.heap[g]? = some (.cells #[x0, x1, x2, x3] t (0, 0))) (y : Value) :
    (w.setCell ⟨g, 3, none⟩ y).heap[g]? = some (.cells #[x0, x1, x2, y] t (0, 0)) := by
  simp [World.setCell, Array.getElem?_modify, h]
theorem row_far {w : World} {g k i : Nat} {o : Obj} (h : w.heap[k]? = some o) (hn : k ≠ g) (y : Value) : (w.setCell ⟨g, i, none⟩ y).heap[k]? = some o := by
  rw [Below.heap_setCell w ⟨g, i, none⟩ y k hn]; exact h
theorem Strs.far {w : World} {a : Option Addr} {n c : Nat} {ls : List (List UInt8)} (h : Strs w (.slice a n c) ls) {g i : Nat} {y : Value} (hn : ∀ ad, a = some ad → ad.block ≠ g) : Strs (w.setCell ⟨g, i, none⟩ y) (.slice a n c) ls := by
  obtain ⟨a', c', hv, h1, h2, hnn, h3⟩ := h.ex
  injection hv with e1 e2 e3
  subst e1 e2 e3
  refine ⟨a, c, rfl, h1, h2, hnn, fun hp => ?_⟩
  obtain ⟨b, off, ha, hlt, hc⟩ := h3 hp
  have hbg : b ≠ g := hn _ ha
  refine ⟨b, off, ha, by simpa using hlt, fun j hj => ?_⟩
  rw [World.cell?_setCell_other _ _ _ _ (by intro e; injection e with e; exact hbg e.symm)]
  exact hc j hj
/-- The words lie in memory that is new. -/
def FreshV (n : Nat) (V : Value) : Prop := ∀ x y z a k c, V = .agg #[x, y, z, .slice (some a) k c] → n ≤ a.block
theorem fresh_none (n : Nat) (x y z : Value) : FreshV n (.agg #[x, y, z, .slice none 0 0]) := by
  intro x' y' z' a k c h
  simp at h
theorem fresh_zero (n : Nat) : FreshV n (.agg zeroV4) := fresh_none n _ _ _
theorem fresh_slice {n k c : Nat} {a : Option Addr} (x y z : Value) (h : ∀ ad, a = some ad → n ≤ ad.block) : FreshV n (.agg #[x, y, z, .slice a k c]) := by
  intro x' y' z' a' k' c' he
  simp only [Value.agg.injEq, Array.mk.injEq, List.cons.injEq, Value.slice.injEq] at he
  exact h _ he.2.2.2.1.1
theorem FreshV.at {n k c : Nat} {a : Option Addr} {x y z : Value} (h : FreshV n (.agg #[x, y, z, .slice a k c])) : ∀ ad, a = some ad → n ≤ ad.block := by
  intro ad ha
  subst ha
  exact h x y z ad k c rfl

/-- What Split leaves: the version's parts, and a second answer. -/
def SplitOut (s : List UInt8) (x : Value) (w : World) (e : Ending) (w' : World) : Prop :=
  ∃ V, e = .returned (.tuple #[V, x]) ∧ VerIn w' V (verOf s) ∧ FreshV w.heap.size V ∧ Bel w.heap.size w w'

set_option maxHeartbeats 1600000 in
set_option maxRecDepth 100000 in
theorem split_any (s : ByteArray) (w : World) (hs : s.size ≤ 1000000000) :
    Calls Try.prog 44 #[.string s] w (SplitOut s.data.toList (.int .i64 (if okV s.data.toList = true then 0 else 1)) w) := by
  obtain ⟨l, hl⟩ : ∃ l, s.data.toList = l := ⟨_, rfl⟩
  have hsz := Lib.size_eq s
  rw [hl] at hsz ⊢
  cases hb : Lib.hasPrefix l [118]
  · obtain ⟨h1, h2⟩ := beg_no hb
    have hok : okV l = false := by unfold okV; rw [h1]; rfl
    have hvo := verOf_no hok
    rw [hok]
    have HP := Lib.hid hb; have HT := Lib.hid h2; have HL := Lib.hid hl; have HVO := Lib.hid hvo; clear hb h2 hl hok hvo h1
    have H1 : Hid (l.length ≤ 1000000000) := Lib.hid (by omega)
    clear hs hsz
    go_enter Try.func44, Try.ntmps44
    go_wp2_with (first
      | (go_at_call 50; refine (cutp_any s _).mono ?_; rintro e w' ⟨rfl, rfl⟩; rw [HL.out, HP.out, HT.out])
      | (go_at_call 51; refine (cut_any (mkB l) _ (by rw [mkB_size]; exact H1.out)).mono ?_; rintro e w0 ⟨rfl, hq⟩; have hb0 := bel_q hq; clear hq; have HROW0 := Lib.hid (row_keep (heap_alloc_new w (.cells zeroV4 64)) hb0); have HB0 := Lib.hid (bel_step ((Bel.refl w.heap.size w).alloc (Nat.le_refl _) (.cells zeroV4 64)) hb0); clear hb0; rw [mkB_list])
      | (go_at_call 48; refine (parts_l _ _ (Nat.le_trans (List.length_take_le' _ _) H1.out)).mono ?_; rintro e w1 ⟨a, c, rfl, hst, _, hb1⟩; have HROW := Lib.hid (row_keep HROW0.out hb1); have HB := Lib.hid (bel_step HB0.out hb1); clear hst hb1; obtain ⟨c0, c1, c2, c3, f0, f1, f2, f3⟩ := row4 HROW.out))
    try simp only [Exit.inBlock, Exit.then]
    exact bodyPost_ret (v := .tuple #[.agg zeroV4, .int .i64 1]) (results_cell_tmp (fn := Try.f44) (p := 2) (q := 3) (ty := 64) rfl _ _ w.heap.size 64 zeroV4 (0, 0) _ rfl (row4_set HROW.out _ _ _ _) Try.underlying64 rfl Try.size_ver) rfl ⟨_, rfl, by rw [HVO.out]; exact verin_zero _, fresh_zero _, (((HB.out.setCell (Nat.le_refl _) _).setCell (Nat.le_refl _) _).setCell (Nat.le_refl _) _).setCell (Nat.le_refl _) _⟩
  · obtain ⟨r, rfl⟩ := beg_form hb
    have h2 := (beg_yes r).2
    have HP := Lib.hid hb; have HT := Lib.hid h2; have HL := Lib.hid hl; clear hb h2 hl
    have H1 : Hid (r.length ≤ 1000000000) := Lib.hid (by rw [List.length_cons] at hsz; omega)
    clear hs hsz
    obtain ⟨ls, hls⟩ : ∃ ls, splitL 46 (r.take (ixL r)) = ls := ⟨_, rfl⟩
    by_cases h3 : ls.length = 3
    · match ls, h3 with
      | [x, y, z], _ =>
      have hcv : cutV r = (x, y, z, if ixL r < r.length then splitL 46 (r.drop (ixL r + 1)) else []) := by unfold cutV; rw [hls]; rfl
      have hsp : splitV (118 :: r) = if fitL (cutV r) = true then some (cutV r) else none := by
        rw [splitV, hls]; simp
      obtain ⟨f, hf⟩ : ∃ f, fitL (cutV r) = f := ⟨_, rfl⟩
      have hok : okV (118 :: r) = f := by unfold okV; rw [hsp, hf]; cases f <;> rfl
      have hvo : verOf (118 :: r) = if f = true then cutV r else ([], [], [], []) := by unfold verOf; rw [hsp, hf]; cases f <;> rfl
      have hpo : (if okV (118 :: r) = true then (0 : Int) else 1) = if f = true then 0 else 1 := by rw [hok]
      rw [hpo]
      have HLS := Lib.hid hls; have HVO := Lib.hid hvo; have HF := Lib.hid hf; have HCV := Lib.hid hcv; clear hls hvo hok hsp hf hcv
      clear hpo
      have HDR : Hid ((r.drop (ixL r + 1)).length ≤ 1000000000) := Lib.hid (by rw [List.length_drop]; have := H1.out; omega)
      have HSM : Hid (smallV 1000000000 (x, y, z, splitL 46 (r.drop (ixL r + 1))) ∧ smallV 1000000000 (x, y, z, [])) := Lib.hid (by
        have h1 := H1.out
        have hp : ∀ q ∈ [x, y, z], q.length ≤ 1000000000 := fun q hq => by
          rw [← HLS.out] at hq
          have := split_le 46 _ q hq
          have h2 := List.length_take_le' (ixL r) r
          omega
        have hx := hp x (by simp); have hy := hp y (by simp); have hz := hp z (by simp)
        have hd := HDR.out
        refine ⟨⟨hx, hy, hz, ?_, fun q hq => Nat.le_trans (split_le 46 _ q hq) hd⟩, hx, hy, hz, by simp, fun q hq => by cases hq⟩
        by_cases hm : ixL r < r.length
        · have := splitL_len 46 (r.drop (ixL r + 1)); rw [List.length_drop] at this; show (splitL 46 (r.drop (ixL r + 1))).length ≤ 1000000000; omega
        · rw [List.drop_eq_nil_of_le (by omega)]; show (splitL 46 []).length ≤ 1000000000; decide)
      by_cases hm : ixL r < r.length <;> cases f
      · have hd : decide (ixL r < r.length) = true := by simpa using hm
        have HFT : Hid (fitL (x, y, z, splitL 46 (r.drop (ixL r + 1))) = false) := Lib.hid (by have := HF.out; rw [HCV.out, if_pos hm] at this; exact this)
        have HCW : Hid (cutV r = (x, y, z, splitL 46 (r.drop (ixL r + 1)))) := Lib.hid (by rw [HCV.out, if_pos hm])
        clear hm
        go_enter Try.func44, Try.ntmps44
        go_wp2_with (first
          | (go_at_call 50; refine (cutp_any s _).mono ?_; rintro e w' ⟨rfl, rfl⟩; rw [HL.out, HP.out, HT.out])
          | (go_at_call 51; refine (cut_any (mkB r) _ (by rw [mkB_size]; exact H1.out)).mono ?_; rintro e w0 ⟨rfl, hq⟩; have hb0 := bel_q hq; clear hq; have HROW0 := Lib.hid (row_keep (heap_alloc_new w (.cells zeroV4 64)) hb0); have HB0 := Lib.hid (bel_step ((Bel.refl w.heap.size w).alloc (Nat.le_refl _) (.cells zeroV4 64)) hb0); clear hb0; rw [mkB_list])
          | (go_at_call 48; refine (parts_l _ _ (Nat.le_trans (List.length_take_le' _ _) H1.out)).mono ?_; rintro e w1 ⟨a, c, rfl, hst, _, hb1⟩; have HROW := Lib.hid (row_keep HROW0.out hb1); have HB := Lib.hid (bel_step HB0.out hb1); clear hb1; rw [HLS.out] at hst ⊢; obtain ⟨b, off, rfl, hbl, k0⟩ := strs_at hst 0 (by simp); obtain ⟨b', off', hab, _, k1⟩ := strs_at hst 1 (by simp); obtain ⟨b'', off'', hab2, _, k2⟩ := strs_at hst 2 (by simp); injection hab with hab; injection hab with hab hof; subst hab hof; injection hab2 with hab2; injection hab2 with hab2 hof; subst hab2 hof; clear hst;
              replace k0 : w1.cell? ⟨b, off, none⟩ = some (.string (mkB x)) := k0; replace k1 : w1.cell? ⟨b, off + 1, none⟩ = some (.string (mkB y)) := k1; replace k2 : w1.cell? ⟨b, off + 2, none⟩ = some (.string (mkB z)) := k2;
              have n0 := World.new_ne w1 _ k0; have n1 := World.new_ne w1 _ k1; have n2 := World.new_ne w1 _ k2))
        go_region
        obtain ⟨wA, hwA⟩ : ∃ wA, wA = (w1.alloc (.cells #[.string (mkB x), .string (mkB y), .string (mkB z), .slice none 0 0] 64)).drew := ⟨_, rfl⟩
        rw [← hwA]
        have rA : wA.heap[w1.heap.size]? = some (.cells #[.string (mkB x), .string (mkB y), .string (mkB z), .slice none 0 0] 64) := by rw [hwA]; exact heap_alloc_new _ _
        have zA : wA.heap[w.heap.size]? = some (.cells zeroV4 64) := by rw [hwA]; exact row_keep HROW.out (bel_step ((Bel.refl _ _).alloc (Nat.le_refl _) _) (bel_q ⟨1, rfl⟩))
        have bA : Bel w.heap.size w wA := by rw [hwA]; exact bel_step (HB.out.alloc HB.out.size _) (bel_q ⟨1, rfl⟩)
        have hlt : w.heap.size < w1.heap.size := (Array.getElem?_eq_some_iff.1 HROW.out).1
        have hle : w1.heap.size < wA.heap.size := (Array.getElem?_eq_some_iff.1 rA).1
        clear k0 k1 k2 n0 n1 n2 hwA
        obtain ⟨g, hg⟩ : ∃ g, g = w1.heap.size := ⟨_, rfl⟩
        rw [← hg] at rA hlt hle ⊢
        have hgz : g ≠ w.heap.size := by omega
        have hzg : w.heap.size ≠ g := by omega
        have RA := Lib.hid rA; have ZA := Lib.hid zA; have BA := Lib.hid bA; have HLT := Lib.hid hlt; have HLE := Lib.hid hle
        clear rA zA bA hlt hle hg HROW HB
        go_wp2_with (first
          | (go_at_call 48; refine (parts_l _ _ HDR.out).mono ?_; rintro e w2 ⟨a2, c2, rfl, hst2, hfr2, hb2⟩; have R2 := Lib.hid (row_keep RA.out hb2); have Z2 := Lib.hid (row_keep ZA.out hb2); have B2 := Lib.hid (bel_step BA.out hb2); have FR := Lib.hid hfr2; have ST2 := Lib.hid hst2; clear hst2 hfr2 hb2; obtain ⟨c0, c1, c2', c3, f0, f1, f2, f3⟩ := row4 R2.out)
          | (go_at_call 52; refine (fit_any _ (x, y, z, splitL 46 (r.drop (ixL r + 1))) _ ⟨⟨_, _, rfl, ST2.out.far fun ad ha => by have := FR.out ad ha; have := HLE.out; omega⟩⟩ HSM.out.1).mono ?_; rintro e w3 ⟨rfl, hb3⟩; rw [HFT.out];
              have R3 := Lib.hid (row_keep (row4_set3 R2.out (.slice a2 (splitL 46 (r.drop (ixL r + 1))).length c2)) hb3); have Z3 := Lib.hid (row_keep (row_far (g := g) (i := 3) Z2.out hzg (.slice a2 (splitL 46 (r.drop (ixL r + 1))).length c2)) hb3); have B3 := Lib.hid (bel_step (B2.out.setCell (p := ⟨g, 3, none⟩) (Nat.le_of_lt HLT.out) (.slice a2 (splitL 46 (r.drop (ixL r + 1))).length c2)) hb3); have ST3 := Lib.hid ((ST2.out.far (g := g) (i := 3) (y := .slice a2 (splitL 46 (r.drop (ixL r + 1))).length c2) fun ad ha => by have := FR.out ad ha; have := HLE.out; omega).below hb3); clear hb3; clear c0 c1 c2' c3 f0 f1 f2 f3;
              obtain ⟨d0, d1, d2, d3, e0, e1, e2, e3⟩ := row4 Z3.out; obtain ⟨c0, c1, c2', c3, f0, f1, f2, f3⟩ := row4 R3.out))
        try simp only [Exit.inBlock, Exit.then]
        exact bodyPost_ret (v := .tuple #[.agg zeroV4, .int .i64 1]) (results_cell_tmp (fn := Try.f44) (p := 2) (q := 3) (ty := 64) rfl _ _ w.heap.size 64 zeroV4 (0, 0) _ rfl (row4_set Z3.out _ _ _ _) Try.underlying64 rfl Try.size_ver) rfl ⟨_, rfl, by rw [HVO.out, if_neg (by simp)]; exact verin_zero _, fresh_zero _, (((B3.out.setCell (Nat.le_refl _) _).setCell (Nat.le_refl _) _).setCell (Nat.le_refl _) _).setCell (Nat.le_refl _) _⟩
      · have hd : decide (ixL r < r.length) = true := by simpa using hm
        have HFT : Hid (fitL (x, y, z, splitL 46 (r.drop (ixL r + 1))) = true) := Lib.hid (by have := HF.out; rw [HCV.out, if_pos hm] at this; exact this)
        have HCW : Hid (cutV r = (x, y, z, splitL 46 (r.drop (ixL r + 1)))) := Lib.hid (by rw [HCV.out, if_pos hm])
        clear hm
        go_enter Try.func44, Try.ntmps44
        go_wp2_with (first
          | (go_at_call 50; refine (cutp_any s _).mono ?_; rintro e w' ⟨rfl, rfl⟩; rw [HL.out, HP.out, HT.out])
          | (go_at_call 51; refine (cut_any (mkB r) _ (by rw [mkB_size]; exact H1.out)).mono ?_; rintro e w0 ⟨rfl, hq⟩; have hb0 := bel_q hq; clear hq; have HROW0 := Lib.hid (row_keep (heap_alloc_new w (.cells zeroV4 64)) hb0); have HB0 := Lib.hid (bel_step ((Bel.refl w.heap.size w).alloc (Nat.le_refl _) (.cells zeroV4 64)) hb0); clear hb0; rw [mkB_list])
          | (go_at_call 48; refine (parts_l _ _ (Nat.le_trans (List.length_take_le' _ _) H1.out)).mono ?_; rintro e w1 ⟨a, c, rfl, hst, _, hb1⟩; have HROW := Lib.hid (row_keep HROW0.out hb1); have HB := Lib.hid (bel_step HB0.out hb1); clear hb1; rw [HLS.out] at hst ⊢; obtain ⟨b, off, rfl, hbl, k0⟩ := strs_at hst 0 (by simp); obtain ⟨b', off', hab, _, k1⟩ := strs_at hst 1 (by simp); obtain ⟨b'', off'', hab2, _, k2⟩ := strs_at hst 2 (by simp); injection hab with hab; injection hab with hab hof; subst hab hof; injection hab2 with hab2; injection hab2 with hab2 hof; subst hab2 hof; clear hst;
              replace k0 : w1.cell? ⟨b, off, none⟩ = some (.string (mkB x)) := k0; replace k1 : w1.cell? ⟨b, off + 1, none⟩ = some (.string (mkB y)) := k1; replace k2 : w1.cell? ⟨b, off + 2, none⟩ = some (.string (mkB z)) := k2;
              have n0 := World.new_ne w1 _ k0; have n1 := World.new_ne w1 _ k1; have n2 := World.new_ne w1 _ k2))
        go_region
        obtain ⟨wA, hwA⟩ : ∃ wA, wA = (w1.alloc (.cells #[.string (mkB x), .string (mkB y), .string (mkB z), .slice none 0 0] 64)).drew := ⟨_, rfl⟩
        rw [← hwA]
        have rA : wA.heap[w1.heap.size]? = some (.cells #[.string (mkB x), .string (mkB y), .string (mkB z), .slice none 0 0] 64) := by rw [hwA]; exact heap_alloc_new _ _
        have zA : wA.heap[w.heap.size]? = some (.cells zeroV4 64) := by rw [hwA]; exact row_keep HROW.out (bel_step ((Bel.refl _ _).alloc (Nat.le_refl _) _) (bel_q ⟨1, rfl⟩))
        have bA : Bel w.heap.size w wA := by rw [hwA]; exact bel_step (HB.out.alloc HB.out.size _) (bel_q ⟨1, rfl⟩)
        have hlt : w.heap.size < w1.heap.size := (Array.getElem?_eq_some_iff.1 HROW.out).1
        have hle : w1.heap.size < wA.heap.size := (Array.getElem?_eq_some_iff.1 rA).1
        clear k0 k1 k2 n0 n1 n2 hwA
        obtain ⟨g, hg⟩ : ∃ g, g = w1.heap.size := ⟨_, rfl⟩
        rw [← hg] at rA hlt hle ⊢
        have hgz : g ≠ w.heap.size := by omega
        have hzg : w.heap.size ≠ g := by omega
        have RA := Lib.hid rA; have ZA := Lib.hid zA; have BA := Lib.hid bA; have HLT := Lib.hid hlt; have HLE := Lib.hid hle
        clear rA zA bA hlt hle hg HROW HB
        go_wp2_with (first
          | (go_at_call 48; refine (parts_l _ _ HDR.out).mono ?_; rintro e w2 ⟨a2, c2, rfl, hst2, hfr2, hb2⟩; have R2 := Lib.hid (row_keep RA.out hb2); have Z2 := Lib.hid (row_keep ZA.out hb2); have B2 := Lib.hid (bel_step BA.out hb2); have FR := Lib.hid hfr2; have ST2 := Lib.hid hst2; clear hst2 hfr2 hb2; obtain ⟨c0, c1, c2', c3, f0, f1, f2, f3⟩ := row4 R2.out)
          | (go_at_call 52; refine (fit_any _ (x, y, z, splitL 46 (r.drop (ixL r + 1))) _ ⟨⟨_, _, rfl, ST2.out.far fun ad ha => by have := FR.out ad ha; have := HLE.out; omega⟩⟩ HSM.out.1).mono ?_; rintro e w3 ⟨rfl, hb3⟩; rw [HFT.out];
              have R3 := Lib.hid (row_keep (row4_set3 R2.out (.slice a2 (splitL 46 (r.drop (ixL r + 1))).length c2)) hb3); have Z3 := Lib.hid (row_keep (row_far (g := g) (i := 3) Z2.out hzg (.slice a2 (splitL 46 (r.drop (ixL r + 1))).length c2)) hb3); have B3 := Lib.hid (bel_step (B2.out.setCell (p := ⟨g, 3, none⟩) (Nat.le_of_lt HLT.out) (.slice a2 (splitL 46 (r.drop (ixL r + 1))).length c2)) hb3); have ST3 := Lib.hid ((ST2.out.far (g := g) (i := 3) (y := .slice a2 (splitL 46 (r.drop (ixL r + 1))).length c2) fun ad ha => by have := FR.out ad ha; have := HLE.out; omega).below hb3); clear hb3; clear c0 c1 c2' c3 f0 f1 f2 f3;
              obtain ⟨d0, d1, d2, d3, e0, e1, e2, e3⟩ := row4 Z3.out; obtain ⟨c0, c1, c2', c3, f0, f1, f2, f3⟩ := row4 R3.out))
        try simp only [Exit.inBlock, Exit.then]
        exact bodyPost_ret (v := .tuple #[.agg #[.string (mkB x), .string (mkB y), .string (mkB z), (.slice a2 (splitL 46 (r.drop (ixL r + 1))).length c2)], .int .i64 0]) (results_cell_tmp (fn := Try.f44) (p := 2) (q := 3) (ty := 64) rfl _ _ w.heap.size 64 #[.string (mkB x), .string (mkB y), .string (mkB z), (.slice a2 (splitL 46 (r.drop (ixL r + 1))).length c2)] (0, 0) _ rfl (row4_set Z3.out _ _ _ _) Try.underlying64 rfl Try.size_ver) rfl ⟨_, rfl, by rw [(by simpa using HVO.out : verOf (118 :: r) = cutV r), HCW.out]; exact ⟨⟨_, _, rfl, ((((ST3.out.far (fun ad ha => by have := FR.out ad ha; have := HLE.out; have := HLT.out; omega)).far (fun ad ha => by have := FR.out ad ha; have := HLE.out; have := HLT.out; omega)).far (fun ad ha => by have := FR.out ad ha; have := HLE.out; have := HLT.out; omega)).far (fun ad ha => by have := FR.out ad ha; have := HLE.out; have := HLT.out; omega))⟩⟩, (fresh_slice _ _ _ fun ad ha => by have := FR.out ad ha; have := HLE.out; have := HLT.out; omega), (((B3.out.setCell (Nat.le_refl _) _).setCell (Nat.le_refl _) _).setCell (Nat.le_refl _) _).setCell (Nat.le_refl _) _⟩
      · have hd : decide (ixL r < r.length) = false := by simpa using hm
        have HFT : Hid (fitL (x, y, z, []) = false) := Lib.hid (by have := HF.out; rw [HCV.out, if_neg hm] at this; exact this)
        have HCW : Hid (cutV r = (x, y, z, [])) := Lib.hid (by rw [HCV.out, if_neg hm])
        clear hm
        go_enter Try.func44, Try.ntmps44
        go_wp2_with (first
          | (go_at_call 50; refine (cutp_any s _).mono ?_; rintro e w' ⟨rfl, rfl⟩; rw [HL.out, HP.out, HT.out])
          | (go_at_call 51; refine (cut_any (mkB r) _ (by rw [mkB_size]; exact H1.out)).mono ?_; rintro e w0 ⟨rfl, hq⟩; have hb0 := bel_q hq; clear hq; have HROW0 := Lib.hid (row_keep (heap_alloc_new w (.cells zeroV4 64)) hb0); have HB0 := Lib.hid (bel_step ((Bel.refl w.heap.size w).alloc (Nat.le_refl _) (.cells zeroV4 64)) hb0); clear hb0; rw [mkB_list])
          | (go_at_call 48; refine (parts_l _ _ (Nat.le_trans (List.length_take_le' _ _) H1.out)).mono ?_; rintro e w1 ⟨a, c, rfl, hst, _, hb1⟩; have HROW := Lib.hid (row_keep HROW0.out hb1); have HB := Lib.hid (bel_step HB0.out hb1); clear hb1; rw [HLS.out] at hst ⊢; obtain ⟨b, off, rfl, hbl, k0⟩ := strs_at hst 0 (by simp); obtain ⟨b', off', hab, _, k1⟩ := strs_at hst 1 (by simp); obtain ⟨b'', off'', hab2, _, k2⟩ := strs_at hst 2 (by simp); injection hab with hab; injection hab with hab hof; subst hab hof; injection hab2 with hab2; injection hab2 with hab2 hof; subst hab2 hof; clear hst;
              replace k0 : w1.cell? ⟨b, off, none⟩ = some (.string (mkB x)) := k0; replace k1 : w1.cell? ⟨b, off + 1, none⟩ = some (.string (mkB y)) := k1; replace k2 : w1.cell? ⟨b, off + 2, none⟩ = some (.string (mkB z)) := k2;
              have n0 := World.new_ne w1 _ k0; have n1 := World.new_ne w1 _ k1; have n2 := World.new_ne w1 _ k2))
        go_region
        obtain ⟨wA, hwA⟩ : ∃ wA, wA = (w1.alloc (.cells #[.string (mkB x), .string (mkB y), .string (mkB z), .slice none 0 0] 64)).drew := ⟨_, rfl⟩
        rw [← hwA]
        have rA : wA.heap[w1.heap.size]? = some (.cells #[.string (mkB x), .string (mkB y), .string (mkB z), .slice none 0 0] 64) := by rw [hwA]; exact heap_alloc_new _ _
        have zA : wA.heap[w.heap.size]? = some (.cells zeroV4 64) := by rw [hwA]; exact row_keep HROW.out (bel_step ((Bel.refl _ _).alloc (Nat.le_refl _) _) (bel_q ⟨1, rfl⟩))
        have bA : Bel w.heap.size w wA := by rw [hwA]; exact bel_step (HB.out.alloc HB.out.size _) (bel_q ⟨1, rfl⟩)
        have hlt : w.heap.size < w1.heap.size := (Array.getElem?_eq_some_iff.1 HROW.out).1
        have hle : w1.heap.size < wA.heap.size := (Array.getElem?_eq_some_iff.1 rA).1
        clear k0 k1 k2 n0 n1 n2 hwA
        obtain ⟨g, hg⟩ : ∃ g, g = w1.heap.size := ⟨_, rfl⟩
        rw [← hg] at rA hlt hle ⊢
        have hgz : g ≠ w.heap.size := by omega
        have hzg : w.heap.size ≠ g := by omega
        have RA := Lib.hid rA; have ZA := Lib.hid zA; have BA := Lib.hid bA; have HLT := Lib.hid hlt; have HLE := Lib.hid hle
        clear rA zA bA hlt hle hg HROW HB
        obtain ⟨c0, c1, c2', c3, f0, f1, f2, f3⟩ := row4 RA.out
        go_wp2_with (first
          | (go_at_call 52; refine (fit_any _ (x, y, z, []) _ ⟨⟨_, _, rfl, strs_none _⟩⟩ HSM.out.2).mono ?_; rintro e w3 ⟨rfl, hb3⟩; rw [HFT.out];
              have R3 := Lib.hid (row_keep RA.out hb3); have Z3 := Lib.hid (row_keep ZA.out hb3); have B3 := Lib.hid (bel_step BA.out hb3); clear hb3; clear c0 c1 c2' c3 f0 f1 f2 f3;
              obtain ⟨d0, d1, d2, d3, e0, e1, e2, e3⟩ := row4 Z3.out; obtain ⟨c0, c1, c2', c3, f0, f1, f2, f3⟩ := row4 R3.out))
        try simp only [Exit.inBlock, Exit.then]
        exact bodyPost_ret (v := .tuple #[.agg zeroV4, .int .i64 1]) (results_cell_tmp (fn := Try.f44) (p := 2) (q := 3) (ty := 64) rfl _ _ w.heap.size 64 zeroV4 (0, 0) _ rfl (row4_set Z3.out _ _ _ _) Try.underlying64 rfl Try.size_ver) rfl ⟨_, rfl, by rw [HVO.out, if_neg (by simp)]; exact verin_zero _, fresh_zero _, (((B3.out.setCell (Nat.le_refl _) _).setCell (Nat.le_refl _) _).setCell (Nat.le_refl _) _).setCell (Nat.le_refl _) _⟩
      · have hd : decide (ixL r < r.length) = false := by simpa using hm
        have HFT : Hid (fitL (x, y, z, []) = true) := Lib.hid (by have := HF.out; rw [HCV.out, if_neg hm] at this; exact this)
        have HCW : Hid (cutV r = (x, y, z, [])) := Lib.hid (by rw [HCV.out, if_neg hm])
        clear hm
        go_enter Try.func44, Try.ntmps44
        go_wp2_with (first
          | (go_at_call 50; refine (cutp_any s _).mono ?_; rintro e w' ⟨rfl, rfl⟩; rw [HL.out, HP.out, HT.out])
          | (go_at_call 51; refine (cut_any (mkB r) _ (by rw [mkB_size]; exact H1.out)).mono ?_; rintro e w0 ⟨rfl, hq⟩; have hb0 := bel_q hq; clear hq; have HROW0 := Lib.hid (row_keep (heap_alloc_new w (.cells zeroV4 64)) hb0); have HB0 := Lib.hid (bel_step ((Bel.refl w.heap.size w).alloc (Nat.le_refl _) (.cells zeroV4 64)) hb0); clear hb0; rw [mkB_list])
          | (go_at_call 48; refine (parts_l _ _ (Nat.le_trans (List.length_take_le' _ _) H1.out)).mono ?_; rintro e w1 ⟨a, c, rfl, hst, _, hb1⟩; have HROW := Lib.hid (row_keep HROW0.out hb1); have HB := Lib.hid (bel_step HB0.out hb1); clear hb1; rw [HLS.out] at hst ⊢; obtain ⟨b, off, rfl, hbl, k0⟩ := strs_at hst 0 (by simp); obtain ⟨b', off', hab, _, k1⟩ := strs_at hst 1 (by simp); obtain ⟨b'', off'', hab2, _, k2⟩ := strs_at hst 2 (by simp); injection hab with hab; injection hab with hab hof; subst hab hof; injection hab2 with hab2; injection hab2 with hab2 hof; subst hab2 hof; clear hst;
              replace k0 : w1.cell? ⟨b, off, none⟩ = some (.string (mkB x)) := k0; replace k1 : w1.cell? ⟨b, off + 1, none⟩ = some (.string (mkB y)) := k1; replace k2 : w1.cell? ⟨b, off + 2, none⟩ = some (.string (mkB z)) := k2;
              have n0 := World.new_ne w1 _ k0; have n1 := World.new_ne w1 _ k1; have n2 := World.new_ne w1 _ k2))
        go_region
        obtain ⟨wA, hwA⟩ : ∃ wA, wA = (w1.alloc (.cells #[.string (mkB x), .string (mkB y), .string (mkB z), .slice none 0 0] 64)).drew := ⟨_, rfl⟩
        rw [← hwA]
        have rA : wA.heap[w1.heap.size]? = some (.cells #[.string (mkB x), .string (mkB y), .string (mkB z), .slice none 0 0] 64) := by rw [hwA]; exact heap_alloc_new _ _
        have zA : wA.heap[w.heap.size]? = some (.cells zeroV4 64) := by rw [hwA]; exact row_keep HROW.out (bel_step ((Bel.refl _ _).alloc (Nat.le_refl _) _) (bel_q ⟨1, rfl⟩))
        have bA : Bel w.heap.size w wA := by rw [hwA]; exact bel_step (HB.out.alloc HB.out.size _) (bel_q ⟨1, rfl⟩)
        have hlt : w.heap.size < w1.heap.size := (Array.getElem?_eq_some_iff.1 HROW.out).1
        have hle : w1.heap.size < wA.heap.size := (Array.getElem?_eq_some_iff.1 rA).1
        clear k0 k1 k2 n0 n1 n2 hwA
        obtain ⟨g, hg⟩ : ∃ g, g = w1.heap.size := ⟨_, rfl⟩
        rw [← hg] at rA hlt hle ⊢
        have hgz : g ≠ w.heap.size := by omega
        have hzg : w.heap.size ≠ g := by omega
        have RA := Lib.hid rA; have ZA := Lib.hid zA; have BA := Lib.hid bA; have HLT := Lib.hid hlt; have HLE := Lib.hid hle
        clear rA zA bA hlt hle hg HROW HB
        obtain ⟨c0, c1, c2', c3, f0, f1, f2, f3⟩ := row4 RA.out
        go_wp2_with (first
          | (go_at_call 52; refine (fit_any _ (x, y, z, []) _ ⟨⟨_, _, rfl, strs_none _⟩⟩ HSM.out.2).mono ?_; rintro e w3 ⟨rfl, hb3⟩; rw [HFT.out];
              have R3 := Lib.hid (row_keep RA.out hb3); have Z3 := Lib.hid (row_keep ZA.out hb3); have B3 := Lib.hid (bel_step BA.out hb3); clear hb3; clear c0 c1 c2' c3 f0 f1 f2 f3;
              obtain ⟨d0, d1, d2, d3, e0, e1, e2, e3⟩ := row4 Z3.out; obtain ⟨c0, c1, c2', c3, f0, f1, f2, f3⟩ := row4 R3.out))
        try simp only [Exit.inBlock, Exit.then]
        exact bodyPost_ret (v := .tuple #[.agg #[.string (mkB x), .string (mkB y), .string (mkB z), .slice none 0 0], .int .i64 0]) (results_cell_tmp (fn := Try.f44) (p := 2) (q := 3) (ty := 64) rfl _ _ w.heap.size 64 #[.string (mkB x), .string (mkB y), .string (mkB z), .slice none 0 0] (0, 0) _ rfl (row4_set Z3.out _ _ _ _) Try.underlying64 rfl Try.size_ver) rfl ⟨_, rfl, by rw [(by simpa using HVO.out : verOf (118 :: r) = cutV r), HCW.out]; exact ⟨⟨_, _, rfl, strs_none _⟩⟩, fresh_none _ _ _ _, (((B3.out.setCell (Nat.le_refl _) _).setCell (Nat.le_refl _) _).setCell (Nat.le_refl _) _).setCell (Nat.le_refl _) _⟩
    · have hne : ((ls.length : Int) != 3) = true := by simp; omega
      have hok : okV (118 :: r) = false := by unfold okV; rw [splitV, if_neg (by rintro ⟨_, h, _⟩; rw [hls] at h; exact h3 h)]; rfl
      have hvo := verOf_no hok
      rw [hok]
      have HLS := Lib.hid hls; have HVO := Lib.hid hvo; clear hls hvo hok h3
      go_enter Try.func44, Try.ntmps44
      go_wp2_with (first
        | (go_at_call 50; refine (cutp_any s _).mono ?_; rintro e w' ⟨rfl, rfl⟩; rw [HL.out, HP.out, HT.out])
        | (go_at_call 51; refine (cut_any (mkB r) _ (by rw [mkB_size]; exact H1.out)).mono ?_; rintro e w0 ⟨rfl, hq⟩; have hb0 := bel_q hq; clear hq; have HROW0 := Lib.hid (row_keep (heap_alloc_new w (.cells zeroV4 64)) hb0); have HB0 := Lib.hid (bel_step ((Bel.refl w.heap.size w).alloc (Nat.le_refl _) (.cells zeroV4 64)) hb0); clear hb0; rw [mkB_list])
        | (go_at_call 48; refine (parts_l _ _ (Nat.le_trans (List.length_take_le' _ _) H1.out)).mono ?_; rintro e w1 ⟨a, c, rfl, hst, _, hb1⟩; have HROW := Lib.hid (row_keep HROW0.out hb1); have HB := Lib.hid (bel_step HB0.out hb1); clear hb1; clear hst; rw [HLS.out]; obtain ⟨c0, c1, c2, c3, f0, f1, f2, f3⟩ := row4 HROW.out))
      try simp only [Exit.inBlock, Exit.then]
      exact bodyPost_ret (v := .tuple #[.agg zeroV4, .int .i64 1]) (results_cell_tmp (fn := Try.f44) (p := 2) (q := 3) (ty := 64) rfl _ _ w.heap.size 64 zeroV4 (0, 0) _ rfl (row4_set HROW.out _ _ _ _) Try.underlying64 rfl Try.size_ver) rfl ⟨_, rfl, by rw [HVO.out]; exact verin_zero _, fresh_zero _, (((HB.out.setCell (Nat.le_refl _) _).setCell (Nat.le_refl _) _).setCell (Nat.le_refl _) _).setCell (Nat.le_refl _) _⟩
end Go.Proofs.Ythmnoepdedjhjaa
