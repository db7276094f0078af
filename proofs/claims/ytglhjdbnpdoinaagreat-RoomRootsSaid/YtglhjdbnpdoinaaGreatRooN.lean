/- THE TEXTS OF RooG RooH RooI RooJ RooK RooN: The document's: may use be; may nodes be; what is said of nodes. The document's change of use. The document's use of manifests and root requirements. Use that is looked at; lists that are looked at; the chapter's examples; what comes in. The chapter's examples of use. What the laws of use have in common: boxes of limits, first regions' facts, plain facts. -/
import Derived.Test.YtglhjdbnpdoinaaGreatRooF
import Derived.Test.YtglhjdbnpdoinaaGreatDifT
import Derived.Test.YtglhjdbnpdoinaaGreatDifU
import Derived.Laws.AppendOwn
namespace Go.Proofs.YtglhjdbnpdoinaaGreat
open Go.RowKit
set_option linter.unusedVariables false
set_option maxRecDepth 100000

theorem posD_take {l : List De} {k : Nat} (h : k < l.length) : posD (l.take (k + 1)) = (posD (l.take k) && decide (0 ≤ (l.getD k zD).2)) := by
  unfold posD; rw [List.take_succ_eq_append_getElem h, List.all_append, df_getD h]; simp
theorem posD_bad {l : List De} {k : Nat} (h : k < l.length) (hz : (l.getD k zD).2 < 0) : posD l = false := by
  cases e : posD l
  · rfl
  · have := posD_iff.1 e _ (df_mem h); omega

set_option maxHeartbeats 3200000 in
theorem refumay_any (m e : Int) (A : Option Addr) (n c : Nat) (s : List De) (w : World) (h : Dfs w (.slice A n c) s) (ss : ∀ e ∈ s, smallD e) :
    Calls Tryz.prog 16 #[.agg #[.int .i64 m, .int .i64 e, .slice A n c]] w fun x w' => x = .returned (.bool (okU m e s)) ∧ Below w.heap.size w w' := by
  obtain ⟨W, g, hW, hg, r0, hb⟩ := boxU w (.int .i64 m) (.int .i64 e) (.slice A n c) 24
  obtain ⟨d0, d1, d2, -⟩ := row3 r0
  have kd := fun w h => refdmay_any (.slice A n c) s w h ss
  have hl := h.lenE
  obtain ⟨hl1, hl2, hl3⟩ := hl
  unfold maxLen at hl3
  obtain ⟨R, hR⟩ : ∃ R, okU m e s = R := ⟨_, rfl⟩
  rw [hR]
  have S0 := Lib.hid (h.below hb); have KD := Lib.hid kd; have HW := Lib.hid hW; have HG := Lib.hid hg; have BB := Lib.hid hb; have HRR := Lib.hid hR; have HN := Lib.hid hl1
  clear h hb kd hW hg hR ss r0 hl1
  go_enter Tryz.func16, Tryz.ntmps16
  go_upto_region 1 with fail
  rw [HW.out, HG.out]
  go_wp2
  go_loopw [3] (fun i wr => ∃ k : Nat, k ≤ n ∧ i = .int .i64 k ∧ wr = W ∧ Hid (posD (s.take k) = true)) (fun i _ => n - (intOf i).toNat)
  case atStart => exact ⟨0, Nat.zero_le _, rfl, rfl, Lib.hid rfl⟩
  case round =>
    obtain ⟨k, hk, rfl, rfl, HP⟩ := hrel
    by_cases hlt : k < n
    · have hks : k < s.length := by rw [HN.out]; exact hlt
      obtain ⟨b, off, rfl, -, hc0, hc1, hc2⟩ := S0.out.at k hks
      have htk := posD_take hks
      rw [HP.out, Bool.true_and] at htk
      have hbad := posD_bad hks
      obtain ⟨z, hz⟩ : ∃ z, (s.getD k zD).2 = z := ⟨_, rfl⟩
      rw [hz] at hc2 htk hbad
      clear hc0 hc1 hz
      have hkb : (k : Int) < (n : Int) := by omega
      by_cases hz0 : z < 0
      · have dz : decide (z < 0) = true := decide_eq_true hz0
        have hr : okU m e s = false := by unfold okU; rw [hbad hz0]; simp
        rw [HRR.out] at hr
        subst hr
        clear htk hbad hz0
        go_wp2
        go_ret
        exact ⟨rfl, BB.out⟩
      · have dz : decide (z < 0) = false := decide_eq_false hz0
        rw [decide_eq_true (show 0 ≤ z by omega)] at htk
        have HP2 := Lib.hid htk
        clear htk hbad hz0
        go_wp2
        go_roundw
        case rel => exact ⟨k + 1, by omega, by go_num, by first | rfl | trivial, HP2⟩
        case measure => simp [intOf]; omega
    · have e9 : k = n := by omega
      subst e9
      have hpd := HP.out
      rw [List.take_of_length_le (by rw [HN.out]; exact Nat.le_refl _)] at hpd
      have HPD := Lib.hid hpd
      clear hpd HP
      by_cases t0 : 0 ≤ m
      · have g0 : decide (0 ≤ m) = true := decide_eq_true t0
        clear t0
        by_cases t1 : m ≤ 1099511627776
        · have g1 : decide (m ≤ 1099511627776) = true := decide_eq_true t1
          clear t1
          by_cases t2 : 0 ≤ e
          · have g2 : decide (0 ≤ e) = true := decide_eq_true t2
            clear t2
            by_cases t3 : e ≤ 1099511627776
            · have g3 : decide (e ≤ 1099511627776) = true := decide_eq_true t3
              clear t3
              have hm : inU m = true := inU_iff.2 ⟨of_decide_eq_true g0, of_decide_eq_true g1⟩
              have he : inU e = true := inU_iff.2 ⟨of_decide_eq_true g2, of_decide_eq_true g3⟩
              have hr : okU m e s = okD s := by unfold okU; rw [hm, he, HPD.out]; rfl
              rw [HRR.out] at hr
              subst hr
              clear hm he
              go_wp2_with (go_at_call 37; refine (KD.out _ S0.out).mono ?_; rintro x w1 ⟨rfl, hb1⟩; replace BB := Lib.hid (below_step BB.out hb1); clear hb1)
              go_ret
              exact ⟨rfl, BB.out⟩
            · have g3 : decide (e ≤ 1099511627776) = false := decide_eq_false t3
              have hf : inU e = false := by
                cases q : inU e
                · rfl
                · exact absurd (inU_iff.1 q).2 t3
              have hr : okU m e s = false := by unfold okU; rw [hf]; simp
              rw [HRR.out] at hr
              subst hr
              clear hf t3
              go_wp2
              go_ret
              exact ⟨rfl, BB.out⟩
          · have g2 : decide (0 ≤ e) = false := decide_eq_false t2
            have hf : inU e = false := by
              cases q : inU e
              · rfl
              · exact absurd (inU_iff.1 q).1 t2
            have hr : okU m e s = false := by unfold okU; rw [hf]; simp
            rw [HRR.out] at hr
            subst hr
            clear hf t2
            go_wp2
            go_ret
            exact ⟨rfl, BB.out⟩
        · have g1 : decide (m ≤ 1099511627776) = false := decide_eq_false t1
          have hf : inU m = false := by
            cases q : inU m
            · rfl
            · exact absurd (inU_iff.1 q).2 t1
          have hr : okU m e s = false := by unfold okU; rw [hf]; simp
          rw [HRR.out] at hr
          subst hr
          clear hf t1
          go_wp2
          go_ret
          exact ⟨rfl, BB.out⟩
      · have g0 : decide (0 ≤ m) = false := decide_eq_false t0
        have hf : inU m = false := by
          cases q : inU m
          · rfl
          · exact absurd (inU_iff.1 q).1 t0
        have hr : okU m e s = false := by unfold okU; rw [hf]; simp
        rw [HRR.out] at hr
        subst hr
        clear hf t0
        go_wp2
        go_ret
        exact ⟨rfl, BB.out⟩

set_option maxHeartbeats 1600000 in
theorem refnodes_any (V : Value) (l : List Nd) (w : World) (h : Nds w V l) (sl : ∀ n ∈ l, smallN n) :
    Calls Tryz.prog 19 #[V] w fun x w' => x = .returned (.bool (allN2 l)) ∧ Below w.heap.size w w' := by
  obtain ⟨A, c, rfl, h1, h2, -, -⟩ := h.ex
  unfold maxLen at h2
  obtain ⟨n, hn⟩ : ∃ n, l.length = n := ⟨_, rfl⟩
  rw [hn] at h1 h ⊢
  obtain ⟨R, hR⟩ : ∃ R, allN2 l = R := ⟨_, rfl⟩
  rw [hR]
  have S0 := Lib.hid h; have HN := Lib.hid hn; have HRR := Lib.hid hR; have SL := Lib.hid sl
  clear h hn hR sl
  go_enter Tryz.func19, Tryz.ntmps19
  go_wp2
  go_loopw [3] (fun i wr => ∃ k : Nat, k ≤ n ∧ i = .int .i64 k ∧ Hid (allN2 (l.take k) = true) ∧ Hid (Below w.heap.size w wr)) (fun i _ => n - (intOf i).toNat)
  case atStart => exact ⟨0, Nat.zero_le _, rfl, Lib.hid rfl, Lib.hid (Below.refl _ _)⟩
  case round =>
    obtain ⟨k, hk, rfl, HP, HB⟩ := hrel
    by_cases hlt : k < n
    · have hks : k < l.length := by rw [HN.out]; exact hlt
      obtain ⟨b, off, rfl, -, hc0, hc1⟩ := (S0.out.below HB.out).at k hks
      have htk : allN2 (l.take (k + 1)) = (allN2 (l.take k) && okN (l.getD k ([], []))) := by
        rw [List.take_succ_eq_append_getElem hks, allN2_app, nd_getD hks]; unfold allN2; simp
      rw [HP.out, Bool.true_and] at htk
      have hbad : okN (l.getD k ([], [])) = false → allN2 l = false := fun q => by
        cases q2 : allN2 l
        · rfl
        · rw [allN2_iff.1 q2 _ (nd_mem hks)] at q; cases q
      have hsm := SL.out _ (nd_mem hks)
      obtain ⟨y, hy⟩ : ∃ y, l.getD k ([], []) = y := ⟨_, rfl⟩
      rw [hy] at hc0 hc1 htk hbad hsm
      obtain ⟨y1, y2⟩ := y
      simp only at hc0 hc1
      have km := fun w => refnmay_any y1 y2 w hsm.1 hsm.2
      obtain ⟨o, ho⟩ : ∃ o, okN (y1, y2) = o := ⟨_, rfl⟩
      rw [ho] at km htk hbad
      have KM := Lib.hid km
      clear hy km hsm ho
      have hkb : (k : Int) < (n : Int) := by omega
      cases o
      · have hr := hbad rfl
        rw [HRR.out] at hr
        subst hr
        clear htk hbad
        go_wp2_with (go_at_call 25; refine (KM.out _).mono ?_; rintro x w1 ⟨rfl, hb1⟩; replace HB := Lib.hid (below_step HB.out hb1); clear hb1)
        go_ret
        exact ⟨rfl, HB.out⟩
      · have HP2 := Lib.hid htk
        clear htk hbad
        go_wp2_with (go_at_call 25; refine (KM.out _).mono ?_; rintro x w1 ⟨rfl, hb1⟩; replace HB := Lib.hid (below_step HB.out hb1); clear hb1)
        go_roundw
        case rel => exact ⟨k + 1, by omega, by go_num, HP2, HB⟩
        case measure => simp [intOf]; omega
    · have e9 : k = n := by omega
      subst e9
      have hpd := HP.out
      rw [List.take_of_length_le (by rw [HN.out]; exact Nat.le_refl _), HRR.out] at hpd
      subst hpd
      go_wp2
      go_ret
      exact ⟨rfl, HB.out⟩

set_option maxHeartbeats 800000 in
theorem saidmore_any (V : Value) (l : List Nd) (w : World) (h : Nds w V l) (sl : ∀ n ∈ l, smallN n) (ol : ∀ n ∈ l, okN n = true) (ll : l.length ≤ 100000) :
    Calls Tryz.prog 41 #[V, .int .i64 (1)] w fun x w' => ∃ v, x = .returned v ∧ w'.ownsRow w.heap.size 56 3 v (difL [] l).length (dfC (difL [] l)) ∧ Below w.heap.size w w' := by
  obtain ⟨A, c, rfl, h1, h2, -, -⟩ := h.ex
  unfold maxLen at h2
  have kd := fun w h => refdiff_any (.slice none 0 0) (.slice A l.length c) [] l w (nds_none w) h (fun _ hn => by cases hn) sl (by simpa using ol) (by simp) ll
  obtain ⟨X, hX⟩ : ∃ X, difL [] l = X := ⟨_, rfl⟩
  rw [hX] at kd ⊢
  obtain ⟨n, hn⟩ : ∃ n, l.length = n := ⟨_, rfl⟩
  rw [hn] at h h1 kd ⊢
  have S0 := Lib.hid h; have KD := Lib.hid kd
  clear h kd sl ol ll hX hn
  go_enter Tryz.func41, Tryz.ntmps41
  go_wp2_with (go_at_call 54; refine (KD.out _ S0.out).mono ?_; rintro x w1 ⟨v1, rfl, hrow, hb1⟩; have HROW := Lib.hid hrow; have BB := Lib.hid hb1; clear hb1 hrow)
  go_ret
  exact ⟨_, rfl, HROW.out, BB.out⟩

set_option maxHeartbeats 800000 in
theorem saidless_any (V : Value) (l : List Nd) (w : World) (h : Nds w V l) (sl : ∀ n ∈ l, smallN n) (ol : ∀ n ∈ l, okN n = true) (ll : l.length ≤ 100000) :
    Calls Tryz.prog 41 #[V, .int .i64 (-1)] w fun x w' => ∃ v, x = .returned v ∧ w'.ownsRow w.heap.size 56 3 v (difL l []).length (dfC (difL l [])) ∧ Below w.heap.size w w' := by
  obtain ⟨A, c, rfl, h1, h2, -, -⟩ := h.ex
  unfold maxLen at h2
  have kd := fun w h => refdiff_any (.slice A l.length c) (.slice none 0 0) l [] w h (nds_none w) sl (fun _ hn => by cases hn) (by simpa using ol) ll (by simp)
  obtain ⟨X, hX⟩ : ∃ X, difL l [] = X := ⟨_, rfl⟩
  rw [hX] at kd ⊢
  obtain ⟨n, hn⟩ : ∃ n, l.length = n := ⟨_, rfl⟩
  rw [hn] at h h1 kd ⊢
  have S0 := Lib.hid h; have KD := Lib.hid kd
  clear h kd sl ol ll hX hn
  go_enter Tryz.func41, Tryz.ntmps41
  go_wp2_with (go_at_call 54; refine (KD.out _ S0.out).mono ?_; rintro x w1 ⟨v1, rfl, hrow, hb1⟩; have HROW := Lib.hid hrow; have BB := Lib.hid hb1; clear hb1 hrow)
  go_ret
  exact ⟨_, rfl, HROW.out, BB.out⟩
end Go.Proofs.YtglhjdbnpdoinaaGreat

namespace Go.Proofs.YtglhjdbnpdoinaaGreat
open Go.RowKit
set_option linter.unusedVariables false
set_option maxRecDepth 100000

theorem bin_mul {w : World} {a b z : Int} (h : IntKind.i64.wrap (a * b) = z) : Sem.run Tryz.prog (binOp .mul 3 (.int .i64 a) (.int .i64 b)) w = .ok (.int .i64 z) w := by
  go_simp
theorem ld_dfs {w : World} {g i n c : Nat} {a : Option Addr} (h : w.cell? ⟨g, i, none⟩ = some (.slice a n c)) : Sem.run Tryz.prog (Instr.loadAt 22 (.pointer (some ⟨g, i, none⟩))) w = .ok (.slice a n c) w := by
  go_simp
theorem build_use {w : World} {m e : Int} {A : Option Addr} {n c : Nat} : Sem.run Tryz.prog (Instr.build 24 #[(0, .int .i64 m), (1, .int .i64 e), (2, .slice A n c)]) w = .ok (.agg #[.int .i64 m, .int .i64 e, .slice A n c]) w := by go_simp
theorem ld_useC {w : World} {g : Nat} {m e : Int} {A : Option Addr} {n c : Nat} (d0 : w.cell? ⟨g, 0, none⟩ = some (.int .i64 m)) (d1 : w.cell? ⟨g, 1, none⟩ = some (.int .i64 e)) (d2 : w.cell? ⟨g, 2, none⟩ = some (.slice A n c)) : Sem.run Tryz.prog (Instr.loadAt 24 (.pointer (some ⟨g, 0, none⟩))) w = .ok (.agg #[.int .i64 m, .int .i64 e, .slice A n c]) w := by
  go_simp
/-! ### Boxes of three cells that a region makes, and fills -/
def cell3P (N : Nat) (t : TypeId) (x y z : Value) : World → Value → Option Nat → Prop := fun w v ob => ∃ b, v = .pointer (some ⟨b, 0, none⟩) ∧ ob = some b ∧ N ≤ b ∧ w.heap[b]? = some (.cells #[x, y, z] t (0, 0))
theorem cell3P_near {N : Nat} {t : TypeId} {x y z : Value} : ∀ (w w' : World) (v : Value) (ob : Option Nat), (∀ b, ob = some b → w'.heap[b]? = w.heap[b]?) → cell3P N t x y z w v ob → cell3P N t x y z w' v ob := by
  rintro w w' v ob hb ⟨b, rfl, rfl, hN, h⟩
  exact ⟨b, rfl, rfl, hN, (hb b rfl).trans h⟩
def tie3P (N : Nat) (t : TypeId) : World → Value → Value → Option Nat → Prop := fun w v u ob => ∃ b x y z, v = .pointer (some ⟨b, 0, none⟩) ∧ ob = some b ∧ u = .agg #[x, y, z] ∧ N ≤ b ∧ w.heap[b]? = some (.cells #[x, y, z] t (0, 0))
theorem tie3P_near {N : Nat} {t : TypeId} : ∀ (w w' : World) (v u : Value) (ob : Option Nat), (∀ b, ob = some b → w'.heap[b]? = w.heap[b]?) → tie3P N t w v u ob → tie3P N t w' v u ob := by
  rintro w w' v u ob hb ⟨b, x, y, z, rfl, rfl, rfl, hN, h⟩
  exact ⟨b, x, y, z, rfl, rfl, rfl, hN, (hb b rfl).trans h⟩
theorem ex_alloc3 {P : Program} {a : Act} {w : World} {o : Oper} {t : TypeId} (hop : o.op = .alloc t) {v : Value} {w' : World} (hr : Sem.run P (Instr.alloc t true (.tuple #[])) w = .ok v w') : Sem.run P (execOp a.eval o) w = .ok (.value v) w' := by
  simp only [execOp, hop]
  simp [hr]
section
variable {ops : Array Oper} {Q : Exit → Act → World → Prop} {a : Act} {w w0 : World} {who : Nat → Nat} {i B r ro : Nat} {o : Oper}
theorem rol_alloc_use (ho : ops[i]? = some o) (hw : Region.wanted o (yielded ops a.tmps) = true) {s : Nat} (hd : o.dst = some s) (hs : s < a.tmps.size) (hop : o.op = .alloc 24) {N : Nat} (hb : Below B w0 w) (hB : B ≤ N) (hN : N ≤ w.heap.size) :
    wpOp Tryz.prog ops Q i (RPost ops i r ro (.mem s (cell3P N 24 (.int .i64 0) (.int .i64 0) (.slice none 0 0))) B w0 a w who) a w :=
  rol_newO ho hw hd hs (x := .cells #[.int .i64 0, .int .i64 0, .slice none 0 0] 24) (v := .pointer (some ⟨w.heap.size, 0, none⟩)) (ex_alloc3 hop (by go_simp)) ⟨w.heap.size, rfl, rfl, hN, heap_alloc_new _ _⟩ hb (Nat.le_trans hB hN)
theorem rol_fill_use (ho : ops[i]? = some o) (hw : Region.wanted o (yielded ops a.tmps) = true) (hd : o.dst = none) {s t : Nat} (hop : o.op = .store 24 (.tmp s) (.tmp t)) {N : Nat} {x0 y0 z0 : Value} {ty : TypeId} (h : (RLeaf.mem s (cell3P N ty x0 y0 z0)).holds r a w who) {N2 : Nat} {m e : Int} {l : List De} {r2 : Nat} (h2 : (RLeaf.mem t (useG N2 m e l)).holds r2 a w who)
    (hb : Below B w0 w) (hB : B ≤ N) : wpOp Tryz.prog ops Q i (RPost ops i r r (.mem2 s t (tie3P N ty)) B w0 a w who) a w := by
  obtain ⟨v, ob, hv, hob, b, rfl, rfl, hN, hh⟩ := h
  obtain ⟨u, bs, hu, -, x, rfl, hrow, -⟩ := h2
  obtain ⟨A, c, rfl, -⟩ := dfsO hrow
  obtain ⟨hlt, hwho⟩ := hob b rfl
  refine rol_wp ho hw ?_
  have hr := ex_store (a := a) hop (eval_slot hv) (eval_slot hu) (store_use hh)
  unfold Oper.wp
  rw [hr, Oper.upon_skip, hd]
  refine ⟨⟨undef, by rw [dst_of ho, hd]⟩, ((hb.setCell (Nat.le_trans hB hN) _).setCell (Nat.le_trans hB hN) _).setCell (Nat.le_trans hB hN) _, who, ⟨fun k _ hk2 => ?_, fun _ _ => rfl, by simp [World.setCell]⟩, _, _, some b, hv, hu, fun k e => ?_, b, _, _, _, rfl, rfl, rfl, hN, row3_set hh _ _ _⟩
  · have hne : k ≠ b := fun e => hk2 (by rw [e]; exact hwho)
    rw [Below.heap_setCell _ ⟨b, 2, none⟩ _ k hne, Below.heap_setCell _ ⟨b, 1, none⟩ _ k hne, Below.heap_setCell _ ⟨b, 0, none⟩ _ k hne]
  · cases e
    exact ⟨by simp [World.setCell]; exact hlt, hwho⟩
/-- Use, told by its value, is put into a box of before. -/
theorem rol_boxV (ho : ops[i]? = some o) (hw : Region.wanted o (yielded ops a.tmps) = true) (hd : o.dst = none) {x y : Operand} {g : Nat} (hop : o.op = .store 24 x y) (hx : a.eval x = .pointer (some ⟨g, 0, none⟩)) {m e : Int} {A : Option Addr} {n c : Nat} (hy : a.eval y = .agg #[.int .i64 m, .int .i64 e, .slice A n c])
    {x0 y0 z0 : Value} {ty : TypeId} (hg : (RLeaf.box g (.cells #[x0, y0, z0] ty)).holds r a w who) (hb : Below B w0 w) (hB : B ≤ g) : wpOp Tryz.prog ops Q i (RPost ops i r r (.box g (.cells #[.int .i64 m, .int .i64 e, .slice A n c] ty)) B w0 a w who) a w :=
  rol_store ho hw hd (ex_store hop hx hy (store_use hg.1)) hg (row3_set hg.1 _ _ _) (fun k hne => by rw [Below.heap_setCell _ ⟨g, 2, none⟩ _ k hne, Below.heap_setCell _ ⟨g, 1, none⟩ _ k hne, Below.heap_setCell _ ⟨g, 0, none⟩ _ k hne]) (by simp [World.setCell]) (((hb.setCell hB _).setCell hB _).setCell hB _)
end

set_option maxHeartbeats 3200000 in
theorem chmore_any (m e k d : Int) (A : Option Addr) (n c : Nat) (s : List De) (V : Value) (l : List Nd) (w : World) (h : Dfs w (.slice A n c) s) (hV : Nds w V l) (ss : ∀ e ∈ s, smallD e) (sl : ∀ n ∈ l, smallN n) (ol : ∀ n ∈ l, okN n = true) (hok : okU m e s = true) (ls : s.length ≤ 500) (ll : l.length ≤ 400) (hk : -1000000 ≤ k ∧ k ≤ 1000000) (hd : 0 ≤ d ∧ d ≤ 1000000) :
    Calls Tryz.prog 21 #[.agg #[.int .i64 m, .int .i64 e, .slice A n c], .int .i64 k, .int .i64 (1), .int .i64 d, V] w fun x w' => ∃ v, x = .returned (.tuple #[.agg #[.int .i64 (m + k), .int .i64 (e + (1) * d), v], .bool (okU (m + k) (e + (1) * d) (mergeD s (difL [] l)))]) ∧ w'.ownsRow w.heap.size 56 3 v (mergeD s (difL [] l)).length (dfC (mergeD s (difL [] l))) ∧ Below w.heap.size w w' := by
  obtain ⟨W, g, g', hW, hg, hg', r0, r1, hb⟩ := boxU2 w (.int .i64 m) (.int .i64 e) (.slice A n c) (.int .i64 0) (.int .i64 0) (.slice none 0 0) 24 24
  obtain ⟨d0, d1, d2, -⟩ := row3 r0
  obtain ⟨Al, cl, rfl, hl1, hl2, -, -⟩ := hV.ex
  unfold maxLen at hl2
  obtain ⟨p1, p2, p3, p4⟩ := okU_parts hok
  rw [inU_iff] at p1 p2
  have ks := fun w h => saidmore_any (.slice Al l.length cl) l w h sl ol (by omega)
  have hdo : okD (difL [] l) = true := dif_okD (by simpa using ol) (by first | omega | simp) (by first | omega | simp)
  have hds : ∀ e ∈ difL [] l, smallD e := dif_smallU (by simpa using ol) (by first | exact sl | (intro _ hn; cases hn)) (by first | exact sl | (intro _ hn; cases hn)) (by first | omega | simp) (by first | omega | simp)
  have hdl := dif_len [] l
  try rw [List.length_nil] at hdl
  have hml := merge_len s (difL [] l)
  have hms := merge_smallU p4 hdo ss hds
  have kb := fun V w h h' => refboth_any (.slice A n c) V s (difL [] l) w h h' ss hds p4 hdo (by omega) (by omega)
  have km := fun m e A n c w h => refumay_any m e A n c (mergeD s (difL [] l)) w h hms
  obtain ⟨X, hX⟩ : ∃ X, difL [] l = X := ⟨_, rfl⟩
  rw [hX] at ks kb km ⊢
  obtain ⟨Y, hY⟩ : ∃ Y, mergeD s X = Y := ⟨_, rfl⟩
  rw [hY] at kb km ⊢
  obtain ⟨m2, hm2⟩ : ∃ z, m + k = z := ⟨_, rfl⟩
  obtain ⟨z1, hz1⟩ : ∃ z, (1 : Int) * d = z := ⟨_, rfl⟩
  obtain ⟨e2, he2⟩ : ∃ z, e + z1 = z := ⟨_, rfl⟩
  have t1 : IntKind.i64.wrap (m + k) = m2 := by rw [← hm2]; exact IntWalk.i64_in _ (by omega)
  have t2 : IntKind.i64.wrap ((1 : Int) * d) = z1 := by rw [← hz1]; exact IntWalk.i64_in _ (by omega)
  have t3 : IntKind.i64.wrap (e + z1) = e2 := by rw [← he2]; exact IntWalk.i64_in _ (by omega)
  rw [hz1, he2, hm2]
  have km2 := fun A n c w h => km m2 e2 A n c w h
  obtain ⟨R, hR⟩ : ∃ R, okU m2 e2 Y = R := ⟨_, rfl⟩
  rw [hR] at km2 ⊢
  obtain ⟨ny, hny⟩ : ∃ n, Y.length = n := ⟨_, rfl⟩
  obtain ⟨nl, hnl⟩ : ∃ n, l.length = n := ⟨_, rfl⟩
  rw [hnl] at ks hV hl1 ⊢
  have km3 := fun A c w h => km2 A ny c w h
  have hgW := (Array.getElem?_eq_some_iff.1 r1).1
  have SS := Lib.hid (h.below hb); have SV := Lib.hid (hV.below hb); have KS := Lib.hid ks; have KB := Lib.hid kb; have KM := Lib.hid km3; have HW := Lib.hid hW; have HG := Lib.hid hg; have HG' := Lib.hid hg'; have BB := Lib.hid hb; have R1 := Lib.hid r1; have HLE := Lib.hid (show w.heap.size ≤ g' by omega); have HNY := Lib.hid hny; have T1 := Lib.hid t1; have T2 := Lib.hid t2; have T3 := Lib.hid t3; have HGW := Lib.hid hgW
  clear h hV ks kb km km2 km3 hW hg hg' hb r0 r1 hny hnl t1 t2 t3 hR hm2 hz1 he2 hY hX hdo hds hdl hml hms p1 p2 p3 p4 hok ss sl ol hk hd hgW
  have e1 : ∀ args w, (callFunc 41 args).run Tryz.prog w = .ok (.enter 41 args) w := enters_of Tryz.func41 (by kernel_rfl) rfl
  have e2' : ∀ args w, (callFunc 40 args).run Tryz.prog w = .ok (.enter 40 args) w := enters_of Tryz.func40 (by kernel_rfl) rfl
  have e3 : ∀ args w, (callFunc 16 args).run Tryz.prog w = .ok (.enter 16 args) w := enters_of Tryz.func16 (by kernel_rfl) rfl
  go_enter Tryz.func21, Tryz.ntmps21
  go_upto_region 1 with fail
  rw [HW.out, HG'.out, HG.out]
  refine rol_run (by kernel_rfl) [[], [0], [], [0, 1, 2], [], [4], [], [], [6, 7], [4, 5, 6, 7, 8], [], [10], [], [], [12, 13], [10, 11, 12, 13, 14], [0, 1, 2, 3, 4, 5, 6, 7, 8, 9, 10, 11, 12, 13, 14, 15], [], [0, 1, 2, 3, 4, 5, 6, 7, 8, 9, 10, 11, 12, 13, 14, 15, 16, 17]] (by kernel_rfl) [13, 14, 15, 16, 17, 18, 19, 20, 21, 22, 23, 24, 25, 26, 27, 28, 29, 12] [[], [0], [], [1, 2], [], [4], [], [], [6, 7], [5, 8], [], [10], [], [], [12, 13], [11, 14], [3, 9, 15], [], [16, 17]] [0, 0, 0, 0, 0, 0, 0, 0, 0, 0, 0, 0, 0, 0, 1, 1, 1, 2, 2] [0, 0, 0, 0, 0, 0, 0, 0, 0, 0, 0, 0, 0, 0, 0, 0, 0, 0, 2] [1000, 1000, 1000, 1000, 1000, 1000, 1000, 1000, 1000, 1000, 1000, 1000, 1000, 1000, 1000, 1000, 1000, 18, 1000] [.val 13 (.pointer (some ⟨g, 0, none⟩)), .val 14 (.int .i64 m), .val 15 (.int .i64 k), .val 16 (.int .i64 m2), .val 17 (.pointer (some ⟨g, 1, none⟩)), .val 18 (.int .i64 e), .val 19 (.int .i64 (1)), .val 20 (.int .i64 d), .val 21 (.int .i64 z1), .val 22 (.int .i64 e2), .val 23 (.pointer (some ⟨g, 2, none⟩)), .val 24 (.slice A n c), .val 25 (.slice Al nl cl), .val 26 (.int .i64 (1)), .mem 27 (rowG W.heap.size 56 3 X.length (dfC X)), .mem 28 (rowG W.heap.size 56 3 Y.length (dfC Y)), .mem 29 (useG W.heap.size m2 e2 Y), .mem 12 (cell3P W.heap.size 24 (.int .i64 0) (.int .i64 0) (.slice none 0 0)), .mem2 12 29 (tie3P W.heap.size 24)] (by kernel_rfl) ?_ (W.heap.size) (W.heap.size) rfl (Below.refl _ _) rfl (fun _ => 0) ?_ ?_ ?_
  · intro j hj
    have hj3 : j < 19 := hj
    have hj2 : j = 0 ∨ j = 1 ∨ j = 2 ∨ j = 3 ∨ j = 4 ∨ j = 5 ∨ j = 6 ∨ j = 7 ∨ j = 8 ∨ j = 9 ∨ j = 10 ∨ j = 11 ∨ j = 12 ∨ j = 13 ∨ j = 14 ∨ j = 15 ∨ j = 16 ∨ j = 17 ∨ j = 18 := by omega
    clear hj hj3
    rcases hj2 with rfl | rfl | rfl | rfl | rfl | rfl | rfl | rfl | rfl | rfl | rfl | rfl | rfl | rfl | rfl | rfl | rfl | rfl | rfl
    · exact trivial
    · exact trivial
    · exact trivial
    · exact trivial
    · exact trivial
    · exact trivial
    · exact trivial
    · exact trivial
    · exact trivial
    · exact trivial
    · exact trivial
    · exact trivial
    · exact trivial
    · exact trivial
    · exact rowG_near
    · exact rowG_near
    · exact useG_near
    · exact cell3P_near
    · exact tie3P_near
  · intro j hj0 hj
    exact absurd hj (Nat.not_lt.2 hj0)
  · intro i hi a wx who hG hF
    have hz : a.tmps.size = 33 := hG.size
    have hi3 : i < 19 := hi
    have hi2 : i = 0 ∨ i = 1 ∨ i = 2 ∨ i = 3 ∨ i = 4 ∨ i = 5 ∨ i = 6 ∨ i = 7 ∨ i = 8 ∨ i = 9 ∨ i = 10 ∨ i = 11 ∨ i = 12 ∨ i = 13 ∨ i = 14 ∨ i = 15 ∨ i = 16 ∨ i = 17 ∨ i = 18 := by omega
    clear hi hi3
    rcases hi2 with rfl | rfl | rfl | rfl | rfl | rfl | rfl | rfl | rfl | rfl | rfl | rfl | rfl | rfl | rfl | rfl | rfl | rfl | rfl
    · exact rol_val rfl rfl rfl (by rw [hz]; decide) (ex_field rfl (eval_slot ((hG.slots 5 (by decide)).trans rfl)) (by go_simp)) hG.below
    · exact rol_val rfl rfl rfl (by rw [hz]; decide) (ex_load rfl (eval_slot (hF 0 (by decide))) (ld_num (cell_keep d0 hG.below))) hG.below
    · exact rol_val rfl rfl rfl (by rw [hz]; decide) (ex_move (Or.inl rfl) (eval_slot ((hG.slots 1 (by decide)).trans rfl))) hG.below
    · exact rol_val rfl rfl rfl (by rw [hz]; decide) (ex_bin rfl (eval_slot (hF 1 (by decide))) (eval_slot (hF 2 (by decide))) (by go_simp) (bin_add T1.out)) hG.below
    · exact rol_val rfl rfl rfl (by rw [hz]; decide) (ex_field rfl (eval_slot ((hG.slots 5 (by decide)).trans rfl)) (by go_simp)) hG.below
    · exact rol_val rfl rfl rfl (by rw [hz]; decide) (ex_load rfl (eval_slot (hF 4 (by decide))) (ld_num (cell_keep d1 hG.below))) hG.below
    · exact rol_val rfl rfl rfl (by rw [hz]; decide) (ex_move (Or.inl rfl) (eval_slot ((hG.slots 2 (by decide)).trans rfl))) hG.below
    · exact rol_val rfl rfl rfl (by rw [hz]; decide) (ex_move (Or.inl rfl) (eval_slot ((hG.slots 3 (by decide)).trans rfl))) hG.below
    · exact rol_val rfl rfl rfl (by rw [hz]; decide) (ex_bin rfl (eval_slot (hF 6 (by decide))) (eval_slot (hF 7 (by decide))) (by go_simp) (bin_mul T2.out)) hG.below
    · exact rol_val rfl rfl rfl (by rw [hz]; decide) (ex_bin rfl (eval_slot (hF 5 (by decide))) (eval_slot (hF 8 (by decide))) (by go_simp) (bin_add T3.out)) hG.below
    · exact rol_val rfl rfl rfl (by rw [hz]; decide) (ex_field rfl (eval_slot ((hG.slots 5 (by decide)).trans rfl)) (by go_simp)) hG.below
    · exact rol_val rfl rfl rfl (by rw [hz]; decide) (ex_load rfl (eval_slot (hF 10 (by decide))) (ld_dfs (cell_keep d2 hG.below))) hG.below
    · exact rol_val rfl rfl rfl (by rw [hz]; decide) (ex_move (Or.inl rfl) (eval_slot ((hG.slots 4 (by decide)).trans rfl))) hG.below
    · exact rol_val rfl rfl rfl (by rw [hz]; decide) (ex_move (Or.inl rfl) (eval_slot ((hG.slots 2 (by decide)).trans rfl))) hG.below
    · refine rol_calls rfl rfl rfl (by rw [hz]; decide) (ex_call rfl (by simp [eval_slot (hF 12 (by decide)), eval_slot (hF 13 (by decide))]) e1) (KS.out wx (SV.out.below hG.below)) ?_ hG.below hG.new
      rintro e w1 ⟨u, rfl, hown, hb1⟩
      exact ⟨u, rfl, hb1, .inr (.inl ⟨_, u.ownBlock, rfl, fun b e => hown.lt b e, row_base hown hG.new, rfl⟩)⟩
    · obtain ⟨v', ob, hv, hob, hown, rfl⟩ := hF 14 (by decide)
      refine rol_calls rfl rfl rfl (by rw [hz]; decide) (ex_call rfl (by simp [eval_slot (hF 11 (by decide)), eval_slot hv]) e2') (KB.out v' wx (SS.out.below hG.below) (Dfs.owned hown)) ?_ hG.below hG.new
      rintro e w1 ⟨u, rfl, hown, hb1⟩
      exact ⟨u, rfl, hb1, .inr (.inl ⟨_, u.ownBlock, rfl, fun b e => hown.lt b e, row_base hown hG.new, rfl⟩)⟩
    · exact rol_read rfl rfl rfl (by rw [hz]; decide) (hF 15 (by decide)) (fun v ob hv hp => by
        obtain ⟨hrow, rfl⟩ := hp
        obtain ⟨a9, c9, rfl, -⟩ := dfsO hrow
        exact ⟨_, ex_build rfl (vs := #[(0, .int .i64 m2), (1, .int .i64 e2), (2, .slice a9 Y.length c9)]) (by simp only [List.map_toArray, List.map_cons, List.map_nil, eval_slot (hF 3 (by decide)), eval_slot (hF 9 (by decide)), eval_slot hv]) build_use, _, rfl, hrow, rfl⟩) hG.below
    · exact rol_alloc_use rfl rfl rfl (by rw [hz]; decide) rfl hG.below (Nat.le_refl _) hG.new
    · exact rol_fill_use rfl rfl rfl rfl (hF 17 (by decide)) (hF 16 (by decide)) hG.below (Nat.le_refl _)
  · intro a wx who hG hF
    obtain ⟨v29, ob29, fv29, fo29, fp29⟩ := hF 16 (of_decide_eq_true (by kernel_rfl)) (of_decide_eq_true (by kernel_rfl))
    replace fv29 : a.tmps.getD 29 undef = v29 := eval_slot (s := 29) fv29
    have htie := hF 18 (of_decide_eq_true (by kernel_rfl)) (of_decide_eq_true (by kernel_rfl))
    obtain ⟨p3, u3, ob3, hp3, hu3, -, gx, x3, y3, z3, rfl, -, rfl, hgx, hrow3⟩ := htie
    have q3 : v29 = .agg #[x3, y3, z3] := fv29.symm.trans (eval_slot hu3)
    have fv12 : a.tmps.getD 12 undef = .pointer (some ⟨gx, 0, none⟩) := eval_slot (s := 12) hp3
    clear hp3 hu3 ob3
    have hbx := hG.below
    have hnx := hG.new
    rw [hG.frame]
    simp only [List.foldl_cons, List.foldl_nil, List.setIfInBounds_toArray, List.set_cons_zero, List.set_cons_succ]
    generalize a.tmps.getD 13 undef = u13
    generalize a.tmps.getD 14 undef = u14
    generalize a.tmps.getD 15 undef = u15
    generalize a.tmps.getD 16 undef = u16
    generalize a.tmps.getD 17 undef = u17
    generalize a.tmps.getD 18 undef = u18
    generalize a.tmps.getD 19 undef = u19
    generalize a.tmps.getD 20 undef = u20
    generalize a.tmps.getD 21 undef = u21
    generalize a.tmps.getD 22 undef = u22
    generalize a.tmps.getD 23 undef = u23
    generalize a.tmps.getD 24 undef = u24
    generalize a.tmps.getD 25 undef = u25
    generalize a.tmps.getD 26 undef = u26
    generalize a.tmps.getD 27 undef = u27
    generalize a.tmps.getD 28 undef = u28
    rw [fv29]
    rw [fv12]
    clear hF hG fv29 fv12
    obtain ⟨x9, hx9, hrow, -⟩ := fp29
    obtain ⟨a4, c4, rfl, hd4⟩ := dfsO hrow
    rw [q3] at hx9 ⊢
    injection hx9 with hx9
    injection hx9 with hx9
    injection hx9 with q1 hx9
    injection hx9 with q2 hx9
    injection hx9 with q4 _
    subst q1 q2 q4 q3
    rw [HNY.out] at hd4 hrow3 hrow ⊢
    have SY := Lib.hid hd4; have RX := Lib.hid hrow3; have HROW := Lib.hid hrow; have HGX := Lib.hid (show ¬ gx = g' by have := HGW.out; omega)
    replace R1 := Lib.hid (row_keepB R1.out hbx)
    have HSZ := Lib.hid BB.out.size
    have BW := Lib.hid (below_step BB.out hbx)
    clear fo29 hd4 hrow3 hrow hgx hnx hbx d0 d1 d2
    obtain ⟨wv, hwv⟩ : ∃ v, v = wx := ⟨_, rfl⟩
    subst hwv
    go_upto_region 2 with fail
    refine rol_run (by kernel_rfl) [[], [], [1], [0, 1, 2], [0, 1, 2, 3]] (by kernel_rfl) [30, 31, 32, 11] [[6], [6], [1, 7], [0, 5], [2]] [0, 0, 0, 2, 0, 2, 3, 4] [0, 0, 0, 2, 0] [1000, 1000, 1000, 1000, 1000, 3, 1000, 1000] [.val 30 (.agg #[.int .i64 m2, .int .i64 e2, .slice a4 ny c4]), .val 31 (.agg #[.int .i64 m2, .int .i64 e2, .slice a4 ny c4]), .val 32 (.bool R), .box (g') (.cells #[.int .i64 m2, .int .i64 e2, .slice a4 ny c4] 24), .val 11 (.bool R), .box (g') (.cells #[.int .i64 0, .int .i64 0, .slice none 0 0] 24), .box (gx) (.cells #[.int .i64 m2, .int .i64 e2, .slice a4 ny c4] 24), .mem 12 (rowX (.slice a4 ny c4) W.heap.size 56 3 ny (dfC Y))] (by kernel_rfl) ?_ (w.heap.size) (wv.heap.size) rfl BW.out rfl (fun k => if k = g' then 2 else if k = gx then 3 else 4) ?_ ?_ ?_
    · intro j hj
      have hj3 : j < 8 := hj
      have hj2 : j = 0 ∨ j = 1 ∨ j = 2 ∨ j = 3 ∨ j = 4 ∨ j = 5 ∨ j = 6 ∨ j = 7 := by omega
      clear hj hj3
      rcases hj2 with rfl | rfl | rfl | rfl | rfl | rfl | rfl | rfl
      · exact trivial
      · exact trivial
      · exact trivial
      · exact trivial
      · exact trivial
      · exact trivial
      · exact trivial
      · exact rowX_near
    · intro j hj0 hj
      have hj1 : 5 ≤ j := hj0
      have hj3 : j < 8 := hj
      have hj2 : j = 5 ∨ j = 6 ∨ j = 7 := by omega
      clear hj0 hj hj1 hj3
      rcases hj2 with rfl | rfl | rfl
      · exact ⟨R1.out, if_pos rfl⟩
      · exact ⟨RX.out, (if_neg HGX.out).trans (if_pos rfl)⟩
      · exact ⟨_, _, rfl, fun b e => ⟨(own_lt HROW.out e).2, (if_neg (fun q => own_nebox HROW.out R1.out (by decide) (by rw [← q]; exact e))).trans (if_neg (fun q => own_nebox HROW.out RX.out (by decide) (by rw [← q]; exact e)))⟩, HROW.out, rfl⟩
    · intro i hi a wx who hG hF
      have hz : a.tmps.size = 33 := hG.size
      have hi3 : i < 5 := hi
      have hi2 : i = 0 ∨ i = 1 ∨ i = 2 ∨ i = 3 ∨ i = 4 := by omega
      clear hi hi3
      rcases hi2 with rfl | rfl | rfl | rfl | rfl
      · exact rol_val rfl rfl rfl (by rw [hz]; decide) (ex_load rfl (eval_slot ((hG.slots 12 (by decide)).trans rfl)) (ld_use (hF 6 (by decide)).1)) hG.below
      · exact rol_val rfl rfl rfl (by rw [hz]; decide) (ex_load rfl (eval_slot ((hG.slots 12 (by decide)).trans rfl)) (ld_use (hF 6 (by decide)).1)) hG.below
      · obtain ⟨_, _, -, -, hown, -⟩ := hF 7 (by decide)
        refine rol_call rfl rfl rfl (by rw [hz]; decide) (ex_call rfl (by simp [eval_slot (hF 1 (by decide))]) e3) (KM.out a4 c4 wx (Dfs.owned (es := Y) (by rw [HNY.out]; exact hown))) ?_ hG.below (Nat.le_trans BW.out.size hG.new)
        rintro e w1 ⟨rfl, hb1⟩
        exact ⟨_, rfl, hb1, .inl rfl⟩
      · exact rol_boxV rfl rfl rfl rfl (eval_slot ((hG.slots 10 (by decide)).trans rfl)) (eval_slot (hF 0 (by decide))) (hF 5 (by decide)) hG.below HLE.out
      · exact rol_val rfl rfl rfl (by rw [hz]; decide) (ex_move (Or.inr rfl) (eval_slot (hF 2 (by decide)))) hG.below
    · intro a wx who hG hF
      have fv11 : a.tmps.getD 11 undef = .bool R := eval_slot (s := 11) (hF 4 (of_decide_eq_true (by kernel_rfl)) (of_decide_eq_true (by kernel_rfl)))
      have hbox := hF 3 (of_decide_eq_true (by kernel_rfl)) (of_decide_eq_true (by kernel_rfl))
      have hst := hF 7 (of_decide_eq_true (by kernel_rfl)) (of_decide_eq_true (by kernel_rfl))
      have hbx := hG.below
      have hnx := hG.new
      rw [hG.frame]
      simp only [List.foldl_cons, List.foldl_nil, List.setIfInBounds_toArray, List.set_cons_zero, List.set_cons_succ]
      generalize a.tmps.getD 30 undef = u30
      generalize a.tmps.getD 31 undef = u31
      generalize a.tmps.getD 32 undef = u32
      rw [fv11]
      clear hF hG fv11
      replace hbox := hbox.1
      obtain ⟨_, _, -, -, hown, -⟩ := hst
      have RB := Lib.hid hbox; have HBX := Lib.hid hbx; have HRW := Lib.hid hown
      clear hbox hbx hnx hown
      go_wp2
      try simp only [Exit.inBlock, Exit.then]
      refine bodyPost_ret (v := .tuple #[.agg #[.int .i64 m2, .int .i64 e2, .slice a4 ny c4], .bool R]) (results_cell_tmp (fn := Tryz.f21) (p := 10) (q := 11) (ty := 24) rfl _ _ g' 24 #[.int .i64 m2, .int .i64 e2, .slice a4 ny c4] (0, 0) _ rfl RB.out Tryz.underlying24 rfl Tryz.size_use) rfl ?_
      exact ⟨_, rfl, (by first | exact row_base HRW.out HSZ.out | (rw [HNY.out]; exact row_base HRW.out HSZ.out)), HBX.out⟩

set_option maxHeartbeats 3200000 in
theorem chless_any (m e k d : Int) (A : Option Addr) (n c : Nat) (s : List De) (V : Value) (l : List Nd) (w : World) (h : Dfs w (.slice A n c) s) (hV : Nds w V l) (ss : ∀ e ∈ s, smallD e) (sl : ∀ n ∈ l, smallN n) (ol : ∀ n ∈ l, okN n = true) (hok : okU m e s = true) (ls : s.length ≤ 500) (ll : l.length ≤ 400) (hk : -1000000 ≤ k ∧ k ≤ 1000000) (hd : 0 ≤ d ∧ d ≤ 1000000) :
    Calls Tryz.prog 21 #[.agg #[.int .i64 m, .int .i64 e, .slice A n c], .int .i64 k, .int .i64 (-1), .int .i64 d, V] w fun x w' => ∃ v, x = .returned (.tuple #[.agg #[.int .i64 (m + k), .int .i64 (e + (-1) * d), v], .bool (okU (m + k) (e + (-1) * d) (mergeD s (difL l [])))]) ∧ w'.ownsRow w.heap.size 56 3 v (mergeD s (difL l [])).length (dfC (mergeD s (difL l []))) ∧ Below w.heap.size w w' := by
  obtain ⟨W, g, g', hW, hg, hg', r0, r1, hb⟩ := boxU2 w (.int .i64 m) (.int .i64 e) (.slice A n c) (.int .i64 0) (.int .i64 0) (.slice none 0 0) 24 24
  obtain ⟨d0, d1, d2, -⟩ := row3 r0
  obtain ⟨Al, cl, rfl, hl1, hl2, -, -⟩ := hV.ex
  unfold maxLen at hl2
  obtain ⟨p1, p2, p3, p4⟩ := okU_parts hok
  rw [inU_iff] at p1 p2
  have ks := fun w h => saidless_any (.slice Al l.length cl) l w h sl ol (by omega)
  have hdo : okD (difL l []) = true := dif_okD (by simpa using ol) (by first | omega | simp) (by first | omega | simp)
  have hds : ∀ e ∈ difL l [], smallD e := dif_smallU (by simpa using ol) (by first | exact sl | (intro _ hn; cases hn)) (by first | exact sl | (intro _ hn; cases hn)) (by first | omega | simp) (by first | omega | simp)
  have hdl := dif_len l []
  try rw [List.length_nil] at hdl
  have hml := merge_len s (difL l [])
  have hms := merge_smallU p4 hdo ss hds
  have kb := fun V w h h' => refboth_any (.slice A n c) V s (difL l []) w h h' ss hds p4 hdo (by omega) (by omega)
  have km := fun m e A n c w h => refumay_any m e A n c (mergeD s (difL l [])) w h hms
  obtain ⟨X, hX⟩ : ∃ X, difL l [] = X := ⟨_, rfl⟩
  rw [hX] at ks kb km ⊢
  obtain ⟨Y, hY⟩ : ∃ Y, mergeD s X = Y := ⟨_, rfl⟩
  rw [hY] at kb km ⊢
  obtain ⟨m2, hm2⟩ : ∃ z, m + k = z := ⟨_, rfl⟩
  obtain ⟨z1, hz1⟩ : ∃ z, (-1 : Int) * d = z := ⟨_, rfl⟩
  obtain ⟨e2, he2⟩ : ∃ z, e + z1 = z := ⟨_, rfl⟩
  have t1 : IntKind.i64.wrap (m + k) = m2 := by rw [← hm2]; exact IntWalk.i64_in _ (by omega)
  have t2 : IntKind.i64.wrap ((-1 : Int) * d) = z1 := by rw [← hz1]; exact IntWalk.i64_in _ (by omega)
  have t3 : IntKind.i64.wrap (e + z1) = e2 := by rw [← he2]; exact IntWalk.i64_in _ (by omega)
  rw [hz1, he2, hm2]
  have km2 := fun A n c w h => km m2 e2 A n c w h
  obtain ⟨R, hR⟩ : ∃ R, okU m2 e2 Y = R := ⟨_, rfl⟩
  rw [hR] at km2 ⊢
  obtain ⟨ny, hny⟩ : ∃ n, Y.length = n := ⟨_, rfl⟩
  obtain ⟨nl, hnl⟩ : ∃ n, l.length = n := ⟨_, rfl⟩
  rw [hnl] at ks hV hl1 ⊢
  have km3 := fun A c w h => km2 A ny c w h
  have hgW := (Array.getElem?_eq_some_iff.1 r1).1
  have SS := Lib.hid (h.below hb); have SV := Lib.hid (hV.below hb); have KS := Lib.hid ks; have KB := Lib.hid kb; have KM := Lib.hid km3; have HW := Lib.hid hW; have HG := Lib.hid hg; have HG' := Lib.hid hg'; have BB := Lib.hid hb; have R1 := Lib.hid r1; have HLE := Lib.hid (show w.heap.size ≤ g' by omega); have HNY := Lib.hid hny; have T1 := Lib.hid t1; have T2 := Lib.hid t2; have T3 := Lib.hid t3; have HGW := Lib.hid hgW
  clear h hV ks kb km km2 km3 hW hg hg' hb r0 r1 hny hnl t1 t2 t3 hR hm2 hz1 he2 hY hX hdo hds hdl hml hms p1 p2 p3 p4 hok ss sl ol hk hd hgW
  have e1 : ∀ args w, (callFunc 41 args).run Tryz.prog w = .ok (.enter 41 args) w := enters_of Tryz.func41 (by kernel_rfl) rfl
  have e2' : ∀ args w, (callFunc 40 args).run Tryz.prog w = .ok (.enter 40 args) w := enters_of Tryz.func40 (by kernel_rfl) rfl
  have e3 : ∀ args w, (callFunc 16 args).run Tryz.prog w = .ok (.enter 16 args) w := enters_of Tryz.func16 (by kernel_rfl) rfl
  go_enter Tryz.func21, Tryz.ntmps21
  go_upto_region 1 with fail
  rw [HW.out, HG'.out, HG.out]
  refine rol_run (by kernel_rfl) [[], [0], [], [0, 1, 2], [], [4], [], [], [6, 7], [4, 5, 6, 7, 8], [], [10], [], [], [12, 13], [10, 11, 12, 13, 14], [0, 1, 2, 3, 4, 5, 6, 7, 8, 9, 10, 11, 12, 13, 14, 15], [], [0, 1, 2, 3, 4, 5, 6, 7, 8, 9, 10, 11, 12, 13, 14, 15, 16, 17]] (by kernel_rfl) [13, 14, 15, 16, 17, 18, 19, 20, 21, 22, 23, 24, 25, 26, 27, 28, 29, 12] [[], [0], [], [1, 2], [], [4], [], [], [6, 7], [5, 8], [], [10], [], [], [12, 13], [11, 14], [3, 9, 15], [], [16, 17]] [0, 0, 0, 0, 0, 0, 0, 0, 0, 0, 0, 0, 0, 0, 1, 1, 1, 2, 2] [0, 0, 0, 0, 0, 0, 0, 0, 0, 0, 0, 0, 0, 0, 0, 0, 0, 0, 2] [1000, 1000, 1000, 1000, 1000, 1000, 1000, 1000, 1000, 1000, 1000, 1000, 1000, 1000, 1000, 1000, 1000, 18, 1000] [.val 13 (.pointer (some ⟨g, 0, none⟩)), .val 14 (.int .i64 m), .val 15 (.int .i64 k), .val 16 (.int .i64 m2), .val 17 (.pointer (some ⟨g, 1, none⟩)), .val 18 (.int .i64 e), .val 19 (.int .i64 (-1)), .val 20 (.int .i64 d), .val 21 (.int .i64 z1), .val 22 (.int .i64 e2), .val 23 (.pointer (some ⟨g, 2, none⟩)), .val 24 (.slice A n c), .val 25 (.slice Al nl cl), .val 26 (.int .i64 (-1)), .mem 27 (rowG W.heap.size 56 3 X.length (dfC X)), .mem 28 (rowG W.heap.size 56 3 Y.length (dfC Y)), .mem 29 (useG W.heap.size m2 e2 Y), .mem 12 (cell3P W.heap.size 24 (.int .i64 0) (.int .i64 0) (.slice none 0 0)), .mem2 12 29 (tie3P W.heap.size 24)] (by kernel_rfl) ?_ (W.heap.size) (W.heap.size) rfl (Below.refl _ _) rfl (fun _ => 0) ?_ ?_ ?_
  · intro j hj
    have hj3 : j < 19 := hj
    have hj2 : j = 0 ∨ j = 1 ∨ j = 2 ∨ j = 3 ∨ j = 4 ∨ j = 5 ∨ j = 6 ∨ j = 7 ∨ j = 8 ∨ j = 9 ∨ j = 10 ∨ j = 11 ∨ j = 12 ∨ j = 13 ∨ j = 14 ∨ j = 15 ∨ j = 16 ∨ j = 17 ∨ j = 18 := by omega
    clear hj hj3
    rcases hj2 with rfl | rfl | rfl | rfl | rfl | rfl | rfl | rfl | rfl | rfl | rfl | rfl | rfl | rfl | rfl | rfl | rfl | rfl | rfl
    · exact trivial
    · exact trivial
    · exact trivial
    · exact trivial
    · exact trivial
    · exact trivial
    · exact trivial
    · exact trivial
    · exact trivial
    · exact trivial
    · exact trivial
    · exact trivial
    · exact trivial
    · exact trivial
    · exact rowG_near
    · exact rowG_near
    · exact useG_near
    · exact cell3P_near
    · exact tie3P_near
  · intro j hj0 hj
    exact absurd hj (Nat.not_lt.2 hj0)
  · intro i hi a wx who hG hF
    have hz : a.tmps.size = 33 := hG.size
    have hi3 : i < 19 := hi
    have hi2 : i = 0 ∨ i = 1 ∨ i = 2 ∨ i = 3 ∨ i = 4 ∨ i = 5 ∨ i = 6 ∨ i = 7 ∨ i = 8 ∨ i = 9 ∨ i = 10 ∨ i = 11 ∨ i = 12 ∨ i = 13 ∨ i = 14 ∨ i = 15 ∨ i = 16 ∨ i = 17 ∨ i = 18 := by omega
    clear hi hi3
    rcases hi2 with rfl | rfl | rfl | rfl | rfl | rfl | rfl | rfl | rfl | rfl | rfl | rfl | rfl | rfl | rfl | rfl | rfl | rfl | rfl
    · exact rol_val rfl rfl rfl (by rw [hz]; decide) (ex_field rfl (eval_slot ((hG.slots 5 (by decide)).trans rfl)) (by go_simp)) hG.below
    · exact rol_val rfl rfl rfl (by rw [hz]; decide) (ex_load rfl (eval_slot (hF 0 (by decide))) (ld_num (cell_keep d0 hG.below))) hG.below
    · exact rol_val rfl rfl rfl (by rw [hz]; decide) (ex_move (Or.inl rfl) (eval_slot ((hG.slots 1 (by decide)).trans rfl))) hG.below
    · exact rol_val rfl rfl rfl (by rw [hz]; decide) (ex_bin rfl (eval_slot (hF 1 (by decide))) (eval_slot (hF 2 (by decide))) (by go_simp) (bin_add T1.out)) hG.below
    · exact rol_val rfl rfl rfl (by rw [hz]; decide) (ex_field rfl (eval_slot ((hG.slots 5 (by decide)).trans rfl)) (by go_simp)) hG.below
    · exact rol_val rfl rfl rfl (by rw [hz]; decide) (ex_load rfl (eval_slot (hF 4 (by decide))) (ld_num (cell_keep d1 hG.below))) hG.below
    · exact rol_val rfl rfl rfl (by rw [hz]; decide) (ex_move (Or.inl rfl) (eval_slot ((hG.slots 2 (by decide)).trans rfl))) hG.below
    · exact rol_val rfl rfl rfl (by rw [hz]; decide) (ex_move (Or.inl rfl) (eval_slot ((hG.slots 3 (by decide)).trans rfl))) hG.below
    · exact rol_val rfl rfl rfl (by rw [hz]; decide) (ex_bin rfl (eval_slot (hF 6 (by decide))) (eval_slot (hF 7 (by decide))) (by go_simp) (bin_mul T2.out)) hG.below
    · exact rol_val rfl rfl rfl (by rw [hz]; decide) (ex_bin rfl (eval_slot (hF 5 (by decide))) (eval_slot (hF 8 (by decide))) (by go_simp) (bin_add T3.out)) hG.below
    · exact rol_val rfl rfl rfl (by rw [hz]; decide) (ex_field rfl (eval_slot ((hG.slots 5 (by decide)).trans rfl)) (by go_simp)) hG.below
    · exact rol_val rfl rfl rfl (by rw [hz]; decide) (ex_load rfl (eval_slot (hF 10 (by decide))) (ld_dfs (cell_keep d2 hG.below))) hG.below
    · exact rol_val rfl rfl rfl (by rw [hz]; decide) (ex_move (Or.inl rfl) (eval_slot ((hG.slots 4 (by decide)).trans rfl))) hG.below
    · exact rol_val rfl rfl rfl (by rw [hz]; decide) (ex_move (Or.inl rfl) (eval_slot ((hG.slots 2 (by decide)).trans rfl))) hG.below
    · refine rol_calls rfl rfl rfl (by rw [hz]; decide) (ex_call rfl (by simp [eval_slot (hF 12 (by decide)), eval_slot (hF 13 (by decide))]) e1) (KS.out wx (SV.out.below hG.below)) ?_ hG.below hG.new
      rintro e w1 ⟨u, rfl, hown, hb1⟩
      exact ⟨u, rfl, hb1, .inr (.inl ⟨_, u.ownBlock, rfl, fun b e => hown.lt b e, row_base hown hG.new, rfl⟩)⟩
    · obtain ⟨v', ob, hv, hob, hown, rfl⟩ := hF 14 (by decide)
      refine rol_calls rfl rfl rfl (by rw [hz]; decide) (ex_call rfl (by simp [eval_slot (hF 11 (by decide)), eval_slot hv]) e2') (KB.out v' wx (SS.out.below hG.below) (Dfs.owned hown)) ?_ hG.below hG.new
      rintro e w1 ⟨u, rfl, hown, hb1⟩
      exact ⟨u, rfl, hb1, .inr (.inl ⟨_, u.ownBlock, rfl, fun b e => hown.lt b e, row_base hown hG.new, rfl⟩)⟩
    · exact rol_read rfl rfl rfl (by rw [hz]; decide) (hF 15 (by decide)) (fun v ob hv hp => by
        obtain ⟨hrow, rfl⟩ := hp
        obtain ⟨a9, c9, rfl, -⟩ := dfsO hrow
        exact ⟨_, ex_build rfl (vs := #[(0, .int .i64 m2), (1, .int .i64 e2), (2, .slice a9 Y.length c9)]) (by simp only [List.map_toArray, List.map_cons, List.map_nil, eval_slot (hF 3 (by decide)), eval_slot (hF 9 (by decide)), eval_slot hv]) build_use, _, rfl, hrow, rfl⟩) hG.below
    · exact rol_alloc_use rfl rfl rfl (by rw [hz]; decide) rfl hG.below (Nat.le_refl _) hG.new
    · exact rol_fill_use rfl rfl rfl rfl (hF 17 (by decide)) (hF 16 (by decide)) hG.below (Nat.le_refl _)
  · intro a wx who hG hF
    obtain ⟨v29, ob29, fv29, fo29, fp29⟩ := hF 16 (of_decide_eq_true (by kernel_rfl)) (of_decide_eq_true (by kernel_rfl))
    replace fv29 : a.tmps.getD 29 undef = v29 := eval_slot (s := 29) fv29
    have htie := hF 18 (of_decide_eq_true (by kernel_rfl)) (of_decide_eq_true (by kernel_rfl))
    obtain ⟨p3, u3, ob3, hp3, hu3, -, gx, x3, y3, z3, rfl, -, rfl, hgx, hrow3⟩ := htie
    have q3 : v29 = .agg #[x3, y3, z3] := fv29.symm.trans (eval_slot hu3)
    have fv12 : a.tmps.getD 12 undef = .pointer (some ⟨gx, 0, none⟩) := eval_slot (s := 12) hp3
    clear hp3 hu3 ob3
    have hbx := hG.below
    have hnx := hG.new
    rw [hG.frame]
    simp only [List.foldl_cons, List.foldl_nil, List.setIfInBounds_toArray, List.set_cons_zero, List.set_cons_succ]
    generalize a.tmps.getD 13 undef = u13
    generalize a.tmps.getD 14 undef = u14
    generalize a.tmps.getD 15 undef = u15
    generalize a.tmps.getD 16 undef = u16
    generalize a.tmps.getD 17 undef = u17
    generalize a.tmps.getD 18 undef = u18
    generalize a.tmps.getD 19 undef = u19
    generalize a.tmps.getD 20 undef = u20
    generalize a.tmps.getD 21 undef = u21
    generalize a.tmps.getD 22 undef = u22
    generalize a.tmps.getD 23 undef = u23
    generalize a.tmps.getD 24 undef = u24
    generalize a.tmps.getD 25 undef = u25
    generalize a.tmps.getD 26 undef = u26
    generalize a.tmps.getD 27 undef = u27
    generalize a.tmps.getD 28 undef = u28
    rw [fv29]
    rw [fv12]
    clear hF hG fv29 fv12
    obtain ⟨x9, hx9, hrow, -⟩ := fp29
    obtain ⟨a4, c4, rfl, hd4⟩ := dfsO hrow
    rw [q3] at hx9 ⊢
    injection hx9 with hx9
    injection hx9 with hx9
    injection hx9 with q1 hx9
    injection hx9 with q2 hx9
    injection hx9 with q4 _
    subst q1 q2 q4 q3
    rw [HNY.out] at hd4 hrow3 hrow ⊢
    have SY := Lib.hid hd4; have RX := Lib.hid hrow3; have HROW := Lib.hid hrow; have HGX := Lib.hid (show ¬ gx = g' by have := HGW.out; omega)
    replace R1 := Lib.hid (row_keepB R1.out hbx)
    have HSZ := Lib.hid BB.out.size
    have BW := Lib.hid (below_step BB.out hbx)
    clear fo29 hd4 hrow3 hrow hgx hnx hbx d0 d1 d2
    obtain ⟨wv, hwv⟩ : ∃ v, v = wx := ⟨_, rfl⟩
    subst hwv
    go_upto_region 2 with fail
    refine rol_run (by kernel_rfl) [[], [], [1], [0, 1, 2], [0, 1, 2, 3]] (by kernel_rfl) [30, 31, 32, 11] [[6], [6], [1, 7], [0, 5], [2]] [0, 0, 0, 2, 0, 2, 3, 4] [0, 0, 0, 2, 0] [1000, 1000, 1000, 1000, 1000, 3, 1000, 1000] [.val 30 (.agg #[.int .i64 m2, .int .i64 e2, .slice a4 ny c4]), .val 31 (.agg #[.int .i64 m2, .int .i64 e2, .slice a4 ny c4]), .val 32 (.bool R), .box (g') (.cells #[.int .i64 m2, .int .i64 e2, .slice a4 ny c4] 24), .val 11 (.bool R), .box (g') (.cells #[.int .i64 0, .int .i64 0, .slice none 0 0] 24), .box (gx) (.cells #[.int .i64 m2, .int .i64 e2, .slice a4 ny c4] 24), .mem 12 (rowX (.slice a4 ny c4) W.heap.size 56 3 ny (dfC Y))] (by kernel_rfl) ?_ (w.heap.size) (wv.heap.size) rfl BW.out rfl (fun k => if k = g' then 2 else if k = gx then 3 else 4) ?_ ?_ ?_
    · intro j hj
      have hj3 : j < 8 := hj
      have hj2 : j = 0 ∨ j = 1 ∨ j = 2 ∨ j = 3 ∨ j = 4 ∨ j = 5 ∨ j = 6 ∨ j = 7 := by omega
      clear hj hj3
      rcases hj2 with rfl | rfl | rfl | rfl | rfl | rfl | rfl | rfl
      · exact trivial
      · exact trivial
      · exact trivial
      · exact trivial
      · exact trivial
      · exact trivial
      · exact trivial
      · exact rowX_near
    · intro j hj0 hj
      have hj1 : 5 ≤ j := hj0
      have hj3 : j < 8 := hj
      have hj2 : j = 5 ∨ j = 6 ∨ j = 7 := by omega
      clear hj0 hj hj1 hj3
      rcases hj2 with rfl | rfl | rfl
      · exact ⟨R1.out, if_pos rfl⟩
      · exact ⟨RX.out, (if_neg HGX.out).trans (if_pos rfl)⟩
      · exact ⟨_, _, rfl, fun b e => ⟨(own_lt HROW.out e).2, (if_neg (fun q => own_nebox HROW.out R1.out (by decide) (by rw [← q]; exact e))).trans (if_neg (fun q => own_nebox HROW.out RX.out (by decide) (by rw [← q]; exact e)))⟩, HROW.out, rfl⟩
    · intro i hi a wx who hG hF
      have hz : a.tmps.size = 33 := hG.size
      have hi3 : i < 5 := hi
      have hi2 : i = 0 ∨ i = 1 ∨ i = 2 ∨ i = 3 ∨ i = 4 := by omega
      clear hi hi3
      rcases hi2 with rfl | rfl | rfl | rfl | rfl
      · exact rol_val rfl rfl rfl (by rw [hz]; decide) (ex_load rfl (eval_slot ((hG.slots 12 (by decide)).trans rfl)) (ld_use (hF 6 (by decide)).1)) hG.below
      · exact rol_val rfl rfl rfl (by rw [hz]; decide) (ex_load rfl (eval_slot ((hG.slots 12 (by decide)).trans rfl)) (ld_use (hF 6 (by decide)).1)) hG.below
      · obtain ⟨_, _, -, -, hown, -⟩ := hF 7 (by decide)
        refine rol_call rfl rfl rfl (by rw [hz]; decide) (ex_call rfl (by simp [eval_slot (hF 1 (by decide))]) e3) (KM.out a4 c4 wx (Dfs.owned (es := Y) (by rw [HNY.out]; exact hown))) ?_ hG.below (Nat.le_trans BW.out.size hG.new)
        rintro e w1 ⟨rfl, hb1⟩
        exact ⟨_, rfl, hb1, .inl rfl⟩
      · exact rol_boxV rfl rfl rfl rfl (eval_slot ((hG.slots 10 (by decide)).trans rfl)) (eval_slot (hF 0 (by decide))) (hF 5 (by decide)) hG.below HLE.out
      · exact rol_val rfl rfl rfl (by rw [hz]; decide) (ex_move (Or.inr rfl) (eval_slot (hF 2 (by decide)))) hG.below
    · intro a wx who hG hF
      have fv11 : a.tmps.getD 11 undef = .bool R := eval_slot (s := 11) (hF 4 (of_decide_eq_true (by kernel_rfl)) (of_decide_eq_true (by kernel_rfl)))
      have hbox := hF 3 (of_decide_eq_true (by kernel_rfl)) (of_decide_eq_true (by kernel_rfl))
      have hst := hF 7 (of_decide_eq_true (by kernel_rfl)) (of_decide_eq_true (by kernel_rfl))
      have hbx := hG.below
      have hnx := hG.new
      rw [hG.frame]
      simp only [List.foldl_cons, List.foldl_nil, List.setIfInBounds_toArray, List.set_cons_zero, List.set_cons_succ]
      generalize a.tmps.getD 30 undef = u30
      generalize a.tmps.getD 31 undef = u31
      generalize a.tmps.getD 32 undef = u32
      rw [fv11]
      clear hF hG fv11
      replace hbox := hbox.1
      obtain ⟨_, _, -, -, hown, -⟩ := hst
      have RB := Lib.hid hbox; have HBX := Lib.hid hbx; have HRW := Lib.hid hown
      clear hbox hbx hnx hown
      go_wp2
      try simp only [Exit.inBlock, Exit.then]
      refine bodyPost_ret (v := .tuple #[.agg #[.int .i64 m2, .int .i64 e2, .slice a4 ny c4], .bool R]) (results_cell_tmp (fn := Tryz.f21) (p := 10) (q := 11) (ty := 24) rfl _ _ g' 24 #[.int .i64 m2, .int .i64 e2, .slice a4 ny c4] (0, 0) _ rfl RB.out Tryz.underlying24 rfl Tryz.size_use) rfl ?_
      exact ⟨_, rfl, (by first | exact row_base HRW.out HSZ.out | (rw [HNY.out]; exact row_base HRW.out HSZ.out)), HBX.out⟩
end Go.Proofs.YtglhjdbnpdoinaaGreat

namespace Go.Proofs.YtglhjdbnpdoinaaGreat
open Go.RowKit
set_option linter.unusedVariables false
set_option maxRecDepth 100000

section
variable {ops : Array Oper} {Q : Exit → Act → World → Prop} {a : Act} {w w0 : World} {who : Nat → Nat} {i B r ro : Nat} {o : Oper}
/-- 'append(row, l...)', the row the region's own. -/
theorem rol_app_ndG (ho : ops[i]? = some o) (hw : Region.wanted o (yielded ops a.tmps) = true) {s : Nat} (hd : o.dst = some s) (hs : s < a.tmps.size) {t : Nat} {x : Operand} (hop : o.op = .call { callee := .builtin .append, args := #[.tmp t, x], argTypes := #[27, 27] })
    {N n : Nat} {K : List Nd} (h : (RLeaf.mem t (rowG N 26 2 n (ndsC K))).holds r a w who) {a0 : Option Addr} {m c : Nat} (hx : a.eval x = .slice a0 m c) {L : List Nd} (hN : Nds w (.slice a0 m c) L) (hlen : n + m ≤ 2000000) (hb : Below B w0 w) (hB : B ≤ N) (hNw : N ≤ w.heap.size) {n' : Nat} {K' : List Nd} (hn : n' = n + m) (hK : K' = K ++ L) :
    wpOp Tryz.prog ops Q i (RPost ops i r r (.mem s (rowG N 26 2 n' (ndsC K'))) B w0 a w who) a w := by
  subst hn hK
  obtain ⟨v, ob, hv, hob, hrow, rfl⟩ := h
  obtain ⟨v', w', hr, h2, h3, h5⟩ := run_app_nd hrow hN hlen hNw o.type
  exact rol_grow ho hw hd hs (ex_append hop (eval_slot hv) hx hr) h3 hob h5 ⟨h2, rfl⟩ hb (Nat.le_trans hB hNw) (fun b e => Nat.le_trans hB (own_lt hrow e).1)
end
theorem ofE_ok {ks : List Nd} {ls : List (List Nd)} {root : List Nd} (h : ls.length = ks.length) (o : ∀ n ∈ root ++ spokeL ks ls, okN n = true) (b : (root ++ spokeL ks ls).length ≤ 500000) (hl : (ks.length : Int) ≤ (root ++ spokeL ks ls).length) :
    ofE ks ls root = (usL ks.length (((root ++ spokeL ks ls).length : Int) - ks.length) (root ++ spokeL ks ls), 0) := by
  rw [ofE_yes h, U0_usL, chg_more (fun _ hn => by cases hn) o (by simp) b (by decide) (by decide) (inU_iff.2 (by omega)) (inU_iff.2 (by omega))]
  simp
theorem spokeL_ge : ∀ (ks : List Nd) (ls : List (List Nd)), ks.length ≤ ls.length → ks.length ≤ (spokeL ks ls).length
  | [], _, _ => Nat.zero_le _
  | _ :: _, [], h => by simp at h
  | x :: ks, y :: ls, h => by
    have ih := spokeL_ge ks ls (by simpa using h)
    rw [spokeL, List.length_append, List.length_cons, List.length_cons]
    omega
/-- A manifest more, its own node told last. -/
theorem us_step {k : Nat} {L yl : List Nd} {y : Nd} (h1 : ∀ n ∈ L, okN n = true) (h2 : ∀ n ∈ y :: yl, okN n = true) (b1 : L.length ≤ 400000) (b2 : yl.length ≤ 400000) :
    mergeD (difL [] L) (difL [] (yl ++ [y])) = difL [] (L ++ (y :: yl)) := by
  have h3 : ∀ n ∈ yl ++ [y], okN n = true := fun n hn => h2 n (by
    rcases List.mem_append.1 hn with q | q
    · exact List.mem_cons_of_mem _ q
    · rw [List.mem_singleton.1 q]; exact List.mem_cons_self)
  have e1 : mergeD (difL [] L) (difL [] (yl ++ [y])) = difL [] (L ++ (yl ++ [y])) := congrArg Us.s (to_more (m := 0) (e := 0) (k := 0) h1 h3 (by omega) (by rw [List.length_append]; simp; omega))
  rw [e1]
  refine difL_perm (by intro n hn; rw [List.nil_append] at hn; rcases List.mem_append.1 hn with q | q; exact h1 n q; exact h3 n q) (by intro n hn; rw [List.nil_append] at hn; rcases List.mem_append.1 hn with q | q; exact h1 n q; exact h2 n q) fun n => ?_
  unfold difF
  rw [cntN_app, cntN_app, cntN_app, cntN_cons y yl, cntN_cons y [], cntN_nil]
  omega
theorem us_root {L root : List Nd} (h1 : ∀ n ∈ L, okN n = true) (h2 : ∀ n ∈ root, okN n = true) (b1 : L.length ≤ 400000) (b2 : root.length ≤ 400000) :
    mergeD (difL [] L) (difL [] root) = difL [] (root ++ L) := by
  have e1 : mergeD (difL [] L) (difL [] root) = difL [] (L ++ root) := congrArg Us.s (to_more (m := 0) (e := 0) (k := 0) h1 h2 (by omega) (by omega))
  rw [e1]
  refine difL_perm (by intro n hn; rw [List.nil_append] at hn; rcases List.mem_append.1 hn with q | q; exact h1 n q; exact h2 n q) (by intro n hn; rw [List.nil_append] at hn; rcases List.mem_append.1 hn with q | q; exact h2 n q; exact h1 n q) fun n => ?_
  unfold difF
  rw [cntN_app, cntN_app]
  omega
theorem dif_le (l : List Nd) : (difL [] l).length ≤ l.length := by have := dif_len [] l; simpa using this

set_option maxHeartbeats 3200000 in
theorem refof_any (U V Z0 : Value) (ks : List Nd) (ls : List (List Nd)) (root : List Nd) (w : World) (hU : Nds w U ks) (hV : NdL w V ls) (hZ : Nds w Z0 root) (sk : ∀ n ∈ ks, smallN n) (sl : ∀ l ∈ ls, ∀ n ∈ l, smallN n) (sr : ∀ n ∈ root, smallN n) (ok : ∀ n ∈ ks, okN n = true) (ol : ∀ l ∈ ls, ∀ n ∈ l, okN n = true) (orr : ∀ n ∈ root, okN n = true) (lk : ks.length ≤ 10) (ll : ∀ l ∈ ls, l.length ≤ 30) (lr : root.length ≤ 30) (hyes : ls.length = ks.length) :
    Calls Tryz.prog 28 #[U, V, Z0] w fun x w' => ∃ v, x = .returned (.agg #[.int .i64 (ofE ks ls root).1.m, .int .i64 (ofE ks ls root).1.e, v]) ∧ w'.ownsRow w.heap.size 56 3 v (ofE ks ls root).1.s.length (dfC (ofE ks ls root).1.s) ∧ Below w.heap.size w w' := by
  obtain ⟨Ak, ck, rfl, hk1, hk2, -, -⟩ := hU.ex
  obtain ⟨Al, cl, rfl, hl1, hl2, -⟩ := hV.ex
  obtain ⟨Ar, cr, rfl, hr1, hr2, -, -⟩ := hZ.ex
  unfold maxLen at hk2 hl2 hr2
  have hsp := spokeL_len 30 ks ls ll
  have hge := spokeL_ge ks ls (by omega)
  have hall : (root ++ spokeL ks ls).length = root.length + (spokeL ks ls).length := List.length_append
  have oA : ∀ k, ∀ x ∈ spokeL (ks.take k) (ls.take k), okN x = true ∧ smallN x := fun k x hx => by
    rcases spokeL_mem _ _ x hx with q | ⟨l, hl, q⟩
    · have := List.mem_of_mem_take q; exact ⟨ok x this, sk x this⟩
    · have := List.mem_of_mem_take hl; exact ⟨ol l this x q, sl l this x q⟩
  have oB : ∀ x ∈ spokeL ks ls, okN x = true ∧ smallN x := fun x hx => oA (max ks.length ls.length) x (by rw [List.take_of_length_le (by omega), List.take_of_length_le (by omega)]; exact hx)
  have oC : ∀ x ∈ root ++ spokeL ks ls, okN x = true := fun x hx => (List.mem_append.1 hx).elim (orr x) fun q => (oB x q).1
  rw [ofE_ok hyes oC (by omega) (by omega)]
  unfold usL
  simp only
  have hlB := dif_le (spokeL ks ls)
  have kc2 := fun A c w h h' => chmore_any (ks.length : Int) ((spokeL ks ls).length - ks.length : Int) 0 root.length A (difL [] (spokeL ks ls)).length c (difL [] (spokeL ks ls)) (.slice Ar root.length cr) root w h h' (dif_smallU (by simpa using fun x y hx => (oB (x, y) hx).1) (fun _ hn => by cases hn) (fun x hx => (oB x hx).2) (by simp) (by omega)) sr orr (show Us.ok (usL (ks.length : Int) ((spokeL ks ls).length - ks.length : Int) (spokeL ks ls)) = true from usL_ok (fun x hx => (oB x hx).1) (by omega) (inU_iff.2 (by omega)) (inU_iff.2 (by omega))) (by omega) (by omega) (by omega) (by omega)
  rw [us_root (fun x hx => (oB x hx).1) orr (by omega) (by omega)] at kc2
  obtain ⟨W, gr, hW, hg, r0, hb⟩ := boxU w (.int .i64 0) (.int .i64 0) (.slice none 0 0) 24
  obtain ⟨n, hn⟩ : ∃ n, ks.length = n := ⟨_, rfl⟩
  obtain ⟨m, hm⟩ : ∃ n, ls.length = n := ⟨_, rfl⟩
  obtain ⟨nr, hnr⟩ : ∃ n, root.length = n := ⟨_, rfl⟩
  have hmn : m = n := by omega
  subst hmn
  rw [hn] at lk hk1 hU kc2 hge hsp ⊢
  rw [hm] at hl1 hV ⊢
  rw [hnr] at lr hr1 hZ hall kc2 ⊢
  obtain ⟨LA, hLA⟩ : ∃ L, spokeL ks ls = L := ⟨_, rfl⟩
  rw [hLA] at kc2 hall hge hsp ⊢
  obtain ⟨XR, hXR⟩ : ∃ L, difL [] (root ++ LA) = L := ⟨_, rfl⟩
  rw [hXR] at kc2 ⊢
  obtain ⟨na, hna⟩ : ∃ n, LA.length = n := ⟨_, rfl⟩
  rw [hna] at kc2 hall hge hsp
  rw [hall]
  have e1 : ∀ args w, (callFunc 21 args).run Tryz.prog w = .ok (.enter 21 args) w := enters_of Tryz.func21 (by kernel_rfl) rfl
  have SK := Lib.hid hU; have SL := Lib.hid hV; have SR := Lib.hid hZ; have KC2 := Lib.hid kc2; have HW := Lib.hid hW; have HG := Lib.hid hg; have BB := Lib.hid hb; have R0 := Lib.hid r0; have HKN := Lib.hid hn; have HLN := Lib.hid hm; have HLL := Lib.hid ll; have HLA := Lib.hid hLA; have HNA := Lib.hid hna; have HOA := Lib.hid oA; have HLR := Lib.hid (show w.heap.size ≤ gr by omega); have HOK := Lib.hid ok; have HSK := Lib.hid sk; have HOL := Lib.hid ol; have HSL := Lib.hid sl
  clear hU hV hZ kc2 hW hg hb r0 hn hm ll hLA hna oA oB oC ok sk ol sl sr orr hnr hlB hyes hXR hall
  go_enter Tryz.func28, Tryz.ntmps28
  go_upto_region 1 with fail
  rw [HW.out, HG.out]
  go_upto_region 2 with fail
  obtain ⟨W1, gu, hW1, hgu, r1, hb1⟩ := boxU W (.int .i64 0) (.int .i64 0) (.slice none 0 0) 24
  rw [hW1, hgu]
  have hgr := (Array.getElem?_eq_some_iff.1 R0.out).1
  have RR0 := Lib.hid (row_keepB R0.out hb1); have RU0 := Lib.hid r1; have HNE := Lib.hid (show ¬ gr = gu by omega); have HLE := Lib.hid (show w.heap.size ≤ gu by have := BB.out.size; omega); have HGG := Lib.hid (show gr < gu by omega)
  replace BB := Lib.hid (below_step BB.out hb1)
  have HGU := Lib.hid (show gu < W1.heap.size from (Array.getElem?_eq_some_iff.1 r1).1)
  clear hW1 hgu r1 hb1 hgr R0
  go_wp2
  go_loopw [8] (fun i wr => ∃ (k : Nat) (ke : Int) (au : Option Addr) (nu cu : Nat), k ≤ m ∧ i = .int .i64 k ∧ Hid (ke = ((spokeL (ks.take k) (ls.take k)).length : Int) - k) ∧ Hid (wr.heap[gu]? = some (.cells #[.int .i64 (k : Int), .int .i64 ke, .slice au nu cu] 24 (0, 0))) ∧ Hid (wr.heap[gr]? = some (.cells #[.int .i64 0, .int .i64 0, .slice none 0 0] 24 (0, 0))) ∧ Hid (wr.ownsRow (gu + 1) 56 3 (.slice au nu cu) nu (dfC (difL [] (spokeL (ks.take k) (ls.take k))))) ∧ Hid (Below w.heap.size w wr)) (fun i _ => m - (intOf i).toNat)
  case atStart => exact ⟨0, 0, none, 0, 0, Nat.zero_le _, rfl, Lib.hid (by simp [spokeL]), RU0, RR0, Lib.hid (World.ownsRow_nil _ _ _ _), BB⟩
  case round =>
    obtain ⟨k, ke, au, nu, cu, hk, rfl, HKE, RU, RR, HROW, HB⟩ := hrel
    have hgd := (Array.getElem?_eq_some_iff.1 RU.out).1
    have HWR := Lib.hid HB.out.size
    by_cases hlt : k < m
    · have hkk : k < ks.length := by rw [HKN.out]; exact hlt
      have hkl : k < ls.length := by rw [HLN.out]; exact hlt
      obtain ⟨bk, ok, rfl, -, kc0, kc1⟩ := SK.out.at k hkk
      obtain ⟨bl, ol, ay, ny, cy, rfl, cy0, hsy⟩ := SL.out.at k hkl
      have htk := spokeL_take ks ls k hkk hkl
      have hyl := HLL.out (ls.getD k []) (by rw [List.getD_eq_getElem?_getD, List.getElem?_eq_getElem hkl]; exact List.getElem_mem hkl)
      have hyo := HOL.out (ls.getD k []) (by rw [List.getD_eq_getElem?_getD, List.getElem?_eq_getElem hkl]; exact List.getElem_mem hkl)
      have hys := HSL.out (ls.getD k []) (by rw [List.getD_eq_getElem?_getD, List.getElem?_eq_getElem hkl]; exact List.getElem_mem hkl)
      have hko := HOK.out _ (nd_mem hkk)
      have hks := HSK.out _ (nd_mem hkk)
      have hpm := spokeL_len 30 (ks.take k) (ls.take k) (fun l hl => HLL.out l (List.mem_of_mem_take hl))
      have hpg := spokeL_ge (ks.take k) (ls.take k) (by rw [List.length_take, List.length_take]; omega)
      rw [List.length_take] at hpm hpg
      have hpo := HOA.out k
      obtain ⟨yl, hyl0⟩ : ∃ y, y = ls.getD k [] := ⟨_, rfl⟩
      obtain ⟨y, hy⟩ : ∃ y, y = ks.getD k ([], []) := ⟨_, rfl⟩
      rw [← hy] at kc0 kc1 htk hko hks
      rw [← hyl0] at hsy htk hyl hyo hys
      obtain ⟨y1, y2⟩ := y
      simp only at kc0 kc1
      have hny := hsy.lenU
      obtain ⟨L, hL⟩ : ∃ L, spokeL (ks.take k) (ls.take k) = L := ⟨_, rfl⟩
      obtain ⟨L2, hL2⟩ : ∃ L, spokeL (ks.take (k + 1)) (ls.take (k + 1)) = L := ⟨_, rfl⟩
      rw [hL, hL2] at htk
      rw [hL] at hpm hpg hpo
      have hke := HKE.out
      rw [hL] at hke
      have hrow := HROW.out
      rw [hL] at hrow
      have hyy : ∀ n ∈ (y1, y2) :: yl, okN n = true := fun n hn => by
        rcases List.mem_cons.1 hn with rfl | q
        · exact hko
        · exact hyo n q
      have hst := us_step (k := k) (fun n hn => (hpo n hn).1) hyy (by omega) (by omega)
      obtain ⟨Z, hZ⟩ : ∃ Z, Z = yl ++ [(y1, y2)] := ⟨_, rfl⟩
      rw [← hZ, ← htk] at hst
      have hZs : ∀ n ∈ Z, okN n = true ∧ smallN n := fun n hn => by
        rw [hZ] at hn
        rcases List.mem_append.1 hn with q | q
        · exact ⟨hyo n q, hys n q⟩
        · rw [List.mem_singleton.1 q]; exact ⟨hko, hks⟩
      have hdL := dif_le L
      have hZl : Z.length = ny + 1 := by rw [hZ, List.length_append, hny.1]; rfl
      have hmk : min k ks.length = k := by omega
      rw [hmk] at hpm hpg
      have hkc := fun V w h h' => chmore_any (k : Int) ke 1 ny au nu cu (difL [] L) V Z w h h' (dif_smallU (by simpa using fun x y hx => (hpo (x, y) hx).1) (fun _ hn => by cases hn) (fun x hx => (hpo x hx).2) (by simp) (by omega)) (fun x hx => (hZs x hx).2) (fun x hx => (hZs x hx).1) (by rw [hke]; exact (show Us.ok (usL (k : Int) ((L.length : Int) - k) L) = true from usL_ok (fun x hx => (hpo x hx).1) (by omega) (inU_iff.2 (by omega)) (inU_iff.2 (by omega)))) (by omega) (by omega) (by omega) (by omega)
      have hL2l : L2.length = L.length + (ny + 1) := by rw [htk, List.length_append, List.length_cons, hny.1]
      have hke2 : ke + 1 * (ny : Int) = (L2.length : Int) - ((k : Int) + 1) := by rw [hke, hL2l]; push_cast; omega
      have hokL : okU ((k : Int) + 1) (ke + 1 * (ny : Int)) (mergeD (difL [] L) (difL [] Z)) = true := by
        rw [hst, hke2]
        exact (show Us.ok (usL ((k : Int) + 1) ((L2.length : Int) - ((k : Int) + 1)) L2) = true from usL_ok (fun x hx => by rw [htk] at hx; rcases List.mem_append.1 hx with q | q; exact (hpo x q).1; exact hyy x q) (by omega) (inU_iff.2 (by omega)) (inU_iff.2 (by omega)))
      rw [hokL, hst] at hkc
      obtain ⟨ke2, hke3⟩ : ∃ z, ke + 1 * (ny : Int) = z := ⟨_, rfl⟩
      rw [hke3] at hkc hke2
      obtain ⟨U, hUU⟩ : ∃ U, difL [] L = U := ⟨_, rfl⟩
      obtain ⟨Y, hYY⟩ : ∃ U, difL [] L2 = U := ⟨_, rfl⟩
      rw [hUU] at hkc hrow
      rw [hYY] at hkc
      have hnu : U.length = nu := by
        have := hrow.1
        rw [dfC_len] at this
        omega
      have HNU := Lib.hid hnu; have KC := Lib.hid hkc; have HLT := Lib.hid hlt; have HYL := Lib.hid hny.1; have HNY := Lib.hid (show ny ≤ 30 by omega); have HZ := Lib.hid hZ; have SY := Lib.hid hsy; have HKE2 := Lib.hid hke2; have HYY := Lib.hid hYY; have HL2 := Lib.hid hL2; have HGD := Lib.hid hgd
      replace HROW := Lib.hid hrow
      clear hkk hkl htk hyl hyo hys hko hks hpm hpg hpo hyl0 hy hny hL hL2 hke hrow hyy hst hZ hZs hdL hZl hmk hkc hL2l hke2 hokL hke3 hUU hYY hnu hgd hsy HKE
      have hkb : (k : Int) < (m : Int) := by omega
      go_upto_region 5 with fail
      refine rol_run (by kernel_rfl) [[], [], [], [1, 2], [1, 2, 3], [1, 2, 3, 4], [], [], [], [7, 8], [7, 8, 9], [6, 7, 8, 9, 10], [], [], [12, 13], [12, 13, 14], [12, 13, 14, 15], [6, 7, 8, 9, 10, 11, 12, 13, 14, 15, 16], [0, 1, 2, 3, 4, 5, 6, 7, 8, 9, 10, 11, 12, 13, 14, 15, 16, 17], [0, 1, 2, 3, 4, 5, 6, 7, 8, 9, 10, 11, 12, 13, 14, 15, 16, 17, 18], [0, 1, 2, 3, 4, 5, 6, 7, 8, 9, 10, 11, 12, 13, 14, 15, 16, 17, 18, 19], [0, 1, 2, 3, 4, 5, 6, 7, 8, 9, 10, 11, 12, 13, 14, 15, 16, 17, 18, 19], [0, 1, 2, 3, 4, 5, 6, 7, 8, 9, 10, 11, 12, 13, 14, 15, 16, 17, 18, 19, 20]] (by kernel_rfl) [17, 18, 19, 20, 21, 22, 23, 24, 25, 26, 27, 28, 29, 30, 31, 32, 33, 34, 35, 16, 36, 37] [[23], [], [], [1, 2], [3], [4], [], [], [], [7, 8], [9], [6, 10], [], [], [12, 13], [14], [15], [11, 16], [0, 5, 17, 25], [18], [19], [19], [20, 23]] [0, 0, 0, 0, 0, 0, 1, 0, 0, 0, 0, 1, 0, 0, 0, 0, 3, 1, 4, 4, 4, 0, 2, 2, 6, 5] [0, 0, 0, 0, 0, 0, 0, 0, 0, 0, 0, 1, 0, 0, 0, 0, 0, 1, 0, 0, 0, 0, 2] [1000, 1000, 1000, 1000, 1000, 1000, 11, 1000, 1000, 1000, 1000, 17, 1000, 1000, 1000, 1000, 1000, 1000, 1000, 1000, 1000, 1000, 1000, 22, 1000, 1000] [.val 17 (.agg #[.int .i64 (k : Int), .int .i64 ke, .slice au nu cu]), .val 18 (.slice (some ⟨bl, ol, none⟩) m cl), .val 19 (.int .i64 (k : Int)), .val 20 (.pointer (some ⟨bl, ol + k, none⟩)), .val 21 (.slice ay ny cy), .val 22 (.int .i64 (ny : Int)), .mem 23 (rowG wr.heap.size 26 2 0 (ndsC [])), .val 24 (.slice (some ⟨bl, ol, none⟩) m cl), .val 25 (.int .i64 (k : Int)), .val 26 (.pointer (some ⟨bl, ol + k, none⟩)), .val 27 (.slice ay ny cy), .mem 28 (rowG wr.heap.size 26 2 yl.length (ndsC yl)), .val 29 (.slice (some ⟨bk, ok, none⟩) m ck), .val 30 (.int .i64 (k : Int)), .val 31 (.pointer (some ⟨bk, ok + k * 2, none⟩)), .val 32 (.agg #[.string (mkB y1), .string (mkB y2)]), .mem 33 (blkG 26 #[.string (mkB y1), .string (mkB y2)] 1), .mem 34 (rowG wr.heap.size 26 2 Z.length (ndsC Z)), .mem 35 (tupU wr.heap.size ((k : Int) + 1) ke2 Y (.bool true)), .mem 16 (tupU wr.heap.size ((k : Int) + 1) ke2 Y (.bool true)), .mem 36 (useG wr.heap.size ((k : Int) + 1) ke2 Y), .val 37 (.bool true), .mem 36 (boxUG gu 24), .box (gu) (.cells #[.int .i64 (k : Int), .int .i64 ke, .slice au nu cu] 24), .box (gr) (.cells #[.int .i64 0, .int .i64 0, .slice none 0 0] 24), .mem 7 (rowX (.slice au nu cu) (gu + 1) 56 3 nu (dfC U))] (by kernel_rfl) ?_ (w.heap.size) (wr.heap.size) rfl HB.out rfl (fun k => if k = gu then 2 else if k = gr then 6 else 5) ?_ ?_ ?_
      · intro j hj
        have hj3 : j < 26 := hj
        have hj2 : j = 0 ∨ j = 1 ∨ j = 2 ∨ j = 3 ∨ j = 4 ∨ j = 5 ∨ j = 6 ∨ j = 7 ∨ j = 8 ∨ j = 9 ∨ j = 10 ∨ j = 11 ∨ j = 12 ∨ j = 13 ∨ j = 14 ∨ j = 15 ∨ j = 16 ∨ j = 17 ∨ j = 18 ∨ j = 19 ∨ j = 20 ∨ j = 21 ∨ j = 22 ∨ j = 23 ∨ j = 24 ∨ j = 25 := by omega
        clear hj hj3
        rcases hj2 with rfl | rfl | rfl | rfl | rfl | rfl | rfl | rfl | rfl | rfl | rfl | rfl | rfl | rfl | rfl | rfl | rfl | rfl | rfl | rfl | rfl | rfl | rfl | rfl | rfl | rfl
        · exact trivial
        · exact trivial
        · exact trivial
        · exact trivial
        · exact trivial
        · exact trivial
        · exact rowG_near
        · exact trivial
        · exact trivial
        · exact trivial
        · exact trivial
        · exact rowG_near
        · exact trivial
        · exact trivial
        · exact trivial
        · exact trivial
        · exact blkG_near
        · exact rowG_near
        · exact tupU_near
        · exact tupU_near
        · exact useG_near
        · exact trivial
        · exact boxUG_near
        · exact trivial
        · exact trivial
        · exact rowX_near
      · intro j hj0 hj
        have hj1 : 23 ≤ j := hj0
        have hj3 : j < 26 := hj
        have hj2 : j = 23 ∨ j = 24 ∨ j = 25 := by omega
        clear hj0 hj hj1 hj3
        rcases hj2 with rfl | rfl | rfl
        · exact ⟨RU.out, if_pos rfl⟩
        · exact ⟨RR.out, (if_neg HNE.out).trans (if_pos rfl)⟩
        · exact ⟨_, _, rfl, fun b e => ⟨(own_lt HROW.out e).2, (if_neg (fun q => own_nebox HROW.out RU.out (by decide) (by rw [← q]; exact e))).trans (if_neg (fun q => own_nebox HROW.out RR.out (by decide) (by rw [← q]; exact e)))⟩, HROW.out, rfl⟩
      · intro i hi a wx who hG hF
        have hz : a.tmps.size = 47 := hG.size
        have hi3 : i < 23 := hi
        have hi2 : i = 0 ∨ i = 1 ∨ i = 2 ∨ i = 3 ∨ i = 4 ∨ i = 5 ∨ i = 6 ∨ i = 7 ∨ i = 8 ∨ i = 9 ∨ i = 10 ∨ i = 11 ∨ i = 12 ∨ i = 13 ∨ i = 14 ∨ i = 15 ∨ i = 16 ∨ i = 17 ∨ i = 18 ∨ i = 19 ∨ i = 20 ∨ i = 21 ∨ i = 22 := by omega
        clear hi hi3
        rcases hi2 with rfl | rfl | rfl | rfl | rfl | rfl | rfl | rfl | rfl | rfl | rfl | rfl | rfl | rfl | rfl | rfl | rfl | rfl | rfl | rfl | rfl | rfl | rfl
        · exact rol_val rfl rfl rfl (by rw [hz]; decide) (ex_load rfl (eval_slot ((hG.slots 7 (by decide)).trans rfl)) (ld_use (hF 23 (by decide)).1)) hG.below
        · exact rol_val rfl rfl rfl (by rw [hz]; decide) (ex_move (Or.inl rfl) (eval_slot ((hG.slots 1 (by decide)).trans rfl))) hG.below
        · exact rol_val rfl rfl rfl (by rw [hz]; decide) (ex_move (Or.inl rfl) (eval_slot ((hG.slots 8 (by decide)).trans rfl))) hG.below
        · exact rol_val rfl rfl rfl (by rw [hz]; decide) (ex_index rfl (eval_slot (hF 1 (by decide))) (eval_slot (hF 2 (by decide))) (idx_ndl HLT.out)) hG.below
        · exact rol_val rfl rfl rfl (by rw [hz]; decide) (ex_load rfl (eval_slot (hF 3 (by decide))) (ld_ndsU (cell_keep cy0 hG.below))) hG.below
        · exact rol_val rfl rfl rfl (by rw [hz]; decide) (ex_len rfl (eval_slot (hF 4 (by decide))) (by go_simp)) hG.below
        · exact rol_newO rfl rfl rfl (by rw [hz]; decide) (x := .cells #[] 26) (v := .slice (some ⟨wx.heap.size, 0, none⟩) 0 0) (ex_slice rfl (vs := #[]) (by simp) (by go_simp)) ⟨row_base (nds_row0 wx) hG.new, rfl⟩ hG.below (Nat.le_trans HWR.out hG.new)
        · exact rol_val rfl rfl rfl (by rw [hz]; decide) (ex_move (Or.inl rfl) (eval_slot ((hG.slots 1 (by decide)).trans rfl))) hG.below
        · exact rol_val rfl rfl rfl (by rw [hz]; decide) (ex_move (Or.inl rfl) (eval_slot ((hG.slots 8 (by decide)).trans rfl))) hG.below
        · exact rol_val rfl rfl rfl (by rw [hz]; decide) (ex_index rfl (eval_slot (hF 7 (by decide))) (eval_slot (hF 8 (by decide))) (idx_ndl HLT.out)) hG.below
        · exact rol_val rfl rfl rfl (by rw [hz]; decide) (ex_load rfl (eval_slot (hF 9 (by decide))) (ld_ndsU (cell_keep cy0 hG.below))) hG.below
        · exact rol_app_ndG rfl rfl rfl (by rw [hz]; decide) rfl (hF 6 (by decide)) (eval_slot (hF 10 (by decide))) (SY.out.below hG.below) (by have := HNY.out; omega) hG.below HWR.out hG.new (by rw [HYL.out, Nat.zero_add]) (List.nil_append _).symm
        · exact rol_val rfl rfl rfl (by rw [hz]; decide) (ex_move (Or.inl rfl) (eval_slot ((hG.slots 0 (by decide)).trans rfl))) hG.below
        · exact rol_val rfl rfl rfl (by rw [hz]; decide) (ex_move (Or.inl rfl) (eval_slot ((hG.slots 8 (by decide)).trans rfl))) hG.below
        · exact rol_val rfl rfl rfl (by rw [hz]; decide) (ex_index rfl (eval_slot (hF 12 (by decide))) (eval_slot (hF 13 (by decide))) (idx_nds HLT.out)) hG.below
        · exact rol_val rfl rfl rfl (by rw [hz]; decide) (ex_load rfl (eval_slot (hF 14 (by decide))) (ld_node (cell_keep kc0 hG.below) (cell_keep kc1 hG.below))) hG.below
        · exact rol_newO rfl rfl rfl (by rw [hz]; decide) (x := .cells #[.string (mkB y1), .string (mkB y2)] 26) (v := .slice (some ⟨wx.heap.size, 0, none⟩) 1 1) (ex_slice rfl (vs := #[(0, .agg #[.string (mkB y1), .string (mkB y2)])]) (by simp only [List.map_toArray, List.map_cons, List.map_nil, eval_slot (hF 15 (by decide))]) (by go_simp)) ⟨_, rfl, rfl, heap_alloc_new _ _⟩ hG.below (Nat.le_trans HWR.out hG.new)
        · obtain ⟨v, ob, hv, hob, b, rfl, rfl, hh⟩ := hF 16 (by decide)
          exact rol_app_ndG rfl rfl rfl (by rw [hz]; decide) rfl (hF 11 (by decide)) (eval_slot hv) (blk_nd hh) (by have := HNY.out; have := HYL.out; omega) hG.below HWR.out hG.new (by rw [HZ.out, List.length_append]; rfl) HZ.out
        · obtain ⟨_, _, -, -, hrw, -⟩ := hF 25 (by decide)
          obtain ⟨v', ob, hv, hob, hown, rfl⟩ := hF 17 (by decide)
          refine rol_calls rfl rfl rfl (by rw [hz]; decide) (ex_call rfl (by simp [eval_slot (hF 0 (by decide)), eval_slot (hF 5 (by decide)), eval_slot hv]; first | rfl | exact ⟨rfl, rfl⟩) e1) (KC.out v' wx (Dfs.owned (by rw [HNU.out]; exact hrw)) (Nds.owned hown)) ?_ hG.below (Nat.le_trans HWR.out hG.new)
          rintro e w1 ⟨u, rfl, hown, hb1⟩
          exact ⟨_, rfl, hb1, .inr (.inl ⟨_, u.ownBlock, rfl, fun b e => hown.lt b e, _, rfl, u, rfl, row_base hown hG.new, rfl⟩)⟩
        · exact rol_move rfl rfl rfl (by rw [hz]; decide) (Or.inl rfl) (hF 18 (by decide)) hG.below
        · exact rol_read rfl rfl rfl (by rw [hz]; decide) (hF 19 (by decide)) (fun v ob hv hp => by
            obtain ⟨u, rfl, hu⟩ := hp
            exact ⟨u, ex_extract rfl (eval_slot hv) rfl, hu⟩) hG.below
        · obtain ⟨v', ob, hv, hob, u, rfl, hu⟩ := hF 19 (by decide)
          exact rol_val rfl rfl rfl (by rw [hz]; decide) (ex_extract rfl (eval_slot hv) rfl) hG.below
        · exact rol_boxU rfl rfl rfl rfl (eval_slot ((hG.slots 7 (by decide)).trans rfl)) (hF 20 (by decide)) (hF 23 (by decide)) hG.below HLE.out
      · intro a wx who hG hF
        obtain ⟨v36, ob36, fv36, fo36, fp36⟩ := hF 20 (of_decide_eq_true (by kernel_rfl)) (of_decide_eq_true (by kernel_rfl))
        replace fv36 : a.tmps.getD 36 undef = v36 := eval_slot (s := 36) fv36
        have hbox := hF 22 (of_decide_eq_true (by kernel_rfl)) (of_decide_eq_true (by kernel_rfl))
        have hbr := hF 24 (of_decide_eq_true (by kernel_rfl)) (of_decide_eq_true (by kernel_rfl))
        obtain ⟨p9, ob9, hp9, -, -, x9, y9, z9, hv9, hrow9⟩ := hbox
        have e9 : v36 = p9 := fv36.symm.trans (eval_slot hp9)
        subst e9
        clear hp9 ob9
        have hbx := hG.below
        have hnx := hG.new
        rw [hG.frame]
        simp only [List.foldl_cons, List.foldl_nil, List.setIfInBounds_toArray, List.set_cons_zero, List.set_cons_succ]
        generalize a.tmps.getD 17 undef = u17
        generalize a.tmps.getD 18 undef = u18
        generalize a.tmps.getD 19 undef = u19
        generalize a.tmps.getD 20 undef = u20
        generalize a.tmps.getD 21 undef = u21
        generalize a.tmps.getD 22 undef = u22
        generalize a.tmps.getD 23 undef = u23
        generalize a.tmps.getD 24 undef = u24
        generalize a.tmps.getD 25 undef = u25
        generalize a.tmps.getD 26 undef = u26
        generalize a.tmps.getD 27 undef = u27
        generalize a.tmps.getD 28 undef = u28
        generalize a.tmps.getD 29 undef = u29
        generalize a.tmps.getD 30 undef = u30
        generalize a.tmps.getD 31 undef = u31
        generalize a.tmps.getD 32 undef = u32
        generalize a.tmps.getD 33 undef = u33
        generalize a.tmps.getD 34 undef = u34
        generalize a.tmps.getD 35 undef = u35
        generalize a.tmps.getD 16 undef = u16
        rw [fv36]
        generalize a.tmps.getD 37 undef = u37
        clear hF hG fv36
        obtain ⟨x, hx, hrow, -⟩ := fp36
        rw [hx] at hv9
        injection hv9 with hv9
        injection hv9 with hv9
        injection hv9 with q1 hv9
        injection hv9 with q2 hv9
        injection hv9 with q3 _
        subst q1 q2 q3 hx
        obtain ⟨a7, c7, rfl, -⟩ := dfsO hrow
        have HRW := Lib.hid hrow; have RU2 := Lib.hid hrow9; have HBN := Lib.hid hbx; have RR2 := Lib.hid hbr.1
        clear fo36 hrow hrow9 hbx hnx hbr
        go_wp2
        go_roundw
        case rel => exact ⟨k + 1, ke2, a7, _, c7, by omega, by go_num, Lib.hid (by rw [HL2.out, HKE2.out]; simp), Lib.hid RU2.out, RR2, Lib.hid (by rw [HL2.out, HYY.out]; exact row_base HRW.out (by have := HGD.out; omega)), HBN⟩
        case measure => simp [intOf]; omega
    · have e9 : k = m := by omega
      subst e9
      have hke := HKE.out
      have hrow := HROW.out
      rw [List.take_of_length_le (by rw [HKN.out]; exact Nat.le_refl _), List.take_of_length_le (by rw [HLN.out]; exact Nat.le_refl _), HLA.out] at hke hrow
      rw [HNA.out] at hke
      have hnu : (difL [] LA).length = nu := by
        have := hrow.1
        rw [dfC_len] at this
        omega
      subst hke
      have kc2 := fun w h => KC2.out au cu w h
      rw [hnu] at kc2
      have SU := Lib.hid (show Dfs wr (.slice au nu cu) (difL [] LA) from Dfs.owned (by rw [hnu]; exact hrow))
      have KC3 := Lib.hid kc2
      replace SR := Lib.hid (SR.out.below HB.out)
      obtain ⟨d0, d1, d2, f0, f1, f2⟩ := row3 RU.out
      have HGD := Lib.hid hgd
      clear hrow hnu kc2 HKE HROW KC2 hgd
      go_upto_region 7 with (go_at_call 21; refine (KC3.out _ SU.out SR.out).mono ?_; rintro x w3 ⟨v3, rfl, hrow, hb1⟩; obtain ⟨a3, c3, rfl, -⟩ := dfsO hrow; have HROW := Lib.hid hrow; replace RU := Lib.hid (row_keepB RU.out hb1); replace RR := Lib.hid (row_keepB RR.out hb1); clear d0 d1 d2 f0 f1 f2; obtain ⟨d0, d1, d2, f0, f1, f2⟩ := row3 RU.out; have HB3 := Lib.hid (below_step HB.out hb1); clear hb1 hrow)
      obtain ⟨ze, hze⟩ : ∃ z, (na : Int) - (k : Int) + (nr : Int) = z := ⟨_, rfl⟩
      rw [hze]
      have HZE := Lib.hid (show ((nr + na : Nat) : Int) - (k : Int) = ze by rw [← hze]; push_cast; omega)
      obtain ⟨w4, hw4⟩ : ∃ v, ((w3.setCell ⟨gu, 0, none⟩ (.int .i64 (k : Int))).setCell ⟨gu, 1, none⟩ (.int .i64 ze)).setCell ⟨gu, 2, none⟩ (.slice a3 XR.length c3) = v := ⟨_, rfl⟩
      have hr2 := row3_set RU.out (.int .i64 (k : Int)) (.int .i64 ze) (.slice a3 XR.length c3)
      have hr3 : (((w3.setCell ⟨gu, 0, none⟩ (.int .i64 (k : Int))).setCell ⟨gu, 1, none⟩ (.int .i64 ze)).setCell ⟨gu, 2, none⟩ (.slice a3 XR.length c3)).heap[gr]? = _ := row_farU (row_farU (row_farU RR.out HNE.out _) HNE.out _) HNE.out _
      have hrw := row_far3 HROW.out HGD.out (.int .i64 (k : Int)) (.int .i64 ze) (.slice a3 XR.length c3)
      have hb4 : Below w.heap.size w (((w3.setCell ⟨gu, 0, none⟩ (.int .i64 (k : Int))).setCell ⟨gu, 1, none⟩ (.int .i64 ze)).setCell ⟨gu, 2, none⟩ (.slice a3 XR.length c3)) := ((HB3.out.setCell HLE.out _).setCell HLE.out _).setCell HLE.out _
      rw [hw4] at hr2 hr3 hrw hb4 ⊢
      clear hw4 d0 d1 d2 f0 f1 f2 hze
      obtain ⟨d0, d1, d2, -⟩ := row3 hr2
      obtain ⟨q0, q1, q2, f0, f1, f2⟩ := row3 hr3
      have HR3 := Lib.hid hr3; have HRW := Lib.hid hrw; have HB4 := Lib.hid hb4
      have HGR := Lib.hid (show gr < wr.heap.size by have := HGG.out; have := HGD.out; omega)
      clear hr2 hr3 hrw hb4
      go_wp2
      try simp only [Exit.inBlock, Exit.then]
      refine bodyPost_ret (v := .agg #[.int .i64 (k : Int), .int .i64 ze, .slice a3 XR.length c3]) (results_cell_row (fn := Tryz.f28) (p := 6) (ty := 24) rfl _ _ gr 24 #[.int .i64 (k : Int), .int .i64 ze, .slice a3 XR.length c3] (0, 0) _ rfl (row3_set HR3.out _ _ _) Tryz.underlying24 rfl Tryz.size_use) rfl ?_
      refine ⟨.slice a3 XR.length c3, by rw [HZE.out], row_base (row_far3 HRW.out HGR.out _ _ _) HB.out.size, ((HB4.out.setCell HLR.out _).setCell HLR.out _).setCell HLR.out _⟩
end Go.Proofs.YtglhjdbnpdoinaaGreat

namespace Go.Proofs.YtglhjdbnpdoinaaGreat
open Go.RowKit Go.ChangeShapes Go.WideShapes
set_option linter.unusedVariables false
set_option maxRecDepth 100000

set_option maxHeartbeats 1600000 in
theorem fewu_any (m e : Int) (A : Option Addr) (n c : Nat) (s : List De) (w : World) (h : Dfs w (.slice A n c) s) (hf : ∀ e ∈ s, fitD e) :
    Calls Tryz.prog 10 #[.agg #[.int .i64 m, .int .i64 e, .slice A n c]] w fun x w' => ∃ v, x = .returned (.agg #[.int .i64 m, .int .i64 e, v]) ∧ w'.ownsRow w.heap.size 56 3 v (fewDs s).length (dfC (fewDs s)) ∧ Below w.heap.size w w' := by
  obtain ⟨W, g, g', hW, hg, hg', r0, r1, hb⟩ := boxU2 w (.int .i64 m) (.int .i64 e) (.slice A n c) (.int .i64 0) (.int .i64 0) (.slice none 0 0) 24 24
  obtain ⟨d0, d1, d2, f0, f1, f2⟩ := row3 r0
  have kc := fun w h => dfewo_any (.slice A n c) s w h hf
  have hgW := (Array.getElem?_eq_some_iff.1 r0).1
  have hgW' := (Array.getElem?_eq_some_iff.1 r1).1
  have S0 := Lib.hid (h.below hb); have KC := Lib.hid kc; have HW := Lib.hid hW; have HG := Lib.hid hg; have HG' := Lib.hid hg'; have BB := Lib.hid hb; have R0 := Lib.hid r0; have R1 := Lib.hid r1; have HGW := Lib.hid hgW; have HGW' := Lib.hid hgW'; have HNE := Lib.hid (show ¬ g = g' by omega); have HLE := Lib.hid (show w.heap.size ≤ g by omega); have HLE' := Lib.hid (show w.heap.size ≤ g' by omega)
  have HWS := Lib.hid hb.size
  clear h hb kc hW hg hg' r0 r1 hf hgW hgW'
  go_enter Tryz.func10, Tryz.ntmps10
  go_upto_region 1 with fail
  rw [HW.out, HG'.out, HG.out]
  go_upto_region 2 with (go_at_call 29; refine (KC.out _ S0.out).mono ?_; rintro x w1 ⟨v1, rfl, hrow, hb1⟩; obtain ⟨a1, c1, rfl, -⟩ := dfsO hrow; have HROW := Lib.hid hrow; replace R0 := Lib.hid (row_keepB R0.out hb1); replace R1 := Lib.hid (row_keepB R1.out hb1); replace BB := Lib.hid (below_step BB.out hb1); clear hb1 hrow d0 d1 d2 f0 f1 f2; obtain ⟨d0, d1, d2, f0, f1, f2⟩ := row3 R0.out)
  obtain ⟨w2, hw2⟩ : ∃ w2, w1.setCell ⟨g, 2, none⟩ (.slice a1 (fewDs s).length c1) = w2 := ⟨_, rfl⟩
  have hr2 := row3_set2 R0.out (.slice a1 (fewDs s).length c1)
  have hr3 := row_farU (i := 2) R1.out (Ne.symm HNE.out) (.slice a1 (fewDs s).length c1)
  have hrow := row_far1 (i := 2) HROW.out HGW.out (.slice a1 (fewDs s).length c1)
  have hb2 : Below w.heap.size w (w1.setCell ⟨g, 2, none⟩ (.slice a1 (fewDs s).length c1)) := BB.out.setCell HLE.out _
  rw [hw2] at hr2 hr3 hrow hb2 ⊢
  clear hw2 d0 d1 d2 f0 f1 f2
  obtain ⟨d0, d1, d2, -⟩ := row3 hr2
  obtain ⟨e0, e1, e2, f0, f1, f2⟩ := row3 hr3
  have HR3 := Lib.hid hr3; have HRW := Lib.hid hrow; have HB2 := Lib.hid hb2; have HSZ := Lib.hid HWS.out
  clear hr2 hr3 hrow hb2
  go_wp2
  try simp only [Exit.inBlock, Exit.then]
  refine bodyPost_ret (v := .agg #[.int .i64 m, .int .i64 e, .slice a1 (fewDs s).length c1]) (results_cell_row (fn := Tryz.f10) (p := 2) (ty := 24) rfl _ _ g' 24 #[.int .i64 m, .int .i64 e, .slice a1 (fewDs s).length c1] (0, 0) _ rfl (row3_set HR3.out _ _ _) Tryz.underlying24 rfl Tryz.size_use) rfl ?_
  exact ⟨_, rfl, row_base (row_far3 HRW.out HGW'.out _ _ _) HSZ.out, ((HB2.out.setCell HLE'.out _).setCell HLE'.out _).setCell HLE'.out _⟩

/-! ### Lists of lists that the call makes -/
theorem Tryz.info_nl : (Tryz.prog.info? 27).map (fun i => (i.zero, i.size, i.bytes)) = some (some (.slice none 0 0), 1, 24) := by kernel_rfl
/-- Slices of nodes, each a row of its own. -/
def RowsN (w : World) (xs : List Value) (L : List (List Nd)) : Prop := xs.length = L.length ∧ ∀ j, j < L.length → ∃ x N, xs[j]? = some x ∧ w.ownsRow N 26 2 x (L.getD j []).length (ndsC (L.getD j []))
theorem RowsN.below {w w' : World} {xs : List Value} {L : List (List Nd)} (h : RowsN w xs L) (hb : Below w.heap.size w w') : RowsN w' xs L :=
  ⟨h.1, fun j hj => by obtain ⟨x, N, h1, h2⟩ := h.2 j hj; exact ⟨x, N, h1, ownsRow_belowB h2 hb⟩⟩
theorem RowsN.grown {w w' : World} {xs : List Value} {L : List (List Nd)} {V : Value} {N n : Nat} {ys : List Value} (h : RowsN w xs L) (hV : w.ownsRow N 27 1 V n ys) (hg : w.grownBy w' V.ownBlock) : RowsN w' xs L :=
  ⟨h.1, fun j hj => by
    obtain ⟨x, M, h1, h2⟩ := h.2 j hj
    refine ⟨x, M, h1, row_heap h2 fun b e => hg.block b (own_lt h2 e).2 fun q => ?_⟩
    exact own_apart hV h2 (by decide) b q.symm e⟩
theorem RowsN.snoc {w : World} {xs : List Value} {L : List (List Nd)} (h : RowsN w xs L) {x : Value} {l : List Nd} {N : Nat} (hx : w.ownsRow N 26 2 x l.length (ndsC l)) : RowsN w (xs ++ [x]) (L ++ [l]) := by
  refine ⟨by rw [List.length_append, List.length_append, h.1]; rfl, fun j hj => ?_⟩
  by_cases hlt : j < L.length
  · obtain ⟨y, M, h1, h2⟩ := h.2 j hlt
    refine ⟨y, M, by rw [List.getElem?_append_left (by rw [h.1]; exact hlt)]; exact h1, ?_⟩
    have e : (L ++ [l]).getD j [] = L.getD j [] := by simp [List.getD_eq_getElem?_getD, List.getElem?_append_left hlt]
    rw [e]; exact h2
  · have hj2 : j = L.length := by rw [List.length_append, List.length_singleton] at hj; omega
    subst hj2
    refine ⟨x, N, by rw [← h.1]; simp, ?_⟩
    have e : (L ++ [l]).getD L.length [] = l := by simp [List.getD_eq_getElem?_getD]
    rw [e]; exact hx
theorem RowsN.ndl {w : World} {xs : List Value} {L : List (List Nd)} (h : RowsN w xs L) {N n : Nat} {V : Value} (hV : w.ownsRow N 27 1 V n xs) (hn : n = L.length) : NdL w V L := by
  subst hn
  rcases Joins.ownsRow_forms hV with ⟨rfl, h0⟩ | ⟨g, cap, rfl⟩
  · have : L = [] := List.eq_nil_of_length_eq_zero h0
    subst this
    exact ndl_none w
  · have hcap : L.length ≤ cap ∧ cap ≤ maxLen := by
      obtain ⟨_, h | ⟨g', cap', cur, hv, _, _, h1, h2, _⟩⟩ := hV
      · cases h.1
      · injection hv with _ _ hc; subst hc; exact ⟨h1, h2⟩
    refine ⟨some ⟨g, 0, none⟩, cap, rfl, hcap.1, hcap.2, fun _ => ⟨g, 0, rfl, fun j hj => ?_⟩⟩
    obtain ⟨x, M, h1, h2⟩ := h.2 j hj
    obtain ⟨a, c, rfl, hnd⟩ := ndsO h2
    refine ⟨a, _, c, ?_, hnd⟩
    rw [Nat.zero_add, hV.cellAt j (by omega)]
    exact h1
section
variable {wr : World} {ops : Array Oper} {rest : List Oper} {o : Oper} {a : Act} {Q : Exit → Act → World → Prop}
/-- 'l = append(l, x)', l the call's own: x has just been laid in a block of its own. -/
theorem wpList_push_nl (hgd : o.guard = none) (s x : Operand) (ho : o.op = .call { callee := .builtin .append, args := #[s, x], argTypes := #[49, 49] })
    (base : Nat) (V : Value) (xs : List Value) (n : Nat) (hs : a.eval s = V) (hown : wr.ownsRow base 27 1 V n xs) (A : Option Addr) (m c : Nat) (N : Nat) (hN : wr.heap.size = N) (hx : a.eval x = .slice (some ⟨N, 0, none⟩) 1 1) (hlen : n ≤ 1000000) (hbase : base ≤ wr.heap.size)
    (h : ∀ a' c' w', w'.ownsRow base 27 1 (.slice a' (n + 1) c') (n + 1) (xs ++ [.slice A m c]) → wr.grownBy w' V.ownBlock → wpList Tryz.prog ops Q rest (a.put o.dst (.slice a' (n + 1) c')) w') :
    wpList Tryz.prog ops Q (o :: rest) a (wr.alloc (.cells #[.slice A m c] 27)) := by
  subst hN
  refine wpList_plain hgd fun K' hK' => ?_
  obtain ⟨i, hi, hz, hsize, hby⟩ := info_parts Tryz.info_nl
  obtain ⟨v', w', hr, h2, h3, _, h5⟩ := run_append_own_at (P := Tryz.prog) (wr.alloc (.cells #[.slice A m c] 27)) base 49 o.type 27 i (.slice none 0 0) 1 24 Tryz.underlying49 hi hz hsize hby rfl (by decide) V n _ (hown.alloc _) ⟨wr.heap.size, 0, none⟩ 1 1 [.slice A m c] rfl (by
    intro j u hj
    have hj0 : j = 0 := by
      have := (List.getElem?_eq_some_iff.1 hj).1
      simp at this; omega
    subst hj0
    simp at hj
    subst hj
    have h9 := heap_alloc_new wr (.cells #[.slice A m c] 27)
    have h8 : (wr.alloc (.cells #[.slice A m c] 27)).cell? ⟨wr.heap.size, 0, none⟩ = some (.slice A m c) := by unfold World.cell?; rw [h9]; rfl
    exact h8) (fun u hu => by rw [List.mem_singleton.1 hu]; rfl) (by unfold maxLen; omega) (by omega) (by simp; omega)
  have hv : ∃ a' c', v' = .slice a' (n + 1) c' := by
    rcases Joins.ownsRow_forms h2 with ⟨rfl, h0⟩ | ⟨g, cap, rfl⟩
    · omega
    · exact ⟨_, _, rfl⟩
  obtain ⟨a', c', rfl⟩ := hv
  have hk := h a' c' w' h2 ((World.grownBy_alloc wr _ _).trans h3)
  unfold Oper.wp
  simp [execOp, ho, resolve, invoke, builtin, hs, hx, hr, Result.andThen]
  exact hK' _ _ hk
end
def fewLs (l : List (List Nd)) : List (List Nd) := (l.take 6).map fewNs
theorem fewLs_len (l : List (List Nd)) : (fewLs l).length ≤ 6 := by unfold fewLs; rw [List.length_map, List.length_take]; omega
theorem fewLs_each (l : List (List Nd)) : ∀ k ∈ fewLs l, k.length ≤ 24 ∧ ∀ n ∈ k, smallN n := fun k hk => by
  obtain ⟨x, _, rfl⟩ := List.mem_map.1 hk
  exact ⟨fewNs_len x, fewNs_small x⟩
theorem fewLs_succ {l : List (List Nd)} {k : Nat} (h : k < l.length) : (l.take (k + 1)).map fewNs = (l.take k).map fewNs ++ [fewNs (l.getD k [])] := by
  rw [List.take_succ_eq_append_getElem h, List.map_append]
  simp [List.getD_eq_getElem?_getD, h]
set_option maxHeartbeats 1600000 in
theorem lists_any (V : Value) (l : List (List Nd)) (w : World) (hV : NdL w V l) (hf : ∀ k ∈ l, ∀ n ∈ k, fitsN n) :
    Calls Tryz.prog 26 #[V] w fun e w' => ∃ v, e = .returned v ∧ NdL w' v (fewLs l) ∧ Below w.heap.size w w' := by
  obtain ⟨a, c, rfl, h1, h2, -⟩ := hV.ex
  unfold maxLen at h2
  obtain ⟨n, hn⟩ : ∃ n, l.length = n := ⟨_, rfl⟩
  obtain ⟨L, hL⟩ : ∃ L, fewLs l = L := ⟨_, rfl⟩
  rw [hL]
  rw [hn] at h1 hV ⊢
  have SV := Lib.hid hV; have HN := Lib.hid hn; have HF := Lib.hid hf; have HL := Lib.hid hL
  clear hV hn hf hL
  go_enter Tryz.func26, Tryz.ntmps26
  go_wp2
  go_loopw [3, 4] (fun v i wr => ∃ (k : Nat) (acc : List (List Nd)) (xs : List Value), k ≤ n ∧ k ≤ 6 ∧ i = .int .i64 k ∧ Hid (acc.length = k) ∧ Hid (acc = (l.take k).map fewNs) ∧ wr.ownsRow w.heap.size 27 1 v k xs ∧ Hid (RowsN wr xs acc) ∧ Hid (Below w.heap.size w wr)) (fun _ i _ => n - (intOf i).toNat)
  case atStart => exact ⟨0, [], [], Nat.zero_le _, Nat.zero_le _, rfl, Lib.hid rfl, Lib.hid (by simp), World.ownsRow_nil _ _ _ _, Lib.hid ⟨rfl, fun j hj => absurd hj (Nat.not_lt_zero j)⟩, Lib.hid (Below.refl _ _)⟩
  case round =>
    obtain ⟨k, acc, xs, hkn, hk8, rfl, HAL, HACC, hown, HR, HB⟩ := hrel
    by_cases hlt : k < n
    · by_cases h8 : k < 6
      · have hkl : k < l.length := by rw [HN.out]; exact hlt
        obtain ⟨b, off, ay, ny, cy, rfl, cy0, hsy⟩ := (SV.out.below HB.out).at k hkl
        have htk := fewLs_succ hkl
        have hfy := HF.out (l.getD k []) (by rw [List.getD_eq_getElem?_getD, List.getElem?_eq_getElem hkl]; exact List.getElem_mem hkl)
        obtain ⟨y, hy⟩ : ∃ y, l.getD k [] = y := ⟨_, rfl⟩
        rw [hy] at hsy htk hfy
        have kf := fun w h => nfewo_any (.slice ay ny cy) y w h hfy
        obtain ⟨Y, hY⟩ : ∃ Y, fewNs y = Y := ⟨_, rfl⟩
        rw [hY] at kf htk
        have SY := Lib.hid hsy; have KF := Lib.hid kf; have HTK := Lib.hid htk; have HOWN := Lib.hid hown
        clear hy hY hsy kf htk hfy hown
        have hkb : (k : Int) < (n : Int) := by omega
        have hkb8 : (k : Int) < 6 := by omega
        go_wp2_with (first
          | (go_at_call 12; refine (KF.out _ SY.out).mono ?_; rintro e w1 ⟨v1, rfl, hrow, hb1⟩; obtain ⟨a1, c1, rfl, -⟩ := ndsO hrow; have HRW := Lib.hid hrow; replace HOWN := Lib.hid (ownsRow_belowB HOWN.out hb1); replace HR := Lib.hid (HR.out.below hb1); have HBS := Lib.hid HB.out.size; replace HB := Lib.hid (below_step HB.out hb1); clear hb1 hrow)
          | (at_builtin; refine wpList_push_nl rfl _ _ rfl w.heap.size _ xs k rfl HOWN.out a1 Y.length c1 _ rfl rfl (by omega) HB.out.size ?_))
        intro a2 c2 w2 ho2 hg2
        have hR2 := (HR.out.grown HOWN.out hg2).snoc (row_heap HRW.out fun b e => hg2.block b (own_lt HRW.out e).2 fun q => own_apart HOWN.out HRW.out (by decide) b q.symm e)
        have hb2 : Below w.heap.size w w2 := HB.out.grown hg2 HB.out.size (fun b e => (own_lt HOWN.out e).1)
        have HO2 := Lib.hid ho2; have HR2 := Lib.hid hR2; have HB2 := Lib.hid hb2
        clear ho2 hg2 hR2 hb2
        go_wp2
        go_roundw
        case rel => exact ⟨k + 1, acc ++ [Y], _, by omega, by omega, by go_num, Lib.hid (by rw [List.length_append, HAL.out]; rfl), Lib.hid (by rw [HTK.out, HACC.out]), HO2.out, HR2, HB2⟩
        case measure => simp [intOf]; omega
      · have hout : acc = L := by
          rw [HACC.out, ← HL.out]
          unfold fewLs
          have : k = 6 := by omega
          rw [this]
        subst hout
        have hndl := HR.out.ndl hown HAL.out.symm
        clear hown
        go_wp2
        go_ret
        exact ⟨_, rfl, hndl, HB.out⟩
    · have hout : acc = L := by
        have e : k = n := by omega
        rw [HACC.out, ← HL.out]
        unfold fewLs
        rw [List.take_of_length_le (i := k) (by rw [HN.out]; omega), List.take_of_length_le (i := 6) (by rw [HN.out]; omega)]
      subst hout
      have hndl := HR.out.ndl hown HAL.out.symm
      clear hown
      go_wp2
      go_ret
      exact ⟨_, rfl, hndl, HB.out⟩

/-! ### What comes in -/
section
variable {H : Type} {enc : TypeId × Value → H} {w : World} {base : Nat} {spare : Nat → Bool} {held : Bool}
/-- Use, as it comes in. -/
structure UseIn (w : World) (v : Value) (u : Us) : Prop where
  ex : ∃ a n c, v = .agg #[.int .i64 u.m, .int .i64 u.e, .slice a n c] ∧ Dfs w (.slice a n c) u.s
  fm : fitI u.m
  fe : fitI u.e
  fs : ∀ e ∈ u.s, fitD e
theorem use_open {r : Reach} {b0 : Nat} {v : Value} {d : DataW H} {p : List MemPlace} (hv : Value.okWide Tryz.prog w r b0 24 v) (h : DataW.Trod enc Tryz.prog w base spare held 24 v d p) : ∃ u : Us, UseIn w v u := by
  obtain ⟨cs, rfl, hsz⟩ := okWide_struct Tryz.underlying24 hv
  have hC : Tryz.prog.cellsOf 24 = 3 := by kernel_rfl
  obtain ⟨c0, c1, c2, rfl⟩ : ∃ c0 c1 c2, cs = #[c0, c1, c2] := by
    obtain ⟨l⟩ := cs
    match l, hsz.trans hC with
    | [c0, c1, c2], _ => exact ⟨c0, c1, c2, rfl⟩
  obtain ⟨fuel, hf⟩ := h
  obtain ⟨xs, k, hk, hxy, _, hxl, hf2⟩ := DataW.trod_struct Tryz.underlying24 hf
  have ci : Tryz.prog.cellsOf 3 = 1 := by kernel_rfl
  have cl : Tryz.prog.cellsOf 22 = 1 := by kernel_rfl
  match xs, hxl with
  | [y0, y1, y2], _ =>
    have g0 := hf2 0 _ rfl
    have g1 := hf2 1 _ rfl
    have g2 := hf2 2 _ rfl
    simp [ci, cl, Value.cells] at g0 g1 g2
    obtain ⟨z0, q0, -, e0⟩ := DataW.trod_int Tryz.underlying3 g0
    obtain ⟨z1, q1, -, e1⟩ := DataW.trod_int Tryz.underlying3 g1
    simp only [List.cons.injEq, and_true] at q0 q1
    subst q0 q1
    have f2 : ∃ a len cap, c2 = .slice a len cap := by
      rcases Go.Deep.open_slice Tryz.underlying22 g2 with ⟨hcs, _⟩ | ⟨ad, l, c, m, n, D, Pl, hcs, _⟩
      · simp only [List.cons.injEq, and_true] at hcs; exact ⟨_, _, _, hcs⟩
      · simp only [List.cons.injEq, and_true] at hcs; exact ⟨_, _, _, hcs⟩
    obtain ⟨a, len, cap, rfl⟩ := f2
    obtain ⟨l, hl, hfl⟩ := dfs_open g2
    exact ⟨⟨z0, z1, l⟩, ⟨a, len, cap, rfl, hl⟩, fit_wf e0, fit_wf e1, hfl⟩
/-- Limits, as they come in. -/
def LimIn (v : Value) (l : Li) : Prop := v = .agg #[.int .i64 l.t, .int .i64 l.m, .int .i64 l.n, .int .i64 l.e] ∧ fitI l.m ∧ fitI l.n ∧ fitI l.e
theorem lim_open {r : Reach} {b0 : Nat} {v : Value} {d : DataW H} {p : List MemPlace} (hv : Value.okWide Tryz.prog w r b0 43 v) (h : DataW.Trod enc Tryz.prog w base spare held 43 v d p) : ∃ l : Li, LimIn v l := by
  obtain ⟨cs, rfl, hsz⟩ := okWide_struct Tryz.underlying43 hv
  have hC : Tryz.prog.cellsOf 43 = 4 := by kernel_rfl
  obtain ⟨c0, c1, c2, c3, rfl⟩ : ∃ c0 c1 c2 c3, cs = #[c0, c1, c2, c3] := by
    obtain ⟨l⟩ := cs
    match l, hsz.trans hC with
    | [c0, c1, c2, c3], _ => exact ⟨c0, c1, c2, c3, rfl⟩
  obtain ⟨fuel, hf⟩ := h
  obtain ⟨xs, k, hk, hxy, _, hxl, hf2⟩ := DataW.trod_struct Tryz.underlying43 hf
  have ci : Tryz.prog.cellsOf 3 = 1 := by kernel_rfl
  match xs, hxl with
  | [y0, y1, y2, y3], _ =>
    have g0 := hf2 0 _ rfl
    have g1 := hf2 1 _ rfl
    have g2 := hf2 2 _ rfl
    have g3 := hf2 3 _ rfl
    simp [ci, Value.cells] at g0 g1 g2 g3
    obtain ⟨z0, q0, -, e0⟩ := DataW.trod_int Tryz.underlying3 g0
    obtain ⟨z1, q1, -, e1⟩ := DataW.trod_int Tryz.underlying3 g1
    obtain ⟨z2, q2, -, e2⟩ := DataW.trod_int Tryz.underlying3 g2
    obtain ⟨z3, q3, -, e3⟩ := DataW.trod_int Tryz.underlying3 g3
    simp only [List.cons.injEq, and_true] at q0 q1 q2 q3
    subst q0 q1 q2 q3
    exact ⟨⟨z0, z1, z2, z3⟩, rfl, fit_wf e1, fit_wf e2, fit_wf e3⟩
theorem ndl_open {fuel : Nat} {a : Option Addr} {len cap : Nat} {x : DataW H × List MemPlace} (h : DataW.trod enc Tryz.prog w base spare held fuel 49 [.slice a len cap] = some x) :
    ∃ l, NdL w (.slice a len cap) l ∧ ∀ k ∈ l, ∀ n ∈ k, fitsN n := by
  rcases Go.Deep.open_slice Tryz.underlying49 h with ⟨hcs, _⟩ | ⟨ad, l, c, m, n, D, Pl, hcs, hb, hl, hm, hmm, -, hx⟩
  · simp only [List.cons.injEq, Value.slice.injEq, and_true] at hcs
    obtain ⟨rfl, rfl, rfl⟩ := hcs
    exact ⟨[], ndl_none w, fun l hl => by cases hl⟩
  · simp only [List.cons.injEq, Value.slice.injEq, and_true] at hcs
    obtain ⟨rfl, rfl, rfl⟩ := hcs
    have ce : Tryz.prog.cellsOf 27 = 1 := by kernel_rfl
    have each : ∀ i, i < m → ∃ e : List Nd, ∃ a' n' c', w.cell? (ad.add i) = some (.slice a' n' c') ∧ Nds w (.slice a' n' c') e ∧ ∀ n ∈ e, fitsN n := by
      intro i hi
      obtain ⟨cs', h1, h2⟩ := hx i hi
      rw [ce] at h1
      obtain ⟨_, hlen, hcell⟩ := World.cells?_some h1
      match cs', hlen with
      | [v0], _ =>
        have f0 : ∃ a len cap, v0 = .slice a len cap := by
          rcases Go.Deep.open_slice Tryz.underlying27 h2 with ⟨hcs, _⟩ | ⟨ad, l, c, m, n, D, Pl, hcs, _⟩
          · simp only [List.cons.injEq, and_true] at hcs; exact ⟨_, _, _, hcs⟩
          · simp only [List.cons.injEq, and_true] at hcs; exact ⟨_, _, _, hcs⟩
        obtain ⟨a', n', c', rfl⟩ := f0
        obtain ⟨e, he, hfe⟩ := nds_open h2
        have c0 := hcell 0 (by omega)
        rw [Go.Deep.add_add] at c0
        exact ⟨e, a', n', c', by simpa using c0, he, hfe⟩
    obtain ⟨E, hE⟩ := Go.Deep.choose_lt each
    have hlm : len ≤ m := by rw [hmm]; split <;> omega
    refine ⟨(List.range len).map E, ?_, fun k hk n hn => ?_⟩
    · have e : ((List.range len).map E).length = len := by simp
      refine ⟨some ad, cap, by rw [e], by rw [e]; exact hl, hm, fun hp => ?_⟩
      rw [e] at hp ⊢
      obtain ⟨b, off, spot⟩ := ad
      obtain ⟨a0, n0, c0, h0, -⟩ := hE 0 (by omega)
      have hspot : spot = none := by simpa [Addr.add] using World.cell?_spot h0
      subst hspot
      refine ⟨b, off, rfl, fun j hj => ?_⟩
      obtain ⟨a', n', c', h1, h2, -⟩ := hE j (by omega)
      have hd : ((List.range len).map E).getD j [] = E j := by simp [List.getD_eq_getElem?_getD, hj]
      rw [addr_add] at h1
      rw [hd]
      exact ⟨a', n', c', h1, h2⟩
    · obtain ⟨i, hi, rfl⟩ := List.mem_map.1 hk
      obtain ⟨_, _, _, _, _, hf⟩ := hE i (by have := List.mem_range.1 hi; omega)
      exact hf n hn
end
end Go.Proofs.YtglhjdbnpdoinaaGreat

namespace Go.Proofs.YtglhjdbnpdoinaaGreat
open Go.RowKit
set_option linter.unusedVariables false
set_option maxRecDepth 100000

theorem okA : okN nA = true := by decide +kernel
theorem okB : okN nB = true := by decide +kernel
theorem exR1 : chgE U0 1 [] [nA, nB, nB] = (⟨1, 2, [(nA, 1), (nB, 2)]⟩, 0) := by
  rw [U0_usL, chg_more (fun _ hn => by cases hn) (fun n hn => by simp at hn; rcases hn with rfl | rfl <;> first | exact okA | exact okB) (by simp) (by simp) (by decide) (by decide) (by decide) (by decide)]
  have h : difL [] ([] ++ [nA, nB, nB]) = [(nA, 1), (nB, 2)] := by decide +kernel
  unfold usL
  rw [h]
  rfl
theorem exR2 : chgE U0 (-1) [nA] [] = (U0, 2) := by
  have h : (Us.ok U0 && (allN2 [nA] && allN2 [])) = true := by decide +kernel
  rw [chgE_far h rfl, if_neg (by simp)]
theorem exR3 : fitE ⟨0, 0, 0, 0⟩ ⟨1, 2, [(nA, 1), (nB, 2)]⟩ = 8 := by decide +kernel
theorem smD1 : ∀ e ∈ [(nA, (1 : Int)), (nB, 2)], smallD e := fun e he => by
  simp at he
  rcases he with rfl | rfl
  · exact ⟨smA, by unfold fitI; decide⟩
  · exact ⟨smB, by unfold fitI; decide⟩

set_option maxHeartbeats 3200000 in
theorem rawake_any (w : World) : Calls Tryz.prog 20 #[] w fun e w' => e = .returned (.bool true) ∧ Below w.heap.size w w' := by
  have h1 := fun V w h => take_any 0 0 none 0 0 [] [97] [118, 49, 46, 48, 46, 48] V [nB, nB] w (dfs_none w) h (fun _ hn => by cases hn) smA (fun n hn => by simp at hn; rw [hn]; exact smB) (by simp) (by simp)
  have h2 := fun w => give_any 0 0 none 0 0 [] [97] [118, 49, 46, 48, 46, 48] (.slice none 0 0) [] w (dfs_none w) (nds_none w) (fun _ hn => by cases hn) smA (fun _ hn => by cases hn) (by simp) (by simp)
  have h3 := fun A c w h => fits_any 0 0 0 0 1 2 A 2 c [(nA, 1), (nB, 2)] w h smD1 (by simp)
  have x1 : chgE ⟨0, 0, []⟩ 1 [] [([97], [118, 49, 46, 48, 46, 48]), nB, nB] = (⟨1, 2, [(nA, 1), (nB, 2)]⟩, 0) := exR1
  have x2 : chgE ⟨0, 0, []⟩ (-1) [([97], [118, 49, 46, 48, 46, 48])] [] = (U0, 2) := exR2
  rw [x1] at h1
  rw [x2] at h2
  rw [exR3] at h3
  simp only at h1 h2 h3
  have H1 := Lib.hid h1; have H2 := Lib.hid h2; have H3 := Lib.hid h3
  clear h1 h2 h3 x1 x2
  go_enter Tryz.func20, Tryz.ntmps20
  go_upto_region 2 with fail
  obtain ⟨W, g1, g2, hW, hg1, hg2, a0, a1, b0, b1, hb⟩ := boxB2 w (.string (mkB [97])) (.string (mkB [118, 49, 46, 48, 46, 48])) (.string (mkB [98])) (.string (mkB [118, 49, 46, 48, 46, 48])) 26
  change Code.wp _ _ _ _ ((w.alloc (.cells #[.string (mkB [97]), .string (mkB [118, 49, 46, 48, 46, 48])] 26)).alloc (.cells #[.string (mkB [98]), .string (mkB [118, 49, 46, 48, 46, 48])] 26))
  rw [hW, hg2, hg1]
  have BB := Lib.hid hb
  have hu := nds_blk (l := [nB, nB]) (heap_alloc_new W (.cells #[.string (mkB [98]), .string (mkB [118, 49, 46, 48, 46, 48]), .string (mkB [98]), .string (mkB [118, 49, 46, 48, 46, 48])] 26)) (by decide)
  have hbx : Below W.heap.size W (W.alloc (.cells #[.string (mkB [98]), .string (mkB [118, 49, 46, 48, 46, 48]), .string (mkB [98]), .string (mkB [118, 49, 46, 48, 46, 48])] 26)) := (Below.refl _ _).alloc (Nat.le_refl _) _
  have HU := Lib.hid hu; have BX := Lib.hid hbx
  clear hW hg1 hg2 hb hu hbx
  have a0' := fun o => cell_alloc a0 o
  have a1' := fun o => cell_alloc a1 o
  go_upto_region 3 with (go_at_call 13; refine (H1.out _ _ HU.out).mono ?_; rintro e w1 ⟨v1, rfl, hrow, hb1⟩; obtain ⟨k1, c1, rfl, hd⟩ := dfsO hrow; have hbw := below_step BX.out hb1; replace a0 := cell_keep a0 hbw; replace a1 := cell_keep a1 hbw; replace BB := Lib.hid (below_step BB.out hbw); have S1 := Lib.hid hd; clear hb1 hbw hrow hd a0' a1' b0 b1 HU)
  obtain ⟨W2, g3, hW2, hg3, hr3, hb2⟩ := boxU w1 (.int .i64 1) (.int .i64 2) (.slice k1 2 c1) 24
  simp only [List.length_cons, List.length_nil] at S1 ⊢
  rw [hW2, hg3]
  replace a0 := cell_keep a0 hb2; replace a1 := cell_keep a1 hb2; replace BB := Lib.hid (below_step BB.out hb2); replace S1 := Lib.hid (S1.out.below hb2)
  have R3 := Lib.hid hr3
  clear hW2 hg3 hr3 hb2 H1
  go_upto_region 4 with (go_at_call 14; refine (H2.out _).mono ?_; rintro e w3 ⟨v3, rfl, hrow, hb1⟩; obtain ⟨k3, c3, rfl, hd⟩ := dfsO hrow; replace R3 := Lib.hid (row_keepB R3.out hb1); replace BB := Lib.hid (below_step BB.out hb1); replace S1 := Lib.hid (S1.out.below hb1); clear hb1 hrow hd a0 a1)
  obtain ⟨W4, g5, hW4, hg5, hr5, hb4⟩ := boxU w3 (.int .i64 0) (.int .i64 0) (.slice k3 0 c3) 24
  try simp only [List.length_nil]
  rw [hW4, hg5]
  replace R3 := Lib.hid (row_keepB R3.out hb4); replace BB := Lib.hid (below_step BB.out hb4); replace S1 := Lib.hid (S1.out.below hb4)
  clear hW4 hg5 hr5 hb4 H2
  obtain ⟨d0, d1, d2, -⟩ := row3 R3.out
  go_wp2_with (go_at_call 23; refine (H3.out _ _ _ S1.out).mono ?_; rintro e w5 ⟨rfl, hb1⟩; replace BB := Lib.hid (below_step BB.out hb1); clear hb1)
  go_ret
  exact ⟨rfl, BB.out⟩
end Go.Proofs.YtglhjdbnpdoinaaGreat

namespace Go.Proofs.YtglhjdbnpdoinaaGreat
open Go.RowKit
set_option linter.unusedVariables false
set_option maxRecDepth 100000

theorem row4L {w : World} {g : Nat} {x0 x1 x2 x3 : Value} {t : TypeId} (h : w.heap[g]? = some (.cells #[x0, x1, x2, x3] t (0, 0))) :
    (w.cell? ⟨g, 0, none⟩ = some x0 ∧ w.cell? ⟨g, 1, none⟩ = some x1 ∧ w.cell? ⟨g, 2, none⟩ = some x2 ∧ w.cell? ⟨g, 3, none⟩ = some x3) ∧ w.frozen? ⟨g, 0, none⟩ = false ∧ w.frozen? ⟨g, 1, none⟩ = false ∧ w.frozen? ⟨g, 2, none⟩ = false ∧ w.frozen? ⟨g, 3, none⟩ = false := by
  simp [World.cell?, World.frozen?, h]
theorem row4_set1 {w : World} {g : Nat} {x0 x1 x2 x3 : Value} {t : TypeId} (h : w.heap[g]? = some (.cells #[x0, x1, x2, x3] t (0, 0))) (y : Value) : (w.setCell ⟨g, 1, none⟩ y).heap[g]? = some (.cells #[x0, y, x2, x3] t (0, 0)) := by
  simp [World.setCell, Array.getElem?_modify, h]
theorem row4_set2 {w : World} {g : Nat} {x0 x1 x2 x3 : Value} {t : TypeId} (h : w.heap[g]? = some (.cells #[x0, x1, x2, x3] t (0, 0))) (y : Value) : (w.setCell ⟨g, 2, none⟩ y).heap[g]? = some (.cells #[x0, x1, y, x3] t (0, 0)) := by
  simp [World.setCell, Array.getElem?_modify, h]
theorem row4_setc {w : World} {g : Nat} {x0 x1 x2 x3 : Value} {t : TypeId} (h : w.heap[g]? = some (.cells #[x0, x1, x2, x3] t (0, 0))) (y : Value) : (w.setCell ⟨g, 3, none⟩ y).heap[g]? = some (.cells #[x0, x1, x2, y] t (0, 0)) := by
  simp [World.setCell, Array.getElem?_modify, h]
theorem row4_all {w : World} {g : Nat} {x0 x1 x2 x3 : Value} {t : TypeId} (h : w.heap[g]? = some (.cells #[x0, x1, x2, x3] t (0, 0))) (y0 y1 y2 y3 : Value) :
    ((((w.setCell ⟨g, 0, none⟩ y0).setCell ⟨g, 1, none⟩ y1).setCell ⟨g, 2, none⟩ y2).setCell ⟨g, 3, none⟩ y3).heap[g]? = some (.cells #[y0, y1, y2, y3] t (0, 0)) := by
  simp [World.setCell, Array.getElem?_modify, h]
theorem boxL (w : World) (a b c d : Value) (t : TypeId) : ∃ W g, w.alloc (.cells #[a, b, c, d] t) = W ∧ w.heap.size = g ∧ W.heap[g]? = some (.cells #[a, b, c, d] t (0, 0)) ∧ Below w.heap.size w W :=
  ⟨_, _, rfl, rfl, heap_alloc_new _ _, (Below.refl _ _).alloc (Nat.le_refl _) _⟩
theorem boxUL (w : World) (x y z a b c d : Value) (t t' : TypeId) : ∃ W g g', (w.alloc (.cells #[x, y, z] t)).alloc (.cells #[a, b, c, d] t') = W ∧ w.heap.size = g ∧ w.heap.size + 1 = g' ∧ W.heap[g]? = some (.cells #[x, y, z] t (0, 0)) ∧ W.heap[g']? = some (.cells #[a, b, c, d] t' (0, 0)) ∧ Below w.heap.size w W :=
  ⟨_, _, _, rfl, rfl, rfl, row_keepB (heap_alloc_new _ _) ((Below.refl _ _).alloc (Nat.le_refl _) _), by have := heap_alloc_new (w.alloc (.cells #[x, y, z] t)) (.cells #[a, b, c, d] t'); simpa using this, ((Below.refl _ _).alloc (Nat.le_refl _) _).alloc (by simp) _⟩
theorem boxUNL (w : World) (x y z p v a b c d : Value) (t t' t'' : TypeId) : ∃ W g g' g'', ((w.alloc (.cells #[x, y, z] t)).alloc (.cells #[p, v] t')).alloc (.cells #[a, b, c, d] t'') = W ∧ w.heap.size = g ∧ w.heap.size + 1 = g' ∧ w.heap.size + 1 + 1 = g'' ∧ W.heap[g]? = some (.cells #[x, y, z] t (0, 0)) ∧ W.heap[g']? = some (.cells #[p, v] t' (0, 0)) ∧ W.heap[g'']? = some (.cells #[a, b, c, d] t'' (0, 0)) ∧ Below w.heap.size w W := by
  obtain ⟨W, g, g', h1, h2, h3, h4, h5, h6⟩ := boxUN w x y z p v t t'
  subst h2 h3
  refine ⟨_, _, _, _, rfl, rfl, rfl, rfl, ?_, ?_, ?_, ?_⟩
  · rw [h1]; exact row_keepB h4 ((Below.refl _ _).alloc (Nat.le_refl _) _)
  · rw [h1]; exact row_keepB h5 ((Below.refl _ _).alloc (Nat.le_refl _) _)
  · have := heap_alloc_new ((w.alloc (.cells #[x, y, z] t)).alloc (.cells #[p, v] t')) (.cells #[a, b, c, d] t''); simpa using this
  · rw [h1]; exact h6.alloc h6.size _
theorem ld_lim {w : World} {g : Nat} {a b c d : Int} {t : TypeId} (h : w.heap[g]? = some (.cells #[.int .i64 a, .int .i64 b, .int .i64 c, .int .i64 d] t (0, 0))) : Sem.run Tryz.prog (Instr.loadAt 43 (.pointer (some ⟨g, 0, none⟩))) w = .ok (.agg #[.int .i64 a, .int .i64 b, .int .i64 c, .int .i64 d]) w := by
  obtain ⟨⟨d0, d1, d2, d3⟩, -⟩ := row4L h
  go_simp
theorem store_lim {w : World} {g : Nat} {a b c d : Int} {x0 x1 x2 x3 : Value} {t : TypeId} (h : w.heap[g]? = some (.cells #[x0, x1, x2, x3] t (0, 0))) : Sem.run Tryz.prog (Instr.storeAt 43 (.pointer (some ⟨g, 0, none⟩)) (.agg #[.int .i64 a, .int .i64 b, .int .i64 c, .int .i64 d])) w = .ok () ((((w.setCell ⟨g, 0, none⟩ (.int .i64 a)).setCell ⟨g, 1, none⟩ (.int .i64 b)).setCell ⟨g, 2, none⟩ (.int .i64 c)).setCell ⟨g, 3, none⟩ (.int .i64 d)) := by
  obtain ⟨⟨d0, d1, d2, d3⟩, f0, f1, f2, f3⟩ := row4L h
  go_simp
theorem store_ndU {w : World} {g : Nat} {p v : List UInt8} {x0 y0 : Value} {t : TypeId} (h : w.heap[g]? = some (.cells #[x0, y0] t (0, 0))) : Sem.run Tryz.prog (Instr.storeAt 26 (.pointer (some ⟨g, 0, none⟩)) (.agg #[.string (mkB p), .string (mkB v)])) w = .ok () ((w.setCell ⟨g, 0, none⟩ (.string (mkB p))).setCell ⟨g, 1, none⟩ (.string (mkB v))) := by
  obtain ⟨d0, d1, f0, f1⟩ := row2 h
  go_simp
/-! ### Boxes of four cells that a region makes, and fills -/
def cell4P (N : Nat) (t : TypeId) (a b c d : Value) : World → Value → Option Nat → Prop := fun w v ob => ∃ k, v = .pointer (some ⟨k, 0, none⟩) ∧ ob = some k ∧ N ≤ k ∧ w.heap[k]? = some (.cells #[a, b, c, d] t (0, 0))
theorem cell4P_near {N : Nat} {t : TypeId} {a b c d : Value} : ∀ (w w' : World) (v : Value) (ob : Option Nat), (∀ b, ob = some b → w'.heap[b]? = w.heap[b]?) → cell4P N t a b c d w v ob → cell4P N t a b c d w' v ob := by
  rintro w w' v ob hb ⟨k, rfl, rfl, hN, h⟩
  exact ⟨k, rfl, rfl, hN, (hb k rfl).trans h⟩
section
variable {ops : Array Oper} {Q : Exit → Act → World → Prop} {a : Act} {w w0 : World} {who : Nat → Nat} {i B r ro : Nat} {o : Oper}
theorem rol_alloc_lim (ho : ops[i]? = some o) (hw : Region.wanted o (yielded ops a.tmps) = true) {s : Nat} (hd : o.dst = some s) (hs : s < a.tmps.size) (hop : o.op = .alloc 43) {N : Nat} (hb : Below B w0 w) (hB : B ≤ N) (hN : N ≤ w.heap.size) :
    wpOp Tryz.prog ops Q i (RPost ops i r ro (.mem s (cell4P N 43 (.int .i64 0) (.int .i64 0) (.int .i64 0) (.int .i64 0))) B w0 a w who) a w :=
  rol_newO ho hw hd hs (x := .cells #[.int .i64 0, .int .i64 0, .int .i64 0, .int .i64 0] 43) (v := .pointer (some ⟨w.heap.size, 0, none⟩)) (ex_alloc3 hop (by go_simp)) ⟨w.heap.size, rfl, rfl, hN, heap_alloc_new _ _⟩ hb (Nat.le_trans hB hN)
theorem rol_fill_lim (ho : ops[i]? = some o) (hw : Region.wanted o (yielded ops a.tmps) = true) (hd : o.dst = none) {s : Nat} {y : Operand} (hop : o.op = .store 43 (.tmp s) y) {N : Nat} {x0 x1 x2 x3 : Value} {t : TypeId} (h : (RLeaf.mem s (cell4P N t x0 x1 x2 x3)).holds r a w who) {p q u v : Int} (hy : a.eval y = .agg #[.int .i64 p, .int .i64 q, .int .i64 u, .int .i64 v])
    (hb : Below B w0 w) (hB : B ≤ N) : wpOp Tryz.prog ops Q i (RPost ops i r r (.mem s (cell4P N t (.int .i64 p) (.int .i64 q) (.int .i64 u) (.int .i64 v))) B w0 a w who) a w := by
  obtain ⟨v', ob, hv, hob, b, rfl, rfl, hN, hh⟩ := h
  obtain ⟨hlt, hwho⟩ := hob b rfl
  refine rol_wp ho hw ?_
  have hr := ex_store (a := a) hop (eval_slot hv) hy (store_lim (a := p) (b := q) (c := u) (d := v) hh)
  unfold Oper.wp
  rw [hr, Oper.upon_skip, hd]
  refine ⟨⟨undef, by rw [dst_of ho, hd]⟩, (((hb.setCell (Nat.le_trans hB hN) _).setCell (Nat.le_trans hB hN) _).setCell (Nat.le_trans hB hN) _).setCell (Nat.le_trans hB hN) _, who, ⟨fun k _ hk2 => ?_, fun _ _ => rfl, by simp [World.setCell]⟩, _, some b, hv, fun k e => ?_, b, rfl, rfl, hN, row4_all hh _ _ _ _⟩
  · have hne : k ≠ b := fun e => hk2 (by rw [e]; exact hwho)
    rw [Below.heap_setCell _ ⟨b, 3, none⟩ _ k hne, Below.heap_setCell _ ⟨b, 2, none⟩ _ k hne, Below.heap_setCell _ ⟨b, 1, none⟩ _ k hne, Below.heap_setCell _ ⟨b, 0, none⟩ _ k hne]
  · cases e
    exact ⟨by simp [World.setCell]; exact hlt, hwho⟩
/-- A node is put into a box of before. -/
theorem rol_boxN (ho : ops[i]? = some o) (hw : Region.wanted o (yielded ops a.tmps) = true) (hd : o.dst = none) {x y : Operand} {g : Nat} (hop : o.op = .store 26 x y) (hx : a.eval x = .pointer (some ⟨g, 0, none⟩)) {p v : List UInt8} (hy : a.eval y = .agg #[.string (mkB p), .string (mkB v)])
    {x0 y0 : Value} {ty : TypeId} (hg : (RLeaf.box g (.cells #[x0, y0] ty)).holds r a w who) (hb : Below B w0 w) (hB : B ≤ g) : wpOp Tryz.prog ops Q i (RPost ops i r r (.box g (.cells #[.string (mkB p), .string (mkB v)] ty)) B w0 a w who) a w :=
  rol_store ho hw hd (ex_store hop hx hy (store_ndU hg.1)) hg (row2_set hg.1 _ _) (fun k hne => by rw [Below.heap_setCell _ ⟨g, 1, none⟩ _ k hne, Below.heap_setCell _ ⟨g, 0, none⟩ _ k hne]) (by simp [World.setCell]) ((hb.setCell hB _).setCell hB _)
end
theorem neq_selfB {b : Bool} {w : World} : Sem.run Tryz.prog (binOp .neq 4 (.bool b) (.bool b)) w = .ok (.bool false) w := by cases b <;> go_simp
theorem cell_offU {w : World} {g i b j : Nat} (y : Value) (h : b ≠ g) : (w.setCell ⟨g, i, none⟩ y).cell? ⟨b, j, none⟩ = w.cell? ⟨b, j, none⟩ := by
  have := Below.heap_setCell w ⟨g, i, none⟩ y b h
  unfold World.cell?
  rw [this]
theorem froz_offU {w : World} {g i b j : Nat} (y : Value) (h : b ≠ g) : (w.setCell ⟨g, i, none⟩ y).frozen? ⟨b, j, none⟩ = w.frozen? ⟨b, j, none⟩ := by
  have := Below.heap_setCell w ⟨g, i, none⟩ y b h
  unfold World.frozen?
  rw [this]
/-! ### Plain facts -/
theorem bounds_u8U {a : Int} (h : (Lit.int .u8 a).wf = true) : 0 ≤ a ∧ a ≤ 255 := by
  have h1 : (decide (IntKind.u8.min ≤ a) && decide (a ≤ IntKind.u8.max)) = true := h
  rw [Bool.and_eq_true, decide_eq_true_eq, decide_eq_true_eq] at h1
  exact h1
end Go.Proofs.YtglhjdbnpdoinaaGreat
