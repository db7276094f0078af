/- May needs be; who needs a node; what is missing, and who needs it: the document's. -/
import Derived.Test.YtjnkjjlpkgbkiaaGreatLakI
import Derived.Test.YtjnkjjlpkgbkiaaGreatLakE
import Derived.Test.YtjnkjjlpkgbkiaaGreatNodZ
namespace Go.Proofs.YtjnkjjlpkgbkiaaGreat
open Go.RowKit Go.ChangeShapes Go.WideShapes
set_option linter.unusedVariables false
set_option maxRecDepth 100000

set_option maxHeartbeats 1600000 in
theorem refmayK_any (V : Value) (l : List Ne) (w : World) (h : Nes w V l) (hs : ∀ d ∈ l, smallNe d) :
    Calls Tryz.prog 11 #[V] w fun e w' => e = .returned (.bool (mayK l)) ∧ Below w.heap.size w w' := by
  obtain ⟨a, c, rfl, h1, h2, -, -⟩ := h.ex
  unfold maxLen at h2
  obtain ⟨n, hn⟩ : ∃ n, l.length = n := ⟨_, rfl⟩
  rw [hn] at h1 h
  rw [hn]
  obtain ⟨R, hR⟩ : ∃ R, mayK l = R := ⟨_, rfl⟩
  rw [hR]
  have ST := Lib.hid h; have HN := Lib.hid hn; have HS := Lib.hid hs; have HR := Lib.hid hR
  clear h hn hs hR
  go_enter Tryz.func11, Tryz.ntmps11
  go_wp2
  go_loopw [3] (fun i wr => ∃ k : Nat, k ≤ n ∧ i = .int .i64 k ∧ Hid (mayK (l.take k) = true) ∧ Hid (Below w.heap.size w wr)) (fun i _ => n - (intOf i).toNat)
  case atStart => exact ⟨0, Nat.zero_le _, rfl, Lib.hid rfl, Lib.hid (Below.refl _ _)⟩
  case round =>
    obtain ⟨k, hk, rfl, HA, HB⟩ := hrel
    by_cases hlt : k < n
    · have hkl : k < l.length := by rw [HN.out]; exact hlt
      obtain ⟨b, off, rfl, -, hc0, hc1, hc2, hc3⟩ := (ST.out.below HB.out).at k hkl
      have hsy := HS.out _ (ne_mem hkl)
      have hno := fun o => mayK_no hkl o
      have hye := fun o => mayK_take hkl o HA.out
      obtain ⟨y, hy⟩ : ∃ y, y = l.getD k zNe := ⟨_, rfl⟩
      rw [← hy] at hc0 hc1 hc2 hc3 hsy hno hye
      obtain ⟨⟨y1, y2⟩, y3, y4⟩ := y
      simp only at hc0 hc1 hc2 hc3
      obtain ⟨T, hT⟩ : ∃ T, okN (y3, y4) = T := ⟨_, rfl⟩
      obtain ⟨F, hF⟩ : ∃ F, okN (y1, y2) = F := ⟨_, rfl⟩
      obtain ⟨O, hO⟩ : ∃ O, rootK ((y1, y2), y3, y4) = O := ⟨_, rfl⟩
      have h1m : mayK1 ((y1, y2), y3, y4) = (T && (O || F)) := by unfold mayK1; rw [hT, hO, hF]
      rw [h1m] at hno hye
      have heq := neq_ndz y1 y2
      rw [show decide ((y1, y2) = (([], []) : Nd)) = O from hO] at heq
      have hgd := guard_nd
      have HSY := Lib.hid hsy; have HNO := Lib.hid hno; have HYE := Lib.hid hye; have HT := Lib.hid hT; have HF := Lib.hid hF
      clear hy hsy hno hye hT hF hO h1m
      have hkb : (k : Int) < (n : Int) := by omega
      cases T
      · have hz := HNO.out rfl
        rw [HR.out] at hz
        subst hz
        go_wp2_with (go_at_call 20; refine Calls.mono (refnmay_any _ _ _ ?_ ?_) ?_; (first | exact HSY.out.2.1 | exact HSY.out.1.1); (first | exact HSY.out.2.2 | exact HSY.out.1.2); rintro e w1 ⟨rfl, hb1⟩; (first | rw [HT.out] | rw [HF.out]); replace HB := Lib.hid (below_step HB.out hb1); replace hc0 := cell_keep hc0 hb1; replace hc1 := cell_keep hc1 hb1; replace hc2 := cell_keep hc2 hb1; replace hc3 := cell_keep hc3 hb1; clear hb1)
        go_ret
        exact ⟨rfl, HB.out⟩
      · cases O
        · simp only [Bool.not_false] at heq
          cases F
          · have hz := HNO.out rfl
            rw [HR.out] at hz
            subst hz
            go_wp2_with (go_at_call 20; refine Calls.mono (refnmay_any _ _ _ ?_ ?_) ?_; (first | exact HSY.out.2.1 | exact HSY.out.1.1); (first | exact HSY.out.2.2 | exact HSY.out.1.2); rintro e w1 ⟨rfl, hb1⟩; (first | rw [HT.out] | rw [HF.out]); replace HB := Lib.hid (below_step HB.out hb1); replace hc0 := cell_keep hc0 hb1; replace hc1 := cell_keep hc1 hb1; replace hc2 := cell_keep hc2 hb1; replace hc3 := cell_keep hc3 hb1; clear hb1)
            go_ret
            exact ⟨rfl, HB.out⟩
          · have hz := Lib.hid (HYE.out rfl)
            go_wp2_with (go_at_call 20; refine Calls.mono (refnmay_any _ _ _ ?_ ?_) ?_; (first | exact HSY.out.2.1 | exact HSY.out.1.1); (first | exact HSY.out.2.2 | exact HSY.out.1.2); rintro e w1 ⟨rfl, hb1⟩; (first | rw [HT.out] | rw [HF.out]); replace HB := Lib.hid (below_step HB.out hb1); replace hc0 := cell_keep hc0 hb1; replace hc1 := cell_keep hc1 hb1; replace hc2 := cell_keep hc2 hb1; replace hc3 := cell_keep hc3 hb1; clear hb1)
            go_roundw
            case rel => exact ⟨k + 1, by omega, by go_num, hz, HB⟩
            case measure => simp [intOf]; omega
        · simp only [Bool.not_true] at heq
          have hz := Lib.hid (HYE.out rfl)
          go_wp2_with (go_at_call 20; refine Calls.mono (refnmay_any _ _ _ ?_ ?_) ?_; (first | exact HSY.out.2.1 | exact HSY.out.1.1); (first | exact HSY.out.2.2 | exact HSY.out.1.2); rintro e w1 ⟨rfl, hb1⟩; (first | rw [HT.out] | rw [HF.out]); replace HB := Lib.hid (below_step HB.out hb1); replace hc0 := cell_keep hc0 hb1; replace hc1 := cell_keep hc1 hb1; replace hc2 := cell_keep hc2 hb1; replace hc3 := cell_keep hc3 hb1; clear hb1)
          go_roundw
          case rel => exact ⟨k + 1, by omega, by go_num, hz, HB⟩
          case measure => simp [intOf]; omega
    · go_wp2
      go_ret
      have e : k = n := by omega
      subst e
      have hA := HA.out
      rw [List.take_of_length_le (by rw [HN.out]; exact Nat.le_refl _)] at hA
      exact ⟨by rw [← HR.out, hA]; rfl, HB.out⟩

/-! ### Who needs a node -/
theorem byK_ok {l : List Ne} (h : mayK l = true) (n : Nd) : ∀ x ∈ (byK l n).1, okN x = true := fun x hx => by
  obtain ⟨d, hd, -, hr, rfl⟩ := byK_mem h hx
  exact (mayK_mem h hd).2 hr
theorem mayK_pre {l : List Ne} (h : mayK l = true) (k : Nat) : mayK (l.take k) = true := mayK_sub h fun _ hd => List.mem_of_mem_take hd
set_option maxHeartbeats 3200000 in
theorem refbyKo_any (V : Value) (l : List Ne) (p v : List UInt8) (w : World) (h : Nes w V l) (hm : mayK l = true) (hs : ∀ d ∈ l, smallNe d) (hl : l.length ≤ 100000) :
    Calls Tryz.prog 21 #[V, .agg #[.string (mkB p), .string (mkB v)]] w fun e w' => ∃ x, e = .returned (.tuple #[x, .bool (byK l (p, v)).2]) ∧ w'.ownsRow w.heap.size 42 2 x (byK l (p, v)).1.length (ndsC (byK l (p, v)).1) ∧ Below w.heap.size w w' := by
  obtain ⟨a, c, rfl, h1, h2, -, -⟩ := h.ex
  unfold maxLen at h2
  obtain ⟨W, g, hW, hg, d0, d1, hb⟩ := boxB1 w (.string (mkB p)) (.string (mkB v)) 42
  obtain ⟨n, hn⟩ : ∃ n, l.length = n := ⟨_, rfl⟩
  rw [hn] at h1 h hl ⊢
  obtain ⟨R, hR⟩ : ∃ R, byK l (p, v) = R := ⟨_, rfl⟩
  rw [hR]
  obtain ⟨R1, R2⟩ := R
  simp only
  obtain ⟨N0, hN0⟩ : ∃ N, w.heap.size = N := ⟨_, rfl⟩
  rw [hN0]
  have ST := Lib.hid h; have HN := Lib.hid hn; have HS := Lib.hid hs; have HR := Lib.hid hR; have HM := Lib.hid hm; have HN0 := Lib.hid hN0; have D0 := Lib.hid d0; have D1 := Lib.hid d1
  have B0 := Lib.hid (show Below N0 w W by rw [← hN0]; exact hb); have HBW := Lib.hid hb
  have e5 : W.heap.size = N0 + 1 := by rw [← hW, ← hN0]; simp
  have HWS := Lib.hid e5
  rw [hN0] at hg
  have HW := Lib.hid hW; have HG := Lib.hid hg
  clear h hn hs hR hm hN0 d0 d1 hb hW hg e5
  go_enter Tryz.func21, Tryz.ntmps21
  go_upto_region 1 with fail
  rw [HW.out, HN0.out, HG.out]
  go_wp2
  go_loopw [6, 7, 8] (fun v6 v7 i wr => ∃ (k : Nat) (X : Value) (r : Bool) (S : List Nd), k ≤ n ∧ X = v6 ∧ Value.bool r = v7 ∧ i = .int .i64 k ∧ Hid (byK (l.take k) (p, v) = (S, r)) ∧ Hid (wr.ownsRow N0 42 2 X S.length (ndsC S)) ∧ Hid (Below W.heap.size W wr)) (fun _ _ i _ => n - (intOf i).toNat)
  case atStart => exact ⟨0, _, _, [], Nat.zero_le _, rfl, rfl, rfl, Lib.hid rfl, Lib.hid (World.ownsRow_nil _ _ _ _), Lib.hid (Below.refl _ _)⟩
  case round =>
    obtain ⟨k, X, r, S, hk, rfl, rfl, rfl, HY, HO, HB⟩ := hrel
    by_cases hlt : k < n
    · have hkl : k < l.length := by rw [HN.out]; exact hlt
      have hbw : Below w.heap.size w wr := below_step HBW.out HB.out
      obtain ⟨b, off, rfl, -, hc0, hc1, hc2, hc3⟩ := (ST.out.below hbw).at k hkl
      have htk := byK_take hkl (p, v)
      rw [HY.out] at htk
      have hsy := HS.out _ (ne_mem hkl)
      have hmy := mayK_mem HM.out (ne_mem hkl)
      obtain ⟨y, hy⟩ : ∃ y, y = l.getD k zNe := ⟨_, rfl⟩
      rw [← hy] at hc0 hc1 hc2 hc3 htk hsy hmy
      obtain ⟨⟨y1, y2⟩, y3, y4⟩ := y
      simp only at hc0 hc1 hc2 hc3 htk
      have d0 := cell_keep D0.out HB.out
      have d1 := cell_keep D1.out HB.out
      obtain ⟨O, hO⟩ : ∃ O, toK (p, v) ((y1, y2), y3, y4) = O := ⟨_, rfl⟩
      obtain ⟨t, ht⟩ : ∃ O, rootK ((y1, y2), y3, y4) = O := ⟨_, rfl⟩
      rw [hO, ht] at htk
      rw [ht] at hmy
      have hgd := guard_nd
      have hneq := neq_nd y3 y4 p v
      rw [show decide ((y3, y4) = (p, v)) = O from hO] at hneq
      have heq := eq_ndz y1 y2
      rw [show decide ((y1, y2) = (([], []) : Nd)) = t from ht] at heq
      have hSok : ∀ x ∈ S, okN x = true := fun x hx => byK_ok (mayK_pre HM.out k) (p, v) x (by rw [HY.out]; exact hx)
      have hSs : ∀ x ∈ S, smallN x := fun x hx => by
        obtain ⟨d, hd, -, -, rfl⟩ := byK_mem (mayK_pre HM.out k) (n := (p, v)) (by rw [HY.out]; exact hx)
        exact (HS.out d (List.mem_of_mem_take hd)).1
      have hSl : S.length ≤ 100000 := by
        have h5 := byK_len (l.take k) (p, v)
        rw [HY.out] at h5
        have h6 := List.length_filter_le (toK (p, v)) (l.take k)
        rw [List.length_take] at h6
        simp only at h5
        omega
      have hNW : N0 ≤ wr.heap.size := by have h5 := HB.out.size; rw [HWS.out] at h5; omega
      have HTK := Lib.hid htk; have HSY := Lib.hid hsy; have HMY := Lib.hid hmy; have HSO := Lib.hid hSok; have HSS := Lib.hid hSs; have HSL := Lib.hid hSl; have HNW := Lib.hid hNW
      clear hy hO ht htk hsy hmy hSok hSs hSl hNW
      have hkb : (k : Int) < (n : Int) := by omega
      cases O
      · simp only [Bool.not_false] at hneq
        go_wp2_with fail
        go_quiet (fail)
        go_wp2
        go_roundw
        case rel => exact ⟨k + 1, _, _, S, by omega, rfl, rfl, by go_num, Lib.hid (by rw [HTK.out]; rfl), Lib.hid (ownsRow_belowB HO.out (below_q ⟨nq, rfl⟩)), Lib.hid (below_step HB.out (below_q ⟨nq, rfl⟩))⟩
        case measure => simp [intOf]; omega
      · simp only [Bool.not_true] at hneq
        go_wp2_with fail
        go_quiet (fail)
        obtain ⟨Wq, hWq⟩ : ∃ Wq, wr.drewN nq = Wq := ⟨_, rfl⟩
        have hbq : Below wr.heap.size wr Wq := by rw [← hWq]; exact below_q ⟨nq, rfl⟩
        rw [hWq]
        replace hc0 := cell_keep hc0 hbq
        replace hc1 := cell_keep hc1 hbq
        have HOQ := Lib.hid (ownsRow_belowB HO.out hbq); have HBQ := Lib.hid (below_step HB.out hbq); have hNQ := Lib.hid (Nat.le_trans HNW.out hbq.size)
        clear hWq hbq d0 d1 hc2 hc3
        cases t
        · obtain ⟨ax, cx, hax, hSn⟩ := ndsO HOQ.out
          subst hax
          have KW := Lib.hid (refnwitho_any _ S y1 y2 Wq hSn HSS.out HSO.out HSY.out.1.1 HSY.out.1.2 (HMY.out.2 rfl) (by have := HSL.out; omega))
          obtain ⟨s, hsn⟩ : ∃ s, S.length = s := ⟨_, rfl⟩
          rw [hsn] at KW ⊢
          clear hSn hsn
          go_wp2_with (go_at_call 38; refine KW.out.mono ?_; rintro e w1 ⟨x1, rfl, ho1, hb1⟩; have HO1 := Lib.hid (row_base ho1 hNQ.out); have HB1 := Lib.hid (below_step HBQ.out hb1); clear ho1 hb1)
          go_roundw
          case rel => exact ⟨k + 1, _, _, _, by omega, rfl, rfl, by go_num, Lib.hid (by rw [HTK.out]; rfl), HO1, HB1⟩
          case measure => simp [intOf]; omega
        · go_wp2
          go_roundw
          case rel => exact ⟨k + 1, _, _, S, by omega, rfl, rfl, by go_num, Lib.hid (by rw [HTK.out]; rfl), HOQ, HBQ⟩
          case measure => simp [intOf]; omega
    · have e : k = n := by omega
      subst e
      have hY := HY.out
      rw [List.take_of_length_le (by rw [HN.out]; exact Nat.le_refl _), HR.out] at hY
      obtain ⟨rfl, rfl⟩ := Prod.mk.inj hY
      go_wp2
      go_ret2
      exact ⟨_, rfl, HO.out, B0.out.trans (HB.out.mono (by rw [HWS.out]; omega))⟩

/-! ### What is missing, and who needs it -/
theorem run_app_ndK {w : World} {base n : Nat} {v : Value} {K : List Nd} (hown : w.ownsRow base 42 2 v n (ndsC K)) {ad : Addr} {m c : Nat} {L : List Nd} (hN : Nds w (.slice (some ad) m c) L) (hlen : n + m ≤ 2000000) (hbase : base ≤ w.heap.size) (t : TypeId) :
    ∃ v' w', (Builtin.append_ #[22, 22] t #[v, .slice (some ad) m c]).run Tryz.prog w = .ok v' w' ∧ w'.ownsRow base 42 2 v' (n + m) (ndsC (K ++ L)) ∧ w.grownBy w' v.ownBlock ∧ (v'.ownBlock = v.ownBlock ∨ v'.ownBlock = some w.heap.size ∧ w.heap.size < w'.heap.size) := by
  obtain ⟨i, hi, hz, hsize, hby⟩ := info_parts Tryz.info_node
  have hm : m = L.length := hN.lenE.1.symm
  obtain ⟨v', w', hr, h2, h3, _, h5⟩ := run_append_own_at (P := Tryz.prog) w base 22 t 42 i (.agg #[.string ByteArray.empty, .string ByteArray.empty]) 2 32 Tryz.underlying22 hi hz hsize hby rfl (by decide) v n _ hown ad m c (ndsC L) (by rw [ndsC_len, hm]) hN.cells (fun u hu => List.all_eq_true.1 (ndsC_one L) u hu) (by unfold maxLen; omega) (by omega) hbase
  rw [← ndsC_app] at h2
  refine ⟨v', w', hr, h2, h3, h5.imp id fun e => ⟨e, ?_⟩⟩
  exact (h2.lt _ e).2
theorem blk_ndsK {w : World} {b : Nat} {p v : List UInt8} (hh : w.heap[b]? = some (.cells #[.string (mkB p), .string (mkB v)] 42 (0, 0))) : Nds w (.slice (some ⟨b, 0, none⟩) 1 1) [(p, v)] := by
  obtain ⟨d0, d1, -, -⟩ := row2 hh
  exact ⟨some ⟨b, 0, none⟩, 1, rfl, Nat.le_refl _, by unfold maxLen; omega, (fun h => by cases h), fun _ => ⟨b, 0, rfl, (Array.getElem?_eq_some_iff.1 hh).1, fun j hj => by
    have hj2 : j = 0 := by simp at hj; omega
    subst hj2
    exact ⟨d0, d1⟩⟩⟩
/-- A box of a lack, nodes put into it. -/
def lkF (g : Nat) (cur : Array Value) : World → Value → Option Nat → Prop := fun w v ob => ob = some g ∧ w.heap[g]? = some (.cells (cur.setIfInBounds 2 v) 64 (0, 0))
theorem lkF_near {g : Nat} {cur : Array Value} : ∀ (w w' : World) (v : Value) (ob : Option Nat), (∀ b, ob = some b → w'.heap[b]? = w.heap[b]?) → lkF g cur w v ob → lkF g cur w' v ob := by
  rintro w w' v ob hb ⟨rfl, h⟩
  exact ⟨rfl, (hb g rfl).trans h⟩
theorem st_ndsK {w : World} {g i n c : Nat} {A : Option Addr} {u : Value} (h : w.cell? ⟨g, i, none⟩ = some u) (hf : w.frozen? ⟨g, i, none⟩ = false) : Sem.run Tryz.prog (Instr.storeAt 22 (.pointer (some ⟨g, i, none⟩)) (.slice A n c)) w = .ok () (w.setCell ⟨g, i, none⟩ (.slice A n c)) := by
  go_simp
theorem own_formJ {w : World} {base : Nat} {e : TypeId} {size : Nat} {v : Value} {n : Nat} {xs : List Value} (h : w.ownsRow base e size v n xs) : ∃ a c, v = .slice a n c := by
  rcases h.2 with ⟨rfl, h0⟩ | ⟨g, cap, cur, rfl, _⟩
  · exact ⟨none, 0, by rw [h0]⟩
  · exact ⟨_, _, rfl⟩
section
variable {ops : Array Oper} {Q : Exit → Act → World → Prop} {a : Act} {w w0 : World} {who : Nat → Nat} {i B r ro : Nat} {o : Oper}
theorem rol_app_ndK (ho : ops[i]? = some o) (hw : Region.wanted o (yielded ops a.tmps) = true) {s : Nat} (hd : o.dst = some s) (hs : s < a.tmps.size) {y x : Operand} (hop : o.op = .call { callee := .builtin .append, args := #[y, x], argTypes := #[22, 22] })
    {N n t : Nat} {K : List Nd} {X : Value} (h : (RLeaf.mem t (rowX X N 42 2 n (ndsC K))).holds r a w who) (hy : a.eval y = X) {ad : Addr} {m c : Nat} (hx : a.eval x = .slice (some ad) m c) {L : List Nd} (hN : Nds w (.slice (some ad) m c) L) (hlen : n + m ≤ 2000000) (hb : Below B w0 w) (hB : B ≤ N) (hNw : N ≤ w.heap.size) {n' : Nat} {K' : List Nd} (hn : n' = n + m) (hK : K' = K ++ L) :
    wpOp Tryz.prog ops Q i (RPost ops i r r (.mem s (rowG N 42 2 n' (ndsC K'))) B w0 a w who) a w := by
  subst hn hK
  obtain ⟨v, ob, hv, hob, hrow, rfl⟩ := h
  obtain ⟨v', w', hr, h2, h3, h5⟩ := run_app_ndK hrow hN hlen hNw o.type
  exact rol_grow ho hw hd hs (ex_append hop hy hx hr) h3 hob h5 ⟨h2, rfl⟩ hb (Nat.le_trans hB hNw) (fun b e => Nat.le_trans hB (own_lt hrow e).1)
theorem rol_setLk (ho : ops[i]? = some o) (hw : Region.wanted o (yielded ops a.tmps) = true) (hd : o.dst = none) {x : Operand} {t g : Nat} (hop : o.op = .store 22 x (.tmp t)) (hx : a.eval x = .pointer (some ⟨g, 2, none⟩)) {N n : Nat} {xs : List Value} {r2 : Nat} (h : (RLeaf.mem t (rowG N 42 2 n xs)).holds r2 a w who)
    {cur : Array Value} (hg : (RLeaf.box g (.cells cur 64)).holds r a w who) (hk : cur.size = 4) (hb : Below B w0 w) (hB : B ≤ g) : wpOp Tryz.prog ops Q i (RPost ops i r r (.mem t (lkF g cur)) B w0 a w who) a w := by
  obtain ⟨v, ob, hv, -, hrow, rfl⟩ := h
  obtain ⟨h1, h2⟩ := hg
  obtain ⟨av, cv, rfl⟩ := own_formJ hrow
  have hc : w.cell? ⟨g, 2, none⟩ = some (cur[2]'(by omega)) := by simp [World.cell?, h1, hk]
  have hf : w.frozen? ⟨g, 2, none⟩ = false := by unfold World.frozen?; simp only [h1]; simp
  refine rol_wp ho hw ?_
  unfold Oper.wp
  rw [ex_store hop hx (eval_slot hv) (st_ndsK hc hf), Oper.upon_skip, hd]
  have hlt : g < w.heap.size := (Array.getElem?_eq_some_iff.1 h1).1
  refine ⟨⟨undef, by rw [dst_of ho, hd]⟩, hb.setCell hB _, who, ⟨fun j _ hj => ?_, fun _ _ => rfl, by simp [World.setCell]⟩, _, some g, hv, fun b e => ?_, rfl, ?_⟩
  · exact Below.heap_setCell _ ⟨g, 2, none⟩ _ j (fun e => hj (by rw [e]; exact h2))
  · cases e
    exact ⟨by simp [World.setCell]; exact hlt, h2⟩
  · simp [World.setCell, Array.getElem?_modify, h1]
end
theorem minusK_yes {l m : List Nd} {k : Nat} (h : k < l.length) (o : hasN m (l.getD k ([], [])) = true) : minusN (l.take (k + 1)) m = minusN (l.take k) m := by
  rw [minusN_take_succ h, if_pos o, List.append_nil]
theorem minusK_no {l m : List Nd} {k : Nat} (h : k < l.length) (o : hasN m (l.getD k ([], [])) = false) : minusN (l.take (k + 1)) m = minusN (l.take k) m ++ [l.getD k ([], [])] := by
  rw [minusN_take_succ h, if_neg (by rw [o]; exact Bool.false_ne_true)]
theorem lackK_snoc (live M : List Nd) (l : List Ne) (n : Nd) : lackK live (M ++ [n]) l = lackK live M l ++ [(n, byK (liveK live l) n)] := by
  unfold lackK; rw [List.map_append]; rfl
theorem cellsNK {w : World} {N g n c : Nat} {cur : Array Value} {L : List Nd} (h : w.ownsRow N 42 2 (.slice (some ⟨g, 0, none⟩) n c) n (ndsC L)) (hg : w.heap[g]? = some (.cells cur 42 (0, 0))) (j : Nat) (hj : j < L.length) (w' : World) (hw : w'.heap[g]? = some (.cells cur 42 (0, 0))) :
    w'.cell? ⟨g, j * 2, none⟩ = some (.string (mkB (L.getD j ([], [])).1)) ∧ w'.cell? ⟨g, j * 2 + 1, none⟩ = some (.string (mkB (L.getD j ([], [])).2)) := by
  have hl : L.length = n := by have := h.1; rw [ndsC_len] at this; omega
  obtain ⟨c0, c1⟩ := ndsC_at L j hj
  have e : ∀ i, w'.cell? ⟨g, i, none⟩ = w.cell? ⟨g, i, none⟩ := fun i => World.cell?_of_block (w := w) (a := ⟨g, i, none⟩) (by exact hw.trans hg.symm)
  rw [e, e, h.cellAt (j * 2) (by omega), h.cellAt (j * 2 + 1) (by omega)]
  exact ⟨c0, c1⟩

set_option maxHeartbeats 6400000 in
theorem refofK_any (U V D : Value) (live keys : List Nd) (l : List Ne) (w : World) (hU : Nds w U live) (hV : Nds w V keys) (hD : Nes w D l) (hm : mayK l = true) (sd : ∀ d ∈ l, smallNe d) (hl : live.length ≤ 100000) (hd : l.length ≤ 100000) :
    Calls Tryz.prog 17 #[U, V, D] w fun e w' => ∃ v, e = .returned v ∧ LkO w' w.heap.size v (lackK live (minusN live keys) l) ∧ Below w.heap.size w w' := by
  obtain ⟨a0, c0, rfl, h01, h02, -, -⟩ := hU.ex
  obtain ⟨a1, c1, rfl, h11, h12, -, -⟩ := hV.ex
  obtain ⟨a2, c2, rfl, h21, h22, -, -⟩ := hD.ex
  unfold maxLen at h02
  obtain ⟨n0, hn0⟩ : ∃ n, live.length = n := ⟨_, rfl⟩
  obtain ⟨n1, hn1⟩ : ∃ n, keys.length = n := ⟨_, rfl⟩
  obtain ⟨n2, hn2⟩ : ∃ n, l.length = n := ⟨_, rfl⟩
  have kby := fun p v w' (h' : Nes w' (.slice a2 l.length c2) l) => refbyKo_any (.slice a2 l.length c2) l p v w' h' hm sd hd
  rw [hn2] at kby
  rw [hn0] at hU h01 hl
  rw [hn1] at hV
  rw [hn2] at hD h21 hd
  rw [hn0, hn1, hn2]
  obtain ⟨N0, hN0⟩ : ∃ N, w.heap.size = N := ⟨_, rfl⟩
  rw [hN0]
  have SU := Lib.hid hU; have SV := Lib.hid hV; have SD := Lib.hid hD; have KB := Lib.hid kby; have HN0 := Lib.hid hn0; have HN := Lib.hid hN0; have HM := Lib.hid hm
  have HBL := Lib.hid (fun n => byK_live (live := live) hm n)
  have hbn : ∀ n, (byK l n).1.length ≤ 100000 := fun n => by
    have h1 := byK_len l n
    have h2 := List.length_filter_le (toK n) l
    omega
  have HBN := Lib.hid hbn
  clear hU hV hD kby hn0 hn1 hN0 hm sd hn2 hbn h21 h22 h11 h12
  go_enter Tryz.func17, Tryz.ntmps17
  go_wp2
  go_loopw [7, 8] (fun v7 i wr => ∃ (k : Nat) (X : Value), k ≤ n0 ∧ X = v7 ∧ i = .int .i64 k ∧ Hid (LkO wr N0 X (lackK live (minusN (live.take k) keys) l)) ∧ Hid (Below N0 w wr)) (fun _ i _ => n0 - (intOf i).toNat)
  case atStart => exact ⟨0, _, Nat.zero_le _, rfl, rfl, Lib.hid (LkO.nil _ _), Lib.hid (Below.refl _ _)⟩
  case round =>
    obtain ⟨k, X, hk, rfl, rfl, HO, HB⟩ := hrel
    by_cases hlt : k < n0
    · have hkl : k < live.length := by rw [HN0.out]; exact hlt
      have hbw : Below w.heap.size w wr := by rw [HN.out]; exact HB.out
      obtain ⟨b, off, rfl, -, hc0, hc1⟩ := (SU.out.below hbw).at k hkl
      have hyes := minusK_yes (m := keys) hkl
      have hno := minusK_no (m := keys) hkl
      obtain ⟨y, hy⟩ : ∃ y, y = live.getD k ([], []) := ⟨_, rfl⟩
      rw [← hy] at hc0 hc1 hyes hno
      obtain ⟨y1, y2⟩ := y
      simp only at hc0 hc1
      obtain ⟨O, hO⟩ : ∃ O, hasN keys (y1, y2) = O := ⟨_, rfl⟩
      rw [hO] at hyes hno
      have HY := Lib.hid hyes; have HNO := Lib.hid hno; have HOO := Lib.hid hO; have HBW := Lib.hid hbw
      have hNw : N0 ≤ wr.heap.size := by rw [← HN.out]; exact hbw.size
      clear hyes hno hy hO hbw
      have hkb : (k : Int) < (n0 : Int) := by omega
      cases O
      · go_upto_region 6 with (go_at_call 24; refine (refnhas_any _ keys _ _ _ (SV.out.below HBW.out)).mono ?_; rintro e w1 ⟨rfl, hb1⟩; rw [HOO.out]; have HB1 := Lib.hid (HB.out.trans (hb1.mono hNw)); have HO1 := Lib.hid (HO.out.below hb1); have HBW1 := Lib.hid (below_step HBW.out hb1); replace hc0 := cell_keep hc0 hb1; replace hc1 := cell_keep hc1 hb1; have hNw1 := Nat.le_trans hNw hb1.size; clear hb1)
        have hbl := build_lk1 (w := w1) (p := y1) (v := y2)
        go_upto_region 7 with fail
        obtain ⟨X6, gx, hX6, hgx, hrx, hxb⟩ : ∃ X6 gx, w1.alloc (.cells #[.string (mkB y1), .string (mkB y2), .slice none 0 0, .bool false] 64) = X6 ∧ w1.heap.size = gx ∧ X6.heap[gx]? = some (.cells #[.string (mkB y1), .string (mkB y2), .slice none 0 0, .bool false] 64 (0, 0)) ∧ Below w1.heap.size w1 X6 := ⟨_, _, rfl, rfl, heap_alloc_new _ _, (Below.refl _ _).alloc (Nat.le_refl _) _⟩
        rw [hX6, hgx]
        have HNX := Lib.hid (show N0 ≤ gx by rw [← hgx]; exact hNw1)
        have HOX := Lib.hid (HO1.out.below hxb); have HBX6 := Lib.hid (HB1.out.trans (hxb.mono hNw1)); have HBWX := Lib.hid (below_step HBW1.out hxb)
        replace hc0 := cell_keep hc0 hxb
        replace hc1 := cell_keep hc1 hxb
        have kb := fun w' h' => KB.out y1 y2 w' h'
        have hfin := HBL.out (y1, y2)
        have hbn := HBN.out (y1, y2)
        obtain ⟨Y, hYY⟩ : ∃ Y, byK l (y1, y2) = Y := ⟨_, rfl⟩
        rw [hYY] at kb hfin hbn
        obtain ⟨BY, r⟩ := Y
        simp only at kb hfin hbn
        obtain ⟨nb, hnb⟩ : ∃ n, BY.length = n := ⟨_, rfl⟩
        rw [hnb] at kb hbn
        have KBY := Lib.hid kb; have HFIN := Lib.hid hfin; have HNB := Lib.hid hnb; have HRX := Lib.hid hrx; have HGX := Lib.hid (show gx < X6.heap.size from (Array.getElem?_eq_some_iff.1 hrx).1)
        have hx1 : w1.heap.size = gx := hgx
        rw [hx1] at hxb
        have HX1 := Lib.hid hx1
        clear kb hfin hYY hnb hrx hX6 hgx hx1 hNw hNw1 HO HB HB1 HBW HOX HBX6 hbl
        go_upto_region 8 with (go_at_call 21; refine (KBY.out _ (SD.out.below HBWX.out)).mono ?_; rintro e w7 ⟨yv, rfl, ho, hb1⟩; obtain ⟨aY, cY, hyv⟩ := own_formJ ho; subst hyv; have HRB := Lib.hid (row_base ho (Nat.le_of_lt HGX.out)); have HRX7 := Lib.hid (row_keepB HRX.out hb1); have HBG7 := Lib.hid (hxb.trans (hb1.mono (Nat.le_of_lt HGX.out))); clear hb1 ho)
        obtain ⟨c0, c1, c2, c3⟩ := row4n HRX7.out
        have hf3 : w7.frozen? ⟨gx, 3, none⟩ = false := by unfold World.frozen?; simp only [HRX7.out]; simp
        go_upto_region 9 with fail
        obtain ⟨W8, hW8, hr8, hb8⟩ : ∃ W8, w7.setCell ⟨gx, 3, none⟩ (.bool r) = W8 ∧ W8.heap[gx]? = some (.cells #[.string (mkB y1), .string (mkB y2), .slice none 0 0, .bool r] 64 (0, 0)) ∧ (Below gx w7 W8 ∧ ∀ b, b ≠ gx → W8.heap[b]? = w7.heap[b]?) := ⟨_, rfl, by simp [World.setCell, Array.getElem?_modify, HRX7.out], (Below.refl gx w7).setCell (p := ⟨gx, 3, none⟩) (Nat.le_refl gx) _, fun b hb => Below.heap_setCell _ ⟨gx, 3, none⟩ _ b hb⟩
        rw [hW8]
        have HR8 := Lib.hid hr8
        have HRB8 := Lib.hid (row_heap HRB.out fun b e => hb8.2 b fun h => own_nebox HRB.out HRX7.out (by decide) (by rw [← h]; exact e))
        have HBG8 := Lib.hid (HBG7.out.trans hb8.1)
        clear hW8 hr8 hb8 hf3 c0 c1 c2 c3 HRB HRX7 HBG7 hxb
        have HSZ8 := Lib.hid (show gx ≤ W8.heap.size from Nat.le_of_lt (Array.getElem?_eq_some_iff.1 HR8.out).1)
        go_wp2
        go_loopw [12] (fun i wr => ∃ (j q : Nat) (ax : Option Addr) (cx : Nat) (K : List Nd), j ≤ nb ∧ i = .int .i64 j ∧ q ≤ j ∧ Hid (K = (BY.take j).filter (hasN live)) ∧ Hid (K.length = q) ∧ Hid (wr.heap[gx]? = some (.cells #[.string (mkB y1), .string (mkB y2), .slice ax q cx, .bool r] 64 (0, 0))) ∧ Hid (wr.ownsRow W8.heap.size 42 2 (.slice ax q cx) q (ndsC K)) ∧ Hid (wr.ownsRow gx 42 2 (.slice aY nb cY) nb (ndsC BY)) ∧ Hid (Below gx W8 wr)) (fun i _ => nb - (intOf i).toNat)
        case atStart => exact ⟨0, 0, none, 0, [], Nat.zero_le _, rfl, Nat.le_refl _, Lib.hid rfl, Lib.hid rfl, HR8, Lib.hid (World.ownsRow_nil _ _ _ _), HRB8, Lib.hid (Below.refl _ _)⟩
        case round =>
          obtain ⟨j, q, ax, cx, K, hj, rfl, hqj, HK, HQ, HXB, HRY, HRB, HBI⟩ := hrel
          by_cases hltj : j < nb
          · have hjl : j < BY.length := by rw [HNB.out]; exact hltj
            obtain ⟨bY, curY, haY, hcurY⟩ : ∃ bY curY, aY = some ⟨bY, 0, none⟩ ∧ wr.heap[bY]? = some (.cells curY 42 (0, 0)) := by
              rcases HRB.out.2 with ⟨hv, h0⟩ | ⟨g, cap, cur, hv, _, hh, _⟩
              · omega
              · injection hv with e1 e2 e3
                exact ⟨g, cur, e1, hh⟩
            subst haY
            have hcell := fun w' hw => cellsNK HRB.out hcurY j hjl w' hw
            have htk := nd_take hjl
            obtain ⟨z, hz⟩ : ∃ z, z = BY.getD j ([], []) := ⟨_, rfl⟩
            rw [← hz] at hcell htk
            obtain ⟨z1, z2⟩ := z
            simp only at hcell
            obtain ⟨hz0, hz1⟩ := hcell wr hcurY
            obtain ⟨O2, hO2⟩ : ∃ O, hasN live (z1, z2) = O := ⟨_, rfl⟩
            have hfl : (BY.take (j + 1)).filter (hasN live) = K ++ (if O2 = true then [(z1, z2)] else []) := by
              rw [htk, List.filter_append, ← HK.out, List.filter_cons, hO2, List.filter_nil]
            have hww : Below w.heap.size w wr := HBW1.out.trans ((HBG8.out.trans HBI.out).mono (by rw [HN.out]; exact HNX.out))
            have HZ := Lib.hid hcell; have HO2 := Lib.hid hO2; have HFL := Lib.hid hfl; have HCY := Lib.hid hcurY
            have hjb : (j : Int) < (nb : Int) := by omega
            have hgw : gx ≤ wr.heap.size := Nat.le_of_lt (Array.getElem?_eq_some_iff.1 HXB.out).1
            clear hz htk hcell hfl hO2 hcurY
            cases O2
            · go_wp2_with (go_at_call 24; refine (refnhas_any _ live _ _ _ (SU.out.below hww)).mono ?_; rintro e w9 ⟨rfl, hb1⟩; rw [HO2.out]; have HXB9 := Lib.hid (row_keepB HXB.out hb1); have HRY9 := Lib.hid (ownsRow_belowB HRY.out hb1); have HRB9 := Lib.hid (ownsRow_belowB HRB.out hb1); have HBI9 := Lib.hid (HBI.out.trans (hb1.mono hgw)); clear hb1)
              go_roundw
              case rel => exact ⟨j + 1, q, ax, cx, K, by omega, by go_num, by omega, Lib.hid (by rw [HFL.out]; simp), HQ, HXB9, HRY9, HRB9, HBI9⟩
              case measure => simp [intOf]; omega
            · go_upto_region 13 with (go_at_call 24; refine (refnhas_any _ live _ _ _ (SU.out.below hww)).mono ?_; rintro e W9 ⟨rfl, hb1⟩; rw [HO2.out]; have HBX := Lib.hid (row_keepB HXB.out hb1); replace HCY := Lib.hid (row_keepB HCY.out hb1); have HRY9 := Lib.hid (ownsRow_belowB HRY.out hb1); have HRB9 := Lib.hid (ownsRow_belowB HRB.out hb1); replace HBI := Lib.hid (HBI.out.trans (hb1.mono hgw)); clear hb1)
              have hgw9 : gx ≤ W9.heap.size := Nat.le_of_lt (Array.getElem?_eq_some_iff.1 HBX.out).1
              have hn79 : W8.heap.size ≤ W9.heap.size := HBI.out.size
              have hbY8 : bY < W8.heap.size := (own_lt HRB8.out (b := bY) rfl).2
              have HJ := Lib.hid hltj; have HBS := Lib.hid hgw9; have HGN := Lib.hid (show gx ≤ W8.heap.size from HSZ8.out); have HN7 := Lib.hid hn79; have HQS := Lib.hid (show q ≤ 100000 by omega)
              have HZ0 := Lib.hid (fun w' hw => (HZ.out w' hw).1); have HZ1 := Lib.hid (fun w' hw => (HZ.out w' hw).2)
              obtain ⟨whoF, hwho⟩ : ∃ g : Nat → Nat, g = (fun b => if b = gx then 2 else if b = bY then 6 else 1) := ⟨_, rfl⟩
              have hgY : bY ≠ gx := fun h => own_nebox HRB9.out HBX.out (by decide) (by rw [← h]; rfl)
              have HW2 := Lib.hid (show whoF gx = 2 by rw [hwho]; exact if_pos rfl)
              have HW6 := Lib.hid (show whoF bY = 6 by rw [hwho]; exact (if_neg hgY).trans (if_pos rfl))
              have HW1 := Lib.hid (show ∀ b, Value.ownBlock (.slice ax q cx) = some b → whoF b = 1 from fun b e => by
                have h1 : b ≠ gx := fun h => own_nebox HRY9.out HBX.out (by decide) (by rw [← h]; exact e)
                have h2 : b ≠ bY := fun h => by have h3 := (own_lt HRY9.out e).1; omega
                rw [hwho]; exact (if_neg h1).trans (if_neg h2))
              have HRY := Lib.hid HRY9.out
              clear hwho hgY hbY8 HZ hgw hgw9 hn79
              refine rol_run (by kernel_rfl) [[], [0], [], [], [2, 3], [2, 3, 4], [2, 3, 4, 5], [0, 1, 2, 3, 4, 5, 6], [0, 1, 2, 3, 4, 5, 6, 7], [0, 1, 2, 3, 4, 5, 6, 7, 8]] (by kernel_rfl) [53, 54, 55, 56, 57, 58, 59, 60, 61] [[], [0, 10], [], [], [2, 3], [4, 11], [5], [1, 6, 12], [], [7, 10, 8]] [0, 0, 0, 0, 0, 0, 4, 1, 0, 2, 2, 6, 1] [0, 0, 0, 0, 0, 0, 0, 1, 0, 2] [1000, 1000, 1000, 1000, 1000, 1000, 1000, 1000, 1000, 1000, 9, 1000, 7] [.val 53 (.pointer (some ⟨gx, 2, none⟩)), .val 54 (.slice ax q cx), .val 55 (.slice (some ⟨bY, 0, none⟩) nb cY), .val 56 (.int .i64 (j : Int)), .val 57 (.pointer (some ⟨bY, j * 2, none⟩)), .val 58 (.agg #[.string (mkB z1), .string (mkB z2)]), .mem 59 (blkG 42 #[.string (mkB z1), .string (mkB z2)] 1), .mem 60 (rowG W8.heap.size 42 2 (q + 1) (ndsC (K ++ [(z1, z2)]))), .val 61 (.pointer (some ⟨gx, 2, none⟩)), .mem 60 (lkF gx #[.string (mkB y1), .string (mkB y2), .slice ax q cx, .bool r]), .box (gx) (.cells #[.string (mkB y1), .string (mkB y2), .slice ax q cx, .bool r] 64), .box (bY) (.cells curY 42), .mem 9 (rowX (.slice ax q cx) W8.heap.size 42 2 q (ndsC K))] (by kernel_rfl) ?_ (gx) (W9.heap.size) rfl HBI.out rfl (whoF) ?_ ?_ ?_
              · intro j hj
                have hj3 : j < 13 := hj
                have hj2 : j = 0 ∨ j = 1 ∨ j = 2 ∨ j = 3 ∨ j = 4 ∨ j = 5 ∨ j = 6 ∨ j = 7 ∨ j = 8 ∨ j = 9 ∨ j = 10 ∨ j = 11 ∨ j = 12 := by omega
                clear hj hj3
                rcases hj2 with rfl | rfl | rfl | rfl | rfl | rfl | rfl | rfl | rfl | rfl | rfl | rfl | rfl
                · exact trivial
                · exact trivial
                · exact trivial
                · exact trivial
                · exact trivial
                · exact trivial
                · exact blkG_near
                · exact rowG_near
                · exact trivial
                · exact lkF_near
                · exact trivial
                · exact trivial
                · exact rowX_near
              · intro j hj0 hj
                have hj1 : 10 ≤ j := hj0
                have hj3 : j < 13 := hj
                have hj2 : j = 10 ∨ j = 11 ∨ j = 12 := by omega
                clear hj0 hj hj1 hj3
                rcases hj2 with rfl | rfl | rfl
                · exact ⟨HBX.out, HW2.out⟩
                · exact ⟨HCY.out, HW6.out⟩
                · exact ⟨_, _, rfl, fun b e => ⟨(own_lt HRY.out e).2, HW1.out b e⟩, HRY.out, rfl⟩
              · intro i hi a wx who hG hF
                have hz : a.tmps.size = 67 := hG.size
                have hi3 : i < 10 := hi
                have hi2 : i = 0 ∨ i = 1 ∨ i = 2 ∨ i = 3 ∨ i = 4 ∨ i = 5 ∨ i = 6 ∨ i = 7 ∨ i = 8 ∨ i = 9 := by omega
                clear hi hi3
                rcases hi2 with rfl | rfl | rfl | rfl | rfl | rfl | rfl | rfl | rfl | rfl
                · exact rol_val rfl rfl rfl (by rw [hz]; decide) (ex_field rfl (eval_slot ((hG.slots 9 (by decide)).trans rfl)) (by go_simp)) hG.below
                · exact rol_val rfl rfl rfl (by rw [hz]; decide) (ex_load rfl (eval_slot (hF 0 (by decide))) (ld_nds (row4n (hF 10 (by decide)).1).2.2.1)) hG.below
                · exact rol_val rfl rfl rfl (by rw [hz]; decide) (ex_move (Or.inl rfl) (eval_slot ((hG.slots 10 (by decide)).trans rfl))) hG.below
                · exact rol_val rfl rfl rfl (by rw [hz]; decide) (ex_move (Or.inl rfl) (eval_slot ((hG.slots 12 (by decide)).trans rfl))) hG.below
                · exact rol_val rfl rfl rfl (by rw [hz]; decide) (ex_index rfl (eval_slot (hF 2 (by decide))) (eval_slot (hF 3 (by decide))) (by have h := idx_nds (b := bY) (off := 0) (n := nb) (c := cY) (k := j) (w := wx) HJ.out; rw [Nat.zero_add] at h; exact h)) hG.below
                · exact rol_val rfl rfl rfl (by rw [hz]; decide) (ex_load rfl (eval_slot (hF 4 (by decide))) (ld_node (HZ0.out wx (hF 11 (by decide)).1) (HZ1.out wx (hF 11 (by decide)).1))) hG.below
                · exact rol_newO rfl rfl rfl (by rw [hz]; decide) (x := .cells #[.string (mkB z1), .string (mkB z2)] 42) (v := .slice (some ⟨wx.heap.size, 0, none⟩) 1 1) (ex_slice rfl (vs := #[(0, .agg #[.string (mkB z1), .string (mkB z2)])]) (by simp only [List.map_toArray, List.map_cons, List.map_nil, eval_slot (hF 5 (by decide))]) (by go_simp)) ⟨_, rfl, rfl, heap_alloc_new _ _⟩ hG.below (Nat.le_trans HBS.out hG.new)
                · obtain ⟨v, ob, hv, hob, b, rfl, rfl, hh⟩ := hF 6 (by decide)
                  exact rol_app_ndK rfl rfl rfl (by rw [hz]; decide) rfl (hF 12 (by decide)) (eval_slot (hF 1 (by decide))) (eval_slot hv) (blk_ndsK hh) (by have := HQS.out; omega) hG.below HGN.out (Nat.le_trans HN7.out hG.new) rfl rfl
                · exact rol_val rfl rfl rfl (by rw [hz]; decide) (ex_field rfl (eval_slot ((hG.slots 9 (by decide)).trans rfl)) (by go_simp)) hG.below
                · exact rol_setLk rfl rfl rfl rfl (eval_slot (hF 8 (by decide))) (hF 7 (by decide)) (hF 10 (by decide)) rfl hG.below (Nat.le_refl _)
              · intro a wx who hG hF
                have hap := hF 7 (of_decide_eq_true (by kernel_rfl)) (of_decide_eq_true (by kernel_rfl))
                have hst := hF 9 (of_decide_eq_true (by kernel_rfl)) (of_decide_eq_true (by kernel_rfl))
                have hby := hF 11 (of_decide_eq_true (by kernel_rfl)) (of_decide_eq_true (by kernel_rfl))
                have hbx := hG.below
                have hnx := hG.new
                rw [hG.frame]
                simp only [List.foldl_cons, List.foldl_nil, List.setIfInBounds_toArray, List.set_cons_zero, List.set_cons_succ]
                generalize a.tmps.getD 53 undef = u53
                generalize a.tmps.getD 54 undef = u54
                generalize a.tmps.getD 55 undef = u55
                generalize a.tmps.getD 56 undef = u56
                generalize a.tmps.getD 57 undef = u57
                generalize a.tmps.getD 58 undef = u58
                generalize a.tmps.getD 59 undef = u59
                generalize a.tmps.getD 60 undef = u60
                generalize a.tmps.getD 61 undef = u61
                clear hF hG
                obtain ⟨va, oba, hva, hoba, hra, rfl⟩ := hap
                obtain ⟨vb, obb, hvb, -, -, hrb⟩ := hst
                have evb : va = vb := Option.some.inj (hva.symm.trans hvb)
                subst evb
                obtain ⟨avx, cvx, hvx⟩ := own_formJ hra
                subst hvx
                have HXN := Lib.hid (show wx.heap[gx]? = some (.cells #[.string (mkB y1), .string (mkB y2), .slice avx (q + 1) cvx, .bool r] 64 (0, 0)) by simpa using hrb)
                have HRYN := Lib.hid hra
                have HRBN := Lib.hid (row_heap HRB9.out fun b e => by
                  have e2 : bY = b := Option.some.inj e
                  rw [← e2, hby.1, HCY.out])
                have HBNX := Lib.hid hbx
                clear hva hvb hoba hra hrb hby hbx hnx
                go_wp2
                go_roundw
                case rel => exact ⟨j + 1, q + 1, avx, cvx, K ++ [(z1, z2)], by omega, by go_num, by omega, Lib.hid (by rw [HFL.out]; rfl), Lib.hid (by rw [List.length_append, HQ.out]; rfl), HXN, HRYN, HRBN, HBNX⟩
                case measure => simp [intOf]; omega
          · have e : j = nb := by omega
            subst e
            have hK := HK.out
            rw [List.take_of_length_le (by rw [HNB.out]; exact Nat.le_refl _)] at hK
            obtain ⟨c0, c1, c2, c3⟩ := row4n HXB.out
            have hgw : gx ≤ wr.heap.size := Nat.le_of_lt (Array.getElem?_eq_some_iff.1 HXB.out).1
            have hbg : Below gx w1 wr := HBG8.out.trans HBI.out
            have HOW := Lib.hid (HO1.out.below (by rw [HX1.out]; exact hbg))
            obtain ⟨m, hm⟩ : ∃ m, (lackK live (minusN (live.take k) keys) l).length = m := ⟨_, rfl⟩
            have hm5 : m ≤ 100000 := by
              rw [← hm, lackK_len]
              have h1 := minusN_len (live.take k) keys
              rw [List.length_take] at h1
              omega
            have HMM := Lib.hid hm; have HKE := Lib.hid hK; have HYO := Lib.hid (row_base HRY.out (Nat.le_trans HNX.out HSZ8.out))
            have hnwr : N0 ≤ wr.heap.size := Nat.le_trans HNX.out hgw
            have HBZ := Lib.hid (show Below N0 w wr from by
              have h1 := HBW1.out
              rw [HN.out] at h1
              exact h1.trans (hbg.mono HNX.out))
            clear hm hK hbg hgw HRY
            go_wp2_with (at_builtin; refine wpList_push_lk rfl _ _ rfl N0 _ (lackK live (minusN (live.take k) keys) l) m HMM.out rfl HOW.out y1 y2 K _ r (by rw [HQ.out]; exact HYO.out) wr.heap.size rfl rfl (by omega) hnwr ?_; intro a9 c9 w9 hO9 hB9; have HO9 := Lib.hid hO9; have HB9 := Lib.hid (HBZ.out.trans hB9); clear hO9 hB9)
            go_roundw
            case rel => exact ⟨k + 1, _, by omega, rfl, by go_num, Lib.hid (by rw [HNO.out trivial, lackK_snoc, HFIN.out, ← HKE.out]; exact HO9.out), HB9⟩
            case measure => simp [intOf]; omega
      · go_wp2_with (go_at_call 24; refine (refnhas_any _ keys _ _ _ (SV.out.below HBW.out)).mono ?_; rintro e w1 ⟨rfl, hb1⟩; rw [HOO.out]; have HB1 := Lib.hid (HB.out.trans (hb1.mono hNw)); have HO1 := Lib.hid (HO.out.below hb1); clear hb1)
        go_roundw
        case rel => exact ⟨k + 1, _, by omega, rfl, by go_num, Lib.hid (by rw [HY.out trivial]; exact HO1.out), HB1⟩
        case measure => simp [intOf]; omega
    · have e : k = n0 := by omega
      subst e
      have hO := HO.out
      rw [List.take_of_length_le (by rw [HN0.out]; exact Nat.le_refl _)] at hO
      go_wp2
      go_ret
      exact ⟨_, rfl, hO, HB.out⟩
end Go.Proofs.YtjnkjjlpkgbkiaaGreat
