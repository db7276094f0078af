/- Rows with a node, and without it: of the program. -/
import Derived.Test.YtnngfcjfhhfafaaGreatTalH
namespace Go.Proofs.YtnngfcjfhhfafaaGreat
open Go.RowKit
set_option linter.unusedVariables false
set_option maxRecDepth 100000

section
variable {P : Program} {ops : Array Oper} {Q : Exit → Act → World → Prop} {a : Act} {w w0 : World} {who : Nat → Nat} {i B r ro : Nat} {o : Oper}
/-- A call that turns, or makes anew, a row of the region's own. -/
theorem rol_callg (ho : ops[i]? = some o) (hw : Region.wanted o (yielded ops a.tmps) = true) {s : Nat} (hd : o.dst = some s) (hs : s < a.tmps.size) {f : Nat} {vs : Array Value} (hr : Sem.run P (execOp a.eval o) w = .ok (.enter f vs) w) {R : Ending → World → Prop} (hc : Calls P f vs w R) {p : World → Value → Option Nat → Prop} {ob : Option Nat}
    (h : ∀ e w', R e w' → ∃ v' ob', e = .returned v' ∧ w.grownBy w' ob ∧ (ob' = ob ∨ ob' = some w.heap.size ∧ w.heap.size < w'.heap.size) ∧ p w' v' ob') (hob : ∀ b, ob = some b → b < w.heap.size ∧ who b = r) (hb : Below B w0 w) (hB : B ≤ w.heap.size) (hrow : ∀ b, ob = some b → B ≤ b) :
    wpOp P ops Q i (RPost ops i r r (.mem s p) B w0 a w who) a w := by
  refine rol_wp ho hw ?_
  unfold Oper.wp
  rw [hr, Oper.upon_enter]
  refine hc.mono fun e w' hR => ?_
  obtain ⟨v', ob', rfl, hg, hob', hp⟩ := h e w' hR
  rw [hd]
  refine ⟨⟨v', by rw [dst_of ho, hd]⟩, hb.grown hg hB hrow, rtag w who r, RKeep.grown hg (fun b e => (hob b e).2), v', ob', put_self _ hs, fun b e => ?_, hp⟩
  rcases hob' with h | ⟨h, hlt⟩
  · rw [h] at e
    obtain ⟨b1, b2⟩ := hob b e
    exact ⟨Nat.lt_of_lt_of_le b1 hg.size, (rtag_old b1).trans b2⟩
  · rw [h] at e
    cases e
    exact ⟨hlt, rtag_new (Nat.le_refl _)⟩
/-- A call whose answer holds new blocks, and blocks of before of a role. -/
theorem rol_callo (ho : ops[i]? = some o) (hw : Region.wanted o (yielded ops a.tmps) = true) {s : Nat} (hd : o.dst = some s) (hs : s < a.tmps.size) {f : Nat} {vs : Array Value} (hr : Sem.run P (execOp a.eval o) w = .ok (.enter f vs) w) {R : Ending → World → Prop} (hc : Calls P f vs w R) {p : World → Value → (Nat → Prop) → Prop}
    (h : ∀ e w', R e w' → ∃ v bs, e = .returned v ∧ Below w.heap.size w w' ∧ (∀ b, bs b → b < w'.heap.size ∧ (w.heap.size ≤ b ∨ b < w.heap.size ∧ who b = r)) ∧ p w' v bs) (hb : Below B w0 w) (hB : B ≤ w.heap.size) :
    wpOp P ops Q i (RPost ops i r ro (.mems s p) B w0 a w who) a w := by
  refine rol_wp ho hw ?_
  unfold Oper.wp
  rw [hr, Oper.upon_enter]
  refine hc.mono fun e w' hR => ?_
  obtain ⟨v, bs, rfl, hb1, hbs, hp⟩ := h e w' hR
  rw [hd]
  refine ⟨⟨v, by rw [dst_of ho, hd]⟩, hb.trans (hb1.mono hB), rtag w who r, RKeep.belowO hb1 r ro who, v, bs, put_self _ hs, fun b e => ?_, hp⟩
  obtain ⟨h1, h2 | ⟨h2, h3⟩⟩ := hbs b e
  · exact ⟨h1, rtag_new h2⟩
  · exact ⟨h1, (rtag_old h2).trans h3⟩
end
/-- Rows in a slot, whose versions may be older than the row of rows. -/
def rwsY (N lo : Nat) (rs : List Rw) : World → Value → (Nat → Prop) → Prop := fun w v bs => ∃ ys, w.ownsRow N 58 2 v rs.length (rwC rs ys) ∧ RwI w lo ys rs ∧ (∀ b, v.ownBlock = some b → bs b) ∧ ∀ j, j < rs.length → ∀ b, (ys.getD j undef).ownBlock = some b → bs b
theorem rwsY_near {N lo : Nat} {rs : List Rw} : ∀ (w w' : World) (v : Value) (bs : Nat → Prop), (∀ b, bs b → w'.heap[b]? = w.heap[b]?) → rwsY N lo rs w v bs → rwsY N lo rs w' v bs := by
  rintro w w' v bs hb ⟨ys, h1, h2, h3, h4⟩
  exact ⟨ys, row_heap h1 fun b e => hb b (h3 b e), ⟨h2.1, fun j hj => row_heap (h2.2 j hj) fun b e => hb b (h4 j hj b e)⟩, h3, h4⟩
theorem bin_add1T {i : Nat} {w : World} (h : i ≤ 1000000) : Sem.run Tryz.prog (binOp .add 3 (.int .i64 (i : Int)) (.int .i64 1)) w = .ok (.int .i64 ((i : Int) + 1)) w := by
  have e : IntKind.i64.wrap ((i : Int) + 1) = (i : Int) + 1 := by rw [IntKind.wrap_i64]; omega
  go_simp
theorem ver_len_le {l : List Rw} {M : Nat} (ol : okR l = true) (p : List UInt8) (hv : ∀ r ∈ l, r.2.length ≤ M) : (rwVer l p).length ≤ M := by
  by_cases h : ∃ r ∈ l, r.1 = p
  · obtain ⟨r, hr, rfl⟩ := h
    obtain ⟨a, b, rfl⟩ := List.append_of_mem hr
    rw [ver_at ol]; exact hv r hr
  · rw [ver_none fun r hr e => h ⟨r, hr, e⟩]; exact Nat.zero_le _
theorem ver_small {l : List Rw} {p : List UInt8} {M : Nat} (hs : ∀ r ∈ l, ∀ x ∈ r.2, x.length ≤ M) : ∀ x ∈ rwVer l p, x.length ≤ M := fun x hx => by
  obtain ⟨r, hr, -, h⟩ := rwAll_mem.1 (ver_mem.1 hx)
  exact hs r hr x h
theorem addE_no {l : List Rw} {n : Nd} (h : (okR l && okN n) = false) : addE l n = (l, 1) := by unfold addE; rw [h]; rfl
theorem addE_has {l : List Rw} {n : Nd} (h : okR l = true) (k : okN n = true) (m : hasN (rwAll l) n = true) : addE l n = (l, 3) := by unfold addE; rw [h, k, m]; rfl
theorem addE_yes {l : List Rw} {n : Nd} (h : okR l = true) (k : okN n = true) (m : hasN (rwAll l) n = false) : addE l n = (rwOf (withN (rwAll l) n), 0) := by unfold addE; rw [h, k, m]; rfl
theorem dropE_no {l : List Rw} {n : Nd} (h : (okR l && okN n) = false) : dropE l n = (l, 1) := by unfold dropE; rw [h]; rfl
theorem dropE_none {l : List Rw} {n : Nd} (h : okR l = true) (k : okN n = true) (m : hasN (rwAll l) n = false) : dropE l n = (l, 2) := by unfold dropE; rw [h, k, m]; rfl
theorem dropE_yes {l : List Rw} {n : Nd} (h : okR l = true) (k : okN n = true) (m : hasN (rwAll l) n = true) : dropE l n = (rwOf (minusN (rwAll l) [n]), 0) := by unfold dropE; rw [h, k, m]; rfl
theorem has_ver {l : List Rw} {p v : List UInt8} : decide (v ∈ rwVer l p) = hasN (rwAll l) (p, v) := by
  unfold hasN; rw [Bool.eq_iff_iff, decide_eq_true_iff, decide_eq_true_iff]; exact ver_mem

set_option maxHeartbeats 1600000 in
theorem tadd_no (V : Value) (l : List Rw) (p v : List UInt8) (w : World) (hV : Rws w V l) (hl : l.length ≤ 10000) (hv : ∀ r ∈ l, r.2.length ≤ 10000) (hp : ∀ r ∈ l, r.1.length ≤ 1000000000) (hs : ∀ r ∈ l, ∀ x ∈ r.2, x.length ≤ 1000000000) (hpl : p.length ≤ 1000000000) (hvl : v.length ≤ 1000000000) (hno : (okR l && okN (p, v)) = false) :
    Calls Tryz.prog 10 #[V, .agg #[.string (mkB p), .string (mkB v)]] w fun e w' => ∃ x, e = .returned (.tuple #[x, .int .i64 (addE l (p, v)).2]) ∧ Rws w' x (addE l (p, v)).1 ∧ Below w.heap.size w w' := by
  rw [addE_no hno]
  obtain ⟨a, c, rfl, h1, h2, -, -⟩ := hV.ex
  unfold maxLen at h2
  obtain ⟨W, g, hW, hg, r0, hb⟩ := boxT w (.string (mkB p)) (.string (mkB v)) 24
  obtain ⟨d0, d1, -, -⟩ := row2 r0
  have km := fun w => nmay_any p v w hpl hvl
  obtain ⟨n, hn⟩ : ∃ n, l.length = n := ⟨_, rfl⟩
  rw [hn] at hl h1 hV ⊢
  obtain ⟨x, hx⟩ : ∃ x, okR l = x := ⟨_, rfl⟩
  rw [hx] at hno
  have SV := Lib.hid hV; have KC := Lib.hid (fun V w h => tcheck_any V l w h (by omega) hp hs); have KO := Lib.hid (fun V w h => town_any V l w h (by omega) (fun r hr => Nat.le_trans (hv r hr) (by decide))); have KM := Lib.hid km; have HW := Lib.hid hW; have HG := Lib.hid hg; have B := Lib.hid hb; have HOK := Lib.hid (show (if okR l = true then (0 : Int) else 1) = if x = true then 0 else 1 by rw [hx])
  clear hV hn hv hp hs hpl hvl km hW hg hb r0 hx
  cases x with
  | false =>
    clear hno
    go_enter Tryz.func10, Tryz.ntmps10
    go_upto_region 1 with fail
    rw [HW.out, HG.out]
    go_wp2_with (first
      | (go_at_call 12; refine (KC.out _ _ (SV.out.below B.out)).mono ?_; rintro e w1 ⟨rfl, hb1⟩; rw [HOK.out]; replace B := Lib.hid (below_step B.out hb1); replace d0 := cell_keep d0 hb1; replace d1 := cell_keep d1 hb1; clear hb1)
      | (go_at_call 35; refine (KO.out _ _ (SV.out.below B.out)).mono ?_; rintro e w2 ⟨v2, rfl, ho, hb2⟩; have HO := Lib.hid ho.rws; replace B := Lib.hid (below_step B.out hb2); clear hb2 ho))
    go_ret2
    exact ⟨_, rfl, HO.out, B.out⟩
  | true =>
    rw [Bool.true_and] at hno
    have HNO := Lib.hid hno; clear hno
    go_enter Tryz.func10, Tryz.ntmps10
    go_upto_region 1 with fail
    rw [HW.out, HG.out]
    go_wp2_with (first
      | (go_at_call 12; refine (KC.out _ _ (SV.out.below B.out)).mono ?_; rintro e w1 ⟨rfl, hb1⟩; rw [HOK.out]; replace B := Lib.hid (below_step B.out hb1); replace d0 := cell_keep d0 hb1; replace d1 := cell_keep d1 hb1; clear hb1)
      | (go_at_call 34; refine (KM.out _).mono ?_; rintro e w1 ⟨rfl, hb1⟩; rw [HNO.out]; replace B := Lib.hid (below_step B.out hb1); replace d0 := cell_keep d0 hb1; replace d1 := cell_keep d1 hb1; clear hb1)
      | (go_at_call 35; refine (KO.out _ _ (SV.out.below B.out)).mono ?_; rintro e w2 ⟨v2, rfl, ho, hb2⟩; have HO := Lib.hid ho.rws; replace B := Lib.hid (below_step B.out hb2); clear hb2 ho))
    go_ret2
    exact ⟨_, rfl, HO.out, B.out⟩

set_option maxHeartbeats 3200000 in
theorem tadd_yes (V : Value) (l : List Rw) (p v : List UInt8) (w : World) (hV : Rws w V l) (hl : l.length ≤ 10000) (hv : ∀ r ∈ l, r.2.length ≤ 10000) (hp : ∀ r ∈ l, r.1.length ≤ 1000000000) (hs : ∀ r ∈ l, ∀ x ∈ r.2, x.length ≤ 1000000000) (hpl : p.length ≤ 1000000000) (hvl : v.length ≤ 1000000000) (ol : okR l = true) (on : okN (p, v) = true) :
    Calls Tryz.prog 10 #[V, .agg #[.string (mkB p), .string (mkB v)]] w fun e w' => ∃ x, e = .returned (.tuple #[x, .int .i64 (addE l (p, v)).2]) ∧ Rws w' x (addE l (p, v)).1 ∧ Below w.heap.size w w' := by
  obtain ⟨E, hE⟩ : ∃ E, addE l (p, v) = E := ⟨_, rfl⟩
  rw [hE]
  have HEH := Lib.hid hE; clear hE
  obtain ⟨a, c, rfl, h1, h2, -, -⟩ := hV.ex
  unfold maxLen at h2
  obtain ⟨W, g, hW, hg, r0, hb⟩ := boxT w (.string (mkB p)) (.string (mkB v)) 24
  obtain ⟨d0, d1, -, -⟩ := row2 r0
  have km := fun w => nmay_any p v w hpl hvl
  obtain ⟨n, hn⟩ : ∃ n, l.length = n := ⟨_, rfl⟩
  rw [hn] at hl h1 hV ⊢
  obtain ⟨us, hus⟩ : ∃ us, rwVer l p = us := ⟨_, rfl⟩
  have hul : us.length ≤ 10000 := by rw [← hus]; exact ver_len_le ol p hv
  have ku := fun V w h => vers16_any V l p w h ol (by omega) (fun r hr => Nat.le_trans (hv r hr) (by decide))
  have kb := fun w a n c h hn => vsearch_any a n c us v w h (by rw [← hus]; exact ver_ok ol p) (by rw [← hus]; exact ver_small hs) (by rw [← hus]; exact ver_pair ol p) hvl (okN_parts on).2 hn
  have hmem : decide (v ∈ us) = hasN (rwAll l) (p, v) := by rw [← hus]; exact has_ver
  rw [hus] at ku
  obtain ⟨fd, hfd⟩ : ∃ b, hasN (rwAll l) (p, v) = b := ⟨_, rfl⟩
  rw [hfd] at hmem
  rw [hmem] at kb
  have SV := Lib.hid hV; have KC := Lib.hid (fun V w h => tcheck_any V l w h (by omega) hp hs); have KO := Lib.hid (fun V w h => town_any V l w h (by omega) (fun r hr => Nat.le_trans (hv r hr) (by decide))); have KM := Lib.hid km; have KU := Lib.hid ku; have KB := Lib.hid kb; have HW := Lib.hid hW; have HG := Lib.hid hg; have B := Lib.hid hb; have RG := Lib.hid r0; have HOK := Lib.hid (show (if okR l = true then (0 : Int) else 1) = 0 by rw [ol]; rfl); have HON := Lib.hid on; have HUS := Lib.hid hus; have HUL := Lib.hid (show us.length ≤ 1000000 by omega); have HL := Lib.hid ol; have HFD := Lib.hid hfd; have HMEM := Lib.hid hmem; have HUL2 := Lib.hid hul
  have kw := fun (vs : List (List UInt8)) (base : Nat) (h3 : vs.length ≤ 1000000) (w : World) (U : Value) (h : Rws w (.slice a n c) l) (hU : w.ownsRow base 9 1 U vs.length (strC vs)) (h4 : base ≤ w.heap.size) => twith_any (.slice a n c) U l p vs base w h hU ol (by omega) (fun r hr => Nat.le_trans (hv r hr) (by decide)) h3 h4
  have KW0 := Lib.hid kw
  clear hV hv hp hs hpl hvl km hW hg hb r0 ku kb hmem hus hul kw
  have e1 : ∀ args w, (callFunc 40 args).run Tryz.prog w = .ok (.enter 40 args) w := enters_of Tryz.func40 (by kernel_rfl) rfl
  have e2 : ∀ args w, (callFunc 39 args).run Tryz.prog w = .ok (.enter 39 args) w := enters_of Tryz.func39 (by kernel_rfl) rfl
  go_enter Tryz.func10, Tryz.ntmps10
  go_upto_region 1 with fail
  rw [HW.out, HG.out]
  go_upto_region 4 with (first
    | (go_at_call 12; refine (KC.out _ _ (SV.out.below B.out)).mono ?_; rintro e w1 ⟨rfl, hb1⟩; rw [HOK.out]; replace B := Lib.hid (below_step B.out hb1); replace d0 := cell_keep d0 hb1; replace d1 := cell_keep d1 hb1; replace RG := Lib.hid (row_keepB RG.out hb1); clear hb1)
    | (go_at_call 34; refine (KM.out _).mono ?_; rintro e w1 ⟨rfl, hb1⟩; rw [HON.out]; replace B := Lib.hid (below_step B.out hb1); replace d0 := cell_keep d0 hb1; replace d1 := cell_keep d1 hb1; replace RG := Lib.hid (row_keepB RG.out hb1); clear hb1)
    | (go_at_call 36; refine (KU.out _ _ (SV.out.below B.out)).mono ?_; rintro e w1 ⟨U, rfl, hown, hb1⟩; have HU := Lib.hid (row_base hown B.out.size); replace B := Lib.hid (below_step B.out hb1); replace d0 := cell_keep d0 hb1; replace d1 := cell_keep d1 hb1; replace RG := Lib.hid (row_keepB RG.out hb1); clear hb1 hown))
  obtain ⟨au, cu, rfl, hsu⟩ := stsO HU.out
  obtain ⟨m, hm⟩ : ∃ m, us.length = m := ⟨_, rfl⟩
  have HM := Lib.hid hm
  rw [hm] at hsu
  have kb2 := fun w h => KB.out w au m cu h (by have := HUL2.out; omega)
  have SU := Lib.hid hsu; have KB2 := Lib.hid kb2
  rw [hm] at HU ⊢
  clear hm hsu kb2
  cases fd with
  | true =>
    have HE := Lib.hid (show addE l (p, v) = (l, 3) from addE_has HL.out HON.out HFD.out)
    obtain rfl : E = (l, 3) := by rw [← HEH.out]; exact HE.out
    go_wp2_with (first
      | (go_at_call 37; refine (KB2.out _ SU.out).mono ?_; rintro e w1 ⟨⟨i, rfl, hi, hI⟩, hb1⟩; replace B := Lib.hid (below_step B.out hb1); clear hb1 hI)
      | (go_at_call 35; refine (KO.out _ _ (SV.out.below B.out)).mono ?_; rintro e w2 ⟨v2, rfl, ho, hb2⟩; have HO := Lib.hid ho.rws; replace B := Lib.hid (below_step B.out hb2); clear hb2 ho))
    go_ret2
    exact ⟨_, rfl, HO.out, B.out⟩
  | false =>
    go_upto_region 7 with (go_at_call 37; refine (KB2.out _ SU.out).mono ?_; rintro e W5 ⟨⟨i, rfl, hi, hI⟩, hb1⟩; have HFI := Lib.hid hI; replace B := Lib.hid (below_step B.out hb1); replace HU := Lib.hid (ownsRow_belowB HU.out hb1); replace RG := Lib.hid (row_keepB RG.out hb1); clear hb1 hI)
    obtain ⟨R, hR⟩ : ∃ R, rwWith l p (us.take i ++ v :: us.drop i) = R := ⟨_, rfl⟩
    have hcut : insV us v = (us.take i ++ v :: us.drop i) := ins_cut (by have := HM.out; omega) HFI.out
    have hRE : R = rwOf (withN (rwAll l) (p, v)) := by
      rw [← hR, ← hcut, ← HUS.out]; exact add_is HL.out HON.out HFD.out
    have HE := Lib.hid (show addE l (p, v) = (R, 0) by rw [hRE]; exact addE_yes HL.out HON.out HFD.out)
    obtain rfl : E = (R, 0) := by rw [← HEH.out]; exact HE.out
    obtain ⟨U, hUU⟩ : ∃ U, Value.slice au m cu = U := ⟨_, rfl⟩
    rw [hUU] at HU ⊢
    rw [← HM.out] at HU
    obtain ⟨N0, hN0⟩ : ∃ N, w.heap.size = N := ⟨_, rfl⟩
    have HN0 := Lib.hid hN0
    have HNS := Lib.hid (show N0 ≤ W5.heap.size by rw [← hN0]; exact B.out.size)
    have KW := Lib.hid (fun w U h hU h4 => KW0.out (us.take i ++ v :: us.drop i) N0 (by have := HUL2.out; have := HM.out; rw [ins_len us v (by omega)]; omega) w U h hU h4)
    rw [hR] at KW
    have HI := Lib.hid (show i ≤ us.length by have := HM.out; omega)
    rw [hN0] at HU B
    clear hR hcut hRE hUU hN0 hi
    refine rol_run (by kernel_rfl) [[], [], [1], [], [], [], [5], [5, 6], [3, 4, 5, 6, 7], [0, 1, 2, 3, 4, 5, 6, 7, 8], [0, 1, 2, 3, 4, 5, 6, 7, 8, 9], [0, 1, 2, 3, 4, 5, 6, 7, 8, 9, 10]] (by kernel_rfl) [33, 34, 35, 36, 37, 38, 39, 40, 41, 42, 4, 5] [[], [], [1, 12], [14], [], [], [5, 12], [6], [3, 4, 7, 13], [0, 2, 8], [9], []] [0, 0, 0, 0, 0, 0, 0, 2, 1, 1, 1, 0, 3, 1, 0] [0, 0, 0, 0, 0, 0, 0, 0, 1, 0, 0, 0] [1000, 1000, 1000, 1000, 1000, 1000, 1000, 8, 9, 1000, 1000, 1000, 1000, 8, 1000] [.val 33 (.slice a n c), .val 34 (.pointer (some ⟨g, 0, none⟩)), .val 35 (.string (mkB p)), .val 36 (U), .val 37 (.int .i64 (i : Int)), .val 38 (.pointer (some ⟨g, 1, none⟩)), .val 39 (.string (mkB v)), .mem 40 (blkG 9 #[.string (mkB v)] 1), .mem 41 (rowG N0 9 1 (us.take i ++ v :: us.drop i).length (strC (us.take i ++ v :: us.drop i))), .mems 42 (rwsY N0 N0 R), .mems 4 (rwsY N0 N0 R), .val 5 (.int .i64 0), .box (g) (.cells #[.string (mkB p), .string (mkB v)] 24), .mem 6 (rowX U N0 9 1 us.length (strC us)), .val 6 U] (by kernel_rfl) ?_ (N0) (W5.heap.size) rfl B.out rfl (fun k => if k = g then 3 else 1) ?_ ?_ ?_
    · intro j hj
      have hj3 : j < 15 := hj
      have hj2 : j = 0 ∨ j = 1 ∨ j = 2 ∨ j = 3 ∨ j = 4 ∨ j = 5 ∨ j = 6 ∨ j = 7 ∨ j = 8 ∨ j = 9 ∨ j = 10 ∨ j = 11 ∨ j = 12 ∨ j = 13 ∨ j = 14 := by omega
      clear hj hj3
      rcases hj2 with rfl | rfl | rfl | rfl | rfl | rfl | rfl | rfl | rfl | rfl | rfl | rfl | rfl | rfl | rfl
      · exact trivial
      · exact trivial
      · exact trivial
      · exact trivial
      · exact trivial
      · exact trivial
      · exact trivial
      · exact blkG_near
      · exact rowG_near
      · exact rwsY_near
      · exact rwsY_near
      · exact trivial
      · exact trivial
      · exact rowX_near
      · exact trivial
    · intro j hj0 hj
      have hj1 : 12 ≤ j := hj0
      have hj3 : j < 15 := hj
      have hj2 : j = 12 ∨ j = 13 ∨ j = 14 := by omega
      clear hj0 hj hj1 hj3
      rcases hj2 with rfl | rfl | rfl
      · exact ⟨RG.out, if_pos rfl⟩
      · exact ⟨_, _, rfl, fun b q => ⟨(own_lt HU.out q).2, if_neg (fun e => own_nebox HU.out RG.out (by decide) (by rw [← e]; exact q))⟩, HU.out, rfl⟩
      · exact rfl
    · intro i hi a wx who hG hF
      have hz : a.tmps.size = 43 := hG.size
      have hi3 : i < 12 := hi
      have hi2 : i = 0 ∨ i = 1 ∨ i = 2 ∨ i = 3 ∨ i = 4 ∨ i = 5 ∨ i = 6 ∨ i = 7 ∨ i = 8 ∨ i = 9 ∨ i = 10 ∨ i = 11 := by omega
      clear hi hi3
      rcases hi2 with rfl | rfl | rfl | rfl | rfl | rfl | rfl | rfl | rfl | rfl | rfl | rfl
      · exact rol_val rfl rfl rfl (by rw [hz]; decide) (ex_move (Or.inl rfl) (eval_slot ((hG.slots 0 (by decide)).trans rfl))) hG.below
      · exact rol_val rfl rfl rfl (by rw [hz]; decide) (ex_field rfl (eval_slot ((hG.slots 3 (by decide)).trans rfl)) (by go_simp)) hG.below
      · exact rol_val rfl rfl rfl (by rw [hz]; decide) (ex_load rfl (eval_slot (hF 1 (by decide))) (ld_strT (row2 (hF 12 (by decide)).1).1)) hG.below
      · exact rol_val rfl rfl rfl (by rw [hz]; decide) (ex_move (Or.inl rfl) (eval_slot (hF 14 (by decide)))) hG.below
      · exact rol_val rfl rfl rfl (by rw [hz]; decide) (ex_move (Or.inl rfl) (eval_slot ((hG.slots 7 (by decide)).trans rfl))) hG.below
      · exact rol_val rfl rfl rfl (by rw [hz]; decide) (ex_field rfl (eval_slot ((hG.slots 3 (by decide)).trans rfl)) (by go_simp)) hG.below
      · exact rol_val rfl rfl rfl (by rw [hz]; decide) (ex_load rfl (eval_slot (hF 5 (by decide))) (ld_strT (row2 (hF 12 (by decide)).1).2.1)) hG.below
      · exact rol_newO rfl rfl rfl (by rw [hz]; decide) (x := .cells #[.string (mkB v)] 9) (v := .slice (some ⟨wx.heap.size, 0, none⟩) 1 1) (ex_slice rfl (vs := #[(0, .string (mkB v))]) (by simp only [List.map_toArray, List.map_cons, List.map_nil, eval_slot (hF 6 (by decide))]) (by go_simp)) ⟨_, rfl, rfl, heap_alloc_new _ _⟩ hG.below (Nat.le_trans HNS.out hG.new)
      · obtain ⟨u7, ob7, hv7, hob7, b7, rfl, rfl, hh7⟩ := hF 7 (by decide)
        obtain ⟨_, obx, -, hobx, hrx, rfl⟩ := hF 13 (by decide)
        refine rol_callg rfl rfl rfl (by rw [hz]; decide) (ex_call rfl (by simp [eval_slot (hF 3 (by decide)), eval_slot (hF 4 (by decide)), eval_slot hv7]) e1) (tins_any U us i v N0 b7 wx hrx HI.out hh7 (fun q => by have h1 := (hobx b7 q).2; have h2 := (hob7 b7 rfl).2; rw [h1] at h2; cases h2) HUL.out (Nat.le_trans HNS.out hG.new)) ?_ hobx hG.below (Nat.le_trans HNS.out hG.new) (fun b q => (own_lt hrx q).1)
        rintro e w1 ⟨v', rfl, hown, hgr, hor⟩
        exact ⟨v', _, rfl, hgr, hor, hown, rfl⟩
      · obtain ⟨ui, obi, hvi, hobi, hri, rfl⟩ := hF 8 (by decide)
        refine rol_callo rfl rfl rfl (by rw [hz]; decide) (ex_call rfl (by simp [eval_slot (hF 0 (by decide)), eval_slot (hF 2 (by decide)), eval_slot hvi]) e2) (KW.out _ _ (SV.out.below (by rw [HN0.out]; exact hG.below)) hri (Nat.le_trans HNS.out hG.new)) ?_ hG.below (Nat.le_trans HNS.out hG.new)
        rintro e w1 ⟨v', ys, rfl, hown, hI, hbk, hb1⟩
        refine ⟨v', fun b => v'.ownBlock = some b ∨ ∃ j, j < R.length ∧ (ys.getD j undef).ownBlock = some b, rfl, hb1, ?_, ys, row_base hown (Nat.le_trans HNS.out hG.new), hI, fun b q => .inl q, fun j hj b q => .inr ⟨j, hj, q⟩⟩
        rintro b (q | ⟨j, hj, q⟩)
        · exact ⟨(hown.lt b q).2, .inl (hown.lt b q).1⟩
        · rcases hbk j hj b q with h5 | h5
          · exact ⟨((hI.2 j hj).lt b q).2, .inl h5⟩
          · exact ⟨((hI.2 j hj).lt b q).2, .inr (hobi b h5)⟩
      · exact rol_moves rfl rfl rfl (by rw [hz]; decide) (Or.inr rfl) (hF 9 (by decide)) hG.below
      · exact rol_val rfl rfl rfl (by rw [hz]; decide) (ex_move (Or.inr rfl) rfl) hG.below
    · intro a wx who hG hF
      obtain ⟨v4, bs4, fv4, fo4, fp4⟩ := hF 10 (of_decide_eq_true (by kernel_rfl)) (of_decide_eq_true (by kernel_rfl))
      replace fv4 : a.tmps.getD 4 undef = v4 := eval_slot (s := 4) fv4
      have fv5 : a.tmps.getD 5 undef = .int .i64 0 := eval_slot (s := 5) (hF 11 (of_decide_eq_true (by kernel_rfl)) (of_decide_eq_true (by kernel_rfl)))
      have hbx := hG.below
      have hnx := hG.new
      rw [hG.frame]
      simp only [List.foldl_cons, List.foldl_nil, List.setIfInBounds_toArray, List.set_cons_zero, List.set_cons_succ]
      generalize a.tmps.getD 33 undef = u33
      generalize a.tmps.getD 34 undef = u34
      generalize a.tmps.getD 35 undef = u35
      generalize a.tmps.getD 36 undef = u36
      generalize a.tmps.getD 37 undef = u37
      generalize a.tmps.getD 38 undef = u38
      generalize a.tmps.getD 39 undef = u39
      generalize a.tmps.getD 40 undef = u40
      generalize a.tmps.getD 41 undef = u41
      generalize a.tmps.getD 42 undef = u42
      rw [fv4]
      rw [fv5]
      clear hF hG fv4 fv5
      have HRW := Lib.hid (show Rws wx v4 R from by obtain ⟨ys, q1, q2, -, -⟩ := fp4; exact rws_of q1 q2); have HBN := Lib.hid hbx
      clear fo4 fp4 hbx hnx
      go_wp2
      go_ret2
      exact ⟨_, rfl, HRW.out, by rw [HN0.out]; exact HBN.out⟩
theorem tadd_any (V : Value) (l : List Rw) (p v : List UInt8) (w : World) (hV : Rws w V l) (hl : l.length ≤ 10000) (hv : ∀ r ∈ l, r.2.length ≤ 10000) (hp : ∀ r ∈ l, r.1.length ≤ 1000000000) (hs : ∀ r ∈ l, ∀ x ∈ r.2, x.length ≤ 1000000000) (hpl : p.length ≤ 1000000000) (hvl : v.length ≤ 1000000000) :
    Calls Tryz.prog 10 #[V, .agg #[.string (mkB p), .string (mkB v)]] w fun e w' => ∃ x, e = .returned (.tuple #[x, .int .i64 (addE l (p, v)).2]) ∧ Rws w' x (addE l (p, v)).1 ∧ Below w.heap.size w w' := by
  cases h : (okR l && okN (p, v)) with
  | false => exact tadd_no V l p v w hV hl hv hp hs hpl hvl h
  | true =>
    rw [Bool.and_eq_true] at h
    exact tadd_yes V l p v w hV hl hv hp hs hpl hvl h.1 h.2

set_option maxHeartbeats 1600000 in
theorem tdrop_no (V : Value) (l : List Rw) (p v : List UInt8) (w : World) (hV : Rws w V l) (hl : l.length ≤ 10000) (hv : ∀ r ∈ l, r.2.length ≤ 10000) (hp : ∀ r ∈ l, r.1.length ≤ 1000000000) (hs : ∀ r ∈ l, ∀ x ∈ r.2, x.length ≤ 1000000000) (hpl : p.length ≤ 1000000000) (hvl : v.length ≤ 1000000000) (hno : (okR l && okN (p, v)) = false) :
    Calls Tryz.prog 11 #[V, .agg #[.string (mkB p), .string (mkB v)]] w fun e w' => ∃ x, e = .returned (.tuple #[x, .int .i64 (dropE l (p, v)).2]) ∧ Rws w' x (dropE l (p, v)).1 ∧ Below w.heap.size w w' := by
  rw [dropE_no hno]
  obtain ⟨a, c, rfl, h1, h2, -, -⟩ := hV.ex
  unfold maxLen at h2
  obtain ⟨W, g, hW, hg, r0, hb⟩ := boxT w (.string (mkB p)) (.string (mkB v)) 24
  obtain ⟨d0, d1, -, -⟩ := row2 r0
  have km := fun w => nmay_any p v w hpl hvl
  obtain ⟨n, hn⟩ : ∃ n, l.length = n := ⟨_, rfl⟩
  rw [hn] at hl h1 hV ⊢
  obtain ⟨x, hx⟩ : ∃ x, okR l = x := ⟨_, rfl⟩
  rw [hx] at hno
  have SV := Lib.hid hV; have KC := Lib.hid (fun V w h => tcheck_any V l w h (by omega) hp hs); have KO := Lib.hid (fun V w h => town_any V l w h (by omega) (fun r hr => Nat.le_trans (hv r hr) (by decide))); have KM := Lib.hid km; have HW := Lib.hid hW; have HG := Lib.hid hg; have B := Lib.hid hb; have HOK := Lib.hid (show (if okR l = true then (0 : Int) else 1) = if x = true then 0 else 1 by rw [hx])
  clear hV hn hv hp hs hpl hvl km hW hg hb r0 hx
  cases x with
  | false =>
    clear hno
    go_enter Tryz.func11, Tryz.ntmps11
    go_upto_region 1 with fail
    rw [HW.out, HG.out]
    go_wp2_with (first
      | (go_at_call 12; refine (KC.out _ _ (SV.out.below B.out)).mono ?_; rintro e w1 ⟨rfl, hb1⟩; rw [HOK.out]; replace B := Lib.hid (below_step B.out hb1); replace d0 := cell_keep d0 hb1; replace d1 := cell_keep d1 hb1; clear hb1)
      | (go_at_call 35; refine (KO.out _ _ (SV.out.below B.out)).mono ?_; rintro e w2 ⟨v2, rfl, ho, hb2⟩; have HO := Lib.hid ho.rws; replace B := Lib.hid (below_step B.out hb2); clear hb2 ho))
    go_ret2
    exact ⟨_, rfl, HO.out, B.out⟩
  | true =>
    rw [Bool.true_and] at hno
    have HNO := Lib.hid hno; clear hno
    go_enter Tryz.func11, Tryz.ntmps11
    go_upto_region 1 with fail
    rw [HW.out, HG.out]
    go_wp2_with (first
      | (go_at_call 12; refine (KC.out _ _ (SV.out.below B.out)).mono ?_; rintro e w1 ⟨rfl, hb1⟩; rw [HOK.out]; replace B := Lib.hid (below_step B.out hb1); replace d0 := cell_keep d0 hb1; replace d1 := cell_keep d1 hb1; clear hb1)
      | (go_at_call 34; refine (KM.out _).mono ?_; rintro e w1 ⟨rfl, hb1⟩; rw [HNO.out]; replace B := Lib.hid (below_step B.out hb1); replace d0 := cell_keep d0 hb1; replace d1 := cell_keep d1 hb1; clear hb1)
      | (go_at_call 35; refine (KO.out _ _ (SV.out.below B.out)).mono ?_; rintro e w2 ⟨v2, rfl, ho, hb2⟩; have HO := Lib.hid ho.rws; replace B := Lib.hid (below_step B.out hb2); clear hb2 ho))
    go_ret2
    exact ⟨_, rfl, HO.out, B.out⟩

set_option maxHeartbeats 3200000 in
theorem tdrop_yes (V : Value) (l : List Rw) (p v : List UInt8) (w : World) (hV : Rws w V l) (hl : l.length ≤ 10000) (hv : ∀ r ∈ l, r.2.length ≤ 10000) (hp : ∀ r ∈ l, r.1.length ≤ 1000000000) (hs : ∀ r ∈ l, ∀ x ∈ r.2, x.length ≤ 1000000000) (hpl : p.length ≤ 1000000000) (hvl : v.length ≤ 1000000000) (ol : okR l = true) (on : okN (p, v) = true) :
    Calls Tryz.prog 11 #[V, .agg #[.string (mkB p), .string (mkB v)]] w fun e w' => ∃ x, e = .returned (.tuple #[x, .int .i64 (dropE l (p, v)).2]) ∧ Rws w' x (dropE l (p, v)).1 ∧ Below w.heap.size w w' := by
  obtain ⟨E, hE⟩ : ∃ E, dropE l (p, v) = E := ⟨_, rfl⟩
  rw [hE]
  have HEH := Lib.hid hE; clear hE
  obtain ⟨a, c, rfl, h1, h2, -, -⟩ := hV.ex
  unfold maxLen at h2
  obtain ⟨W, g, hW, hg, r0, hb⟩ := boxT w (.string (mkB p)) (.string (mkB v)) 24
  obtain ⟨d0, d1, -, -⟩ := row2 r0
  have km := fun w => nmay_any p v w hpl hvl
  obtain ⟨n, hn⟩ : ∃ n, l.length = n := ⟨_, rfl⟩
  rw [hn] at hl h1 hV ⊢
  obtain ⟨us, hus⟩ : ∃ us, rwVer l p = us := ⟨_, rfl⟩
  have hul : us.length ≤ 10000 := by rw [← hus]; exact ver_len_le ol p hv
  have ku := fun V w h => vers16_any V l p w h ol (by omega) (fun r hr => Nat.le_trans (hv r hr) (by decide))
  have kb := fun w a n c h hn => vsearch_any a n c us v w h (by rw [← hus]; exact ver_ok ol p) (by rw [← hus]; exact ver_small hs) (by rw [← hus]; exact ver_pair ol p) hvl (okN_parts on).2 hn
  have hmem : decide (v ∈ us) = hasN (rwAll l) (p, v) := by rw [← hus]; exact has_ver
  rw [hus] at ku
  obtain ⟨fd, hfd⟩ : ∃ b, hasN (rwAll l) (p, v) = b := ⟨_, rfl⟩
  rw [hfd] at hmem
  rw [hmem] at kb
  have SV := Lib.hid hV; have KC := Lib.hid (fun V w h => tcheck_any V l w h (by omega) hp hs); have KO := Lib.hid (fun V w h => town_any V l w h (by omega) (fun r hr => Nat.le_trans (hv r hr) (by decide))); have KM := Lib.hid km; have KU := Lib.hid ku; have KB := Lib.hid kb; have HW := Lib.hid hW; have HG := Lib.hid hg; have B := Lib.hid hb; have RG := Lib.hid r0; have HOK := Lib.hid (show (if okR l = true then (0 : Int) else 1) = 0 by rw [ol]; rfl); have HON := Lib.hid on; have HUS := Lib.hid hus; have HUL := Lib.hid (show us.length ≤ 1000000 by omega); have HL := Lib.hid ol; have HFD := Lib.hid hfd; have HMEM := Lib.hid hmem; have HUL2 := Lib.hid hul
  have kw := fun (vs : List (List UInt8)) (base : Nat) (h3 : vs.length ≤ 1000000) (w : World) (U : Value) (h : Rws w (.slice a n c) l) (hU : w.ownsRow base 9 1 U vs.length (strC vs)) (h4 : base ≤ w.heap.size) => twith_any (.slice a n c) U l p vs base w h hU ol (by omega) (fun r hr => Nat.le_trans (hv r hr) (by decide)) h3 h4
  have KW0 := Lib.hid kw
  clear hV hv hp hs hpl hvl km hW hg hb r0 ku kb hmem hus hul kw
  have e1 : ∀ args w, (callFunc 41 args).run Tryz.prog w = .ok (.enter 41 args) w := enters_of Tryz.func41 (by kernel_rfl) rfl
  have e2 : ∀ args w, (callFunc 39 args).run Tryz.prog w = .ok (.enter 39 args) w := enters_of Tryz.func39 (by kernel_rfl) rfl
  go_enter Tryz.func11, Tryz.ntmps11
  go_upto_region 1 with fail
  rw [HW.out, HG.out]
  go_upto_region 4 with (first
    | (go_at_call 12; refine (KC.out _ _ (SV.out.below B.out)).mono ?_; rintro e w1 ⟨rfl, hb1⟩; rw [HOK.out]; replace B := Lib.hid (below_step B.out hb1); replace d0 := cell_keep d0 hb1; replace d1 := cell_keep d1 hb1; replace RG := Lib.hid (row_keepB RG.out hb1); clear hb1)
    | (go_at_call 34; refine (KM.out _).mono ?_; rintro e w1 ⟨rfl, hb1⟩; rw [HON.out]; replace B := Lib.hid (below_step B.out hb1); replace d0 := cell_keep d0 hb1; replace d1 := cell_keep d1 hb1; replace RG := Lib.hid (row_keepB RG.out hb1); clear hb1)
    | (go_at_call 36; refine (KU.out _ _ (SV.out.below B.out)).mono ?_; rintro e w1 ⟨U, rfl, hown, hb1⟩; have HU := Lib.hid (row_base hown B.out.size); replace B := Lib.hid (below_step B.out hb1); replace d0 := cell_keep d0 hb1; replace d1 := cell_keep d1 hb1; replace RG := Lib.hid (row_keepB RG.out hb1); clear hb1 hown))
  obtain ⟨au, cu, rfl, hsu⟩ := stsO HU.out
  obtain ⟨m, hm⟩ : ∃ m, us.length = m := ⟨_, rfl⟩
  have HM := Lib.hid hm
  rw [hm] at hsu
  have kb2 := fun w h => KB.out w au m cu h (by have := HUL2.out; omega)
  have SU := Lib.hid hsu; have KB2 := Lib.hid kb2
  rw [hm] at HU ⊢
  clear hm hsu kb2
  cases fd with
  | false =>
    have HE := Lib.hid (show dropE l (p, v) = (l, 2) from dropE_none HL.out HON.out HFD.out)
    obtain rfl : E = (l, 2) := by rw [← HEH.out]; exact HE.out
    go_wp2_with (first
      | (go_at_call 37; refine (KB2.out _ SU.out).mono ?_; rintro e w1 ⟨⟨i, rfl, hi, hI⟩, hb1⟩; replace B := Lib.hid (below_step B.out hb1); clear hb1 hI)
      | (go_at_call 35; refine (KO.out _ _ (SV.out.below B.out)).mono ?_; rintro e w2 ⟨v2, rfl, ho, hb2⟩; have HO := Lib.hid ho.rws; replace B := Lib.hid (below_step B.out hb2); clear hb2 ho))
    go_ret2
    exact ⟨_, rfl, HO.out, B.out⟩
  | true =>
    go_upto_region 7 with (go_at_call 37; refine (KB2.out _ SU.out).mono ?_; rintro e W5 ⟨⟨i, rfl, hi, hI⟩, hb1⟩; have HFI := Lib.hid hI; replace B := Lib.hid (below_step B.out hb1); replace HU := Lib.hid (ownsRow_belowB HU.out hb1); replace RG := Lib.hid (row_keepB RG.out hb1); clear hb1 hI)
    obtain ⟨R, hR⟩ : ∃ R, rwWith l p (us.take i ++ us.drop (i + 1)) = R := ⟨_, rfl⟩
    have hcut : delV us v = (us.take i ++ us.drop (i + 1)) := del_cut (by have := HM.out; omega) HFI.out
    have hRE : R = rwOf (minusN (rwAll l) [(p, v)]) := by
      rw [← hR, ← hcut, ← HUS.out]; exact drop_is HL.out HON.out HFD.out
    have HE := Lib.hid (show dropE l (p, v) = (R, 0) by rw [hRE]; exact dropE_yes HL.out HON.out HFD.out)
    obtain rfl : E = (R, 0) := by rw [← HEH.out]; exact HE.out
    obtain ⟨U, hUU⟩ : ∃ U, Value.slice au m cu = U := ⟨_, rfl⟩
    rw [hUU] at HU ⊢
    rw [← HM.out] at HU
    obtain ⟨N0, hN0⟩ : ∃ N, w.heap.size = N := ⟨_, rfl⟩
    have HN0 := Lib.hid hN0
    have HNS := Lib.hid (show N0 ≤ W5.heap.size by rw [← hN0]; exact B.out.size)
    have KW := Lib.hid (fun w U h hU h4 => KW0.out (us.take i ++ us.drop (i + 1)) N0 (by have := HUL2.out; simp; omega) w U h hU h4)
    rw [hR] at KW
    have HI := Lib.hid (show i < us.length from by
      have h5 := foundV_is (by rw [← HUS.out]; exact ver_ok HL.out p) (by rw [← HUS.out]; exact ver_pair HL.out p) (okN_parts HON.out).2 HFI.out
      rw [HMEM.out] at h5
      unfold foundV at h5
      rw [Bool.and_eq_true, decide_eq_true_iff] at h5
      exact h5.1)
    have HIB := Lib.hid (show i ≤ 1000000 by have := HUL2.out; have := HM.out; omega)
    rw [hN0] at HU B
    clear hR hcut hRE hUU hN0 hi
    refine rol_run (by kernel_rfl) [[], [], [1], [], [], [], [5], [3, 4, 5, 6], [0, 1, 2, 3, 4, 5, 6, 7], [0, 1, 2, 3, 4, 5, 6, 7, 8], [0, 1, 2, 3, 4, 5, 6, 7, 8, 9]] (by kernel_rfl) [34, 35, 36, 37, 38, 39, 40, 41, 42, 4, 5] [[], [], [1, 11], [13], [], [], [5], [3, 4, 6, 12], [0, 2, 7], [8], []] [0, 0, 0, 0, 0, 0, 0, 1, 1, 1, 0, 3, 1, 0] [0, 0, 0, 0, 0, 0, 0, 1, 0, 0, 0] [1000, 1000, 1000, 1000, 1000, 1000, 1000, 8, 1000, 1000, 1000, 1000, 7, 1000] [.val 34 (.slice a n c), .val 35 (.pointer (some ⟨g, 0, none⟩)), .val 36 (.string (mkB p)), .val 37 (U), .val 38 (.int .i64 (i : Int)), .val 39 (.int .i64 (i : Int)), .val 40 (.int .i64 ((i : Int) + 1)), .mem 41 (rowG N0 9 1 (us.take i ++ us.drop (i + 1)).length (strC (us.take i ++ us.drop (i + 1)))), .mems 42 (rwsY N0 N0 R), .mems 4 (rwsY N0 N0 R), .val 5 (.int .i64 0), .box (g) (.cells #[.string (mkB p), .string (mkB v)] 24), .mem 6 (rowX U N0 9 1 us.length (strC us)), .val 6 U] (by kernel_rfl) ?_ (N0) (W5.heap.size) rfl B.out rfl (fun k => if k = g then 3 else 1) ?_ ?_ ?_
    · intro j hj
      have hj3 : j < 14 := hj
      have hj2 : j = 0 ∨ j = 1 ∨ j = 2 ∨ j = 3 ∨ j = 4 ∨ j = 5 ∨ j = 6 ∨ j = 7 ∨ j = 8 ∨ j = 9 ∨ j = 10 ∨ j = 11 ∨ j = 12 ∨ j = 13 := by omega
      clear hj hj3
      rcases hj2 with rfl | rfl | rfl | rfl | rfl | rfl | rfl | rfl | rfl | rfl | rfl | rfl | rfl | rfl
      · exact trivial
      · exact trivial
      · exact trivial
      · exact trivial
      · exact trivial
      · exact trivial
      · exact trivial
      · exact rowG_near
      · exact rwsY_near
      · exact rwsY_near
      · exact trivial
      · exact trivial
      · exact rowX_near
      · exact trivial
    · intro j hj0 hj
      have hj1 : 11 ≤ j := hj0
      have hj3 : j < 14 := hj
      have hj2 : j = 11 ∨ j = 12 ∨ j = 13 := by omega
      clear hj0 hj hj1 hj3
      rcases hj2 with rfl | rfl | rfl
      · exact ⟨RG.out, if_pos rfl⟩
      · exact ⟨_, _, rfl, fun b q => ⟨(own_lt HU.out q).2, if_neg (fun e => own_nebox HU.out RG.out (by decide) (by rw [← e]; exact q))⟩, HU.out, rfl⟩
      · exact rfl
    · intro i hi a wx who hG hF
      have hz : a.tmps.size = 43 := hG.size
      have hi3 : i < 11 := hi
      have hi2 : i = 0 ∨ i = 1 ∨ i = 2 ∨ i = 3 ∨ i = 4 ∨ i = 5 ∨ i = 6 ∨ i = 7 ∨ i = 8 ∨ i = 9 ∨ i = 10 := by omega
      clear hi hi3
      rcases hi2 with rfl | rfl | rfl | rfl | rfl | rfl | rfl | rfl | rfl | rfl | rfl
      · exact rol_val rfl rfl rfl (by rw [hz]; decide) (ex_move (Or.inl rfl) (eval_slot ((hG.slots 0 (by decide)).trans rfl))) hG.below
      · exact rol_val rfl rfl rfl (by rw [hz]; decide) (ex_field rfl (eval_slot ((hG.slots 3 (by decide)).trans rfl)) (by go_simp)) hG.below
      · exact rol_val rfl rfl rfl (by rw [hz]; decide) (ex_load rfl (eval_slot (hF 1 (by decide))) (ld_strT (row2 (hF 11 (by decide)).1).1)) hG.below
      · exact rol_val rfl rfl rfl (by rw [hz]; decide) (ex_move (Or.inl rfl) (eval_slot (hF 13 (by decide)))) hG.below
      · exact rol_val rfl rfl rfl (by rw [hz]; decide) (ex_move (Or.inl rfl) (eval_slot ((hG.slots 7 (by decide)).trans rfl))) hG.below
      · exact rol_val rfl rfl rfl (by rw [hz]; decide) (ex_move (Or.inl rfl) (eval_slot ((hG.slots 7 (by decide)).trans rfl))) hG.below
      · exact rol_val rfl rfl rfl (by rw [hz]; decide) (ex_bin rfl (eval_slot (hF 5 (by decide))) rfl (by go_simp) (bin_add1T HIB.out)) hG.below
      · obtain ⟨_, obx, -, hobx, hrx, rfl⟩ := hF 12 (by decide)
        refine rol_callg rfl rfl rfl (by rw [hz]; decide) (ex_call rfl (by simp [eval_slot (hF 3 (by decide)), eval_slot (hF 4 (by decide)), eval_slot (hF 6 (by decide))]) e1) (tdel_any U us i N0 wx hrx HI.out HUL.out) ?_ hobx hG.below (Nat.le_trans HNS.out hG.new) (fun b q => (own_lt hrx q).1)
        rintro e w1 ⟨v', rfl, hown, hgr, hor⟩
        exact ⟨v', _, rfl, hgr, .inl hor, hown, rfl⟩
      · obtain ⟨ui, obi, hvi, hobi, hri, rfl⟩ := hF 7 (by decide)
        refine rol_callo rfl rfl rfl (by rw [hz]; decide) (ex_call rfl (by simp [eval_slot (hF 0 (by decide)), eval_slot (hF 2 (by decide)), eval_slot hvi]) e2) (KW.out _ _ (SV.out.below (by rw [HN0.out]; exact hG.below)) hri (Nat.le_trans HNS.out hG.new)) ?_ hG.below (Nat.le_trans HNS.out hG.new)
        rintro e w1 ⟨v', ys, rfl, hown, hI, hbk, hb1⟩
        refine ⟨v', fun b => v'.ownBlock = some b ∨ ∃ j, j < R.length ∧ (ys.getD j undef).ownBlock = some b, rfl, hb1, ?_, ys, row_base hown (Nat.le_trans HNS.out hG.new), hI, fun b q => .inl q, fun j hj b q => .inr ⟨j, hj, q⟩⟩
        rintro b (q | ⟨j, hj, q⟩)
        · exact ⟨(hown.lt b q).2, .inl (hown.lt b q).1⟩
        · rcases hbk j hj b q with h5 | h5
          · exact ⟨((hI.2 j hj).lt b q).2, .inl h5⟩
          · exact ⟨((hI.2 j hj).lt b q).2, .inr (hobi b h5)⟩
      · exact rol_moves rfl rfl rfl (by rw [hz]; decide) (Or.inr rfl) (hF 8 (by decide)) hG.below
      · exact rol_val rfl rfl rfl (by rw [hz]; decide) (ex_move (Or.inr rfl) rfl) hG.below
    · intro a wx who hG hF
      obtain ⟨v4, bs4, fv4, fo4, fp4⟩ := hF 9 (of_decide_eq_true (by kernel_rfl)) (of_decide_eq_true (by kernel_rfl))
      replace fv4 : a.tmps.getD 4 undef = v4 := eval_slot (s := 4) fv4
      have fv5 : a.tmps.getD 5 undef = .int .i64 0 := eval_slot (s := 5) (hF 10 (of_decide_eq_true (by kernel_rfl)) (of_decide_eq_true (by kernel_rfl)))
      have hbx := hG.below
      have hnx := hG.new
      rw [hG.frame]
      simp only [List.foldl_cons, List.foldl_nil, List.setIfInBounds_toArray, List.set_cons_zero, List.set_cons_succ]
      generalize a.tmps.getD 34 undef = u34
      generalize a.tmps.getD 35 undef = u35
      generalize a.tmps.getD 36 undef = u36
      generalize a.tmps.getD 37 undef = u37
      generalize a.tmps.getD 38 undef = u38
      generalize a.tmps.getD 39 undef = u39
      generalize a.tmps.getD 40 undef = u40
      generalize a.tmps.getD 41 undef = u41
      generalize a.tmps.getD 42 undef = u42
      rw [fv4]
      rw [fv5]
      clear hF hG fv4 fv5
      have HRW := Lib.hid (show Rws wx v4 R from by obtain ⟨ys, q1, q2, -, -⟩ := fp4; exact rws_of q1 q2); have HBN := Lib.hid hbx
      clear fo4 fp4 hbx hnx
      go_wp2
      go_ret2
      exact ⟨_, rfl, HRW.out, by rw [HN0.out]; exact HBN.out⟩
theorem tdrop_any (V : Value) (l : List Rw) (p v : List UInt8) (w : World) (hV : Rws w V l) (hl : l.length ≤ 10000) (hv : ∀ r ∈ l, r.2.length ≤ 10000) (hp : ∀ r ∈ l, r.1.length ≤ 1000000000) (hs : ∀ r ∈ l, ∀ x ∈ r.2, x.length ≤ 1000000000) (hpl : p.length ≤ 1000000000) (hvl : v.length ≤ 1000000000) :
    Calls Tryz.prog 11 #[V, .agg #[.string (mkB p), .string (mkB v)]] w fun e w' => ∃ x, e = .returned (.tuple #[x, .int .i64 (dropE l (p, v)).2]) ∧ Rws w' x (dropE l (p, v)).1 ∧ Below w.heap.size w w' := by
  cases h : (okR l && okN (p, v)) with
  | false => exact tdrop_no V l p v w hV hl hv hp hs hpl hvl h
  | true =>
    rw [Bool.and_eq_true] at h
    exact tdrop_yes V l p v w hV hl hv hp hs hpl hvl h.1 h.2
end Go.Proofs.YtnngfcjfhhfafaaGreat
