/- Of every rows, every node (no more, and no longer, than are looked at): the best one is there, and no lower than any other one of its path; one more is the best one just if it comes behind; no condition. -/
import Derived.Test.YtnngfcjfhhfafaaGreatRows
import Derived.Test.YtnngfcjfhhfafaaGreatTalS
import Derived.Test.YtnngfcjfhhfafaaGreatNodQ
import Derived.Test.YtnngfcjfhhfafaaGreatNodI
import Derived.Test.YtnngfcjfhhfafaaGreatNodS
import Derived.Test.YtnngfcjfhhfafaaGreatNodP
import Derived.ProofKit
import Derived.OpenShut
import Derived.ShutString
import Derived.ChangeOld
namespace Go.Proofs.YtnngfcjfhhfafaaGreat.tallyBest
open Go.ChangeShapes Go.WideShapes Go.ChangeAt Go.RowKit
open Go.ChangeMaps (open_string shut_string)
set_option maxRecDepth 100000
set_option linter.unusedVariables false

theorem bin_eqlT {p q : List UInt8} {b : Bool} {w : World} (h : decide (p = q) = b) : Sem.run Tryz.prog (binOp .eql 9 (.string (mkB p)) (.string (mkB q))) w = .ok (.bool b) w := by
  have e := mk_beq p q
  rw [h] at e
  go_simp
theorem gt_zeroT {x : Int} {b : Bool} {w : World} (h : decide (0 < x) = b) : Sem.run Tryz.prog (binOp .gtr 3 (.int .i64 x) (.int .i64 0)) w = .ok (.bool b) w := by
  subst h; go_simp
theorem ge_zeroT {x : Int} {b : Bool} {w : World} (h : decide (0 ≤ x) = b) : Sem.run Tryz.prog (binOp .geq 3 (.int .i64 x) (.int .i64 0)) w = .ok (.bool b) w := by
  subst h; go_simp
theorem en_eql00 {w : World} : Sem.run Tryz.prog (binOp .eql 27 (.int .i64 0) (.int .i64 0)) w = .ok (.bool true) w := by go_simp
theorem en_eql20 {w : World} : Sem.run Tryz.prog (binOp .eql 27 (.int .i64 2) (.int .i64 0)) w = .ok (.bool false) w := by go_simp
theorem en_neq00 {w : World} : Sem.run Tryz.prog (binOp .neq 27 (.int .i64 0) (.int .i64 0)) w = .ok (.bool false) w := by go_simp
theorem en_neq20 {w : World} : Sem.run Tryz.prog (binOp .neq 27 (.int .i64 2) (.int .i64 0)) w = .ok (.bool true) w := by go_simp
theorem en_neq22 {w : World} : Sem.run Tryz.prog (binOp .neq 27 (.int .i64 2) (.int .i64 2)) w = .ok (.bool false) w := by go_simp
theorem neq_boolT {b : Bool} {w : World} : Sem.run Tryz.prog (binOp .neq 4 (.bool b) (.bool b)) w = .ok (.bool false) w := by cases b <;> go_simp
/-! ### The best one -/
theorem lastV_mem {l : List (List UInt8)} (h : l ≠ []) : lastV l ∈ l := by
  unfold lastV
  have : 0 < l.length := List.length_pos_iff.2 h
  exact gd_in (by omega)
theorem lastV_max {l : List (List UInt8)} (h : l.Pairwise fun a b => ltV a b = true) : ∀ u ∈ l, cmpT u (lastV l) ≤ 0 := fun u hu => by
  obtain ⟨t, ht, rfl⟩ := List.mem_iff_getElem.1 hu
  cases hl : ltV (lastV l) l[t]
  · have := ltV_no.1 hl
    rw [cmpT_swap] at this
    omega
  · unfold lastV at hl
    have h2 := vers_up h (t := t) (m := l.length - 1) (by omega) (by omega) hl
    rw [gd_at ht, ltV_irrefl] at h2
    cases h2
structure BestIs (l la : List Rw) (p v is : List UInt8) : Prop where
  best : bestE la p = (is, 0)
  has : hasN (rwAll la) (p, is) = true
  top : ∀ m ∈ rwAll la, m.1 = p → cmpT m.2 is ≤ 0
  ok : okV is = true
  some : rwVer l p ≠ [] → decide (is = v) = decide (0 ≤ cmpT v (lastV (rwVer l p)))
  none : rwVer l p = [] → is = v
theorem best_is {l la : List Rw} {p v : List UInt8} (hl : okR l = true) (ha : okR la = true) (hn : okN (p, v) = true) (hm : ∀ u, u ∈ rwVer la p ↔ u ∈ rwVer l p ∨ u = v) : BestIs l la p v (lastV (rwVer la p)) := by
  have hv : v ∈ rwVer la p := (hm v).2 (.inr rfl)
  have h0 : rwVer la p ≠ [] := fun e => by rw [e] at hv; cases hv
  have hp := (okN_parts hn).1
  have him := lastV_mem h0
  have hmx := lastV_max (ver_pair ha p)
  have hok := ver_ok ha p
  refine ⟨bestE_yes ha hp h0, hasN_iff.2 (ver_mem.1 him), fun m hm' e => hmx _ (ver_mem.2 (by rw [← e]; exact hm')), hok _ him, fun h1 => ?_, fun h1 => ?_⟩
  · have hw := lastV_mem h1
    have hwx := lastV_max (ver_pair hl p)
    rw [Bool.eq_iff_iff, decide_eq_true_iff, decide_eq_true_iff]
    constructor
    · intro e
      have := hmx _ ((hm _).2 (.inl hw))
      rw [e, cmpT_swap] at this
      omega
    · intro h2
      rcases (hm _).1 him with k | k
      · have h3 := hwx _ k
        have h4 := hmx _ hv
        have h5 : cmpT (lastV (rwVer l p)) v ≤ 0 := by rw [cmpT_swap]; omega
        have h6 := cmpT_trans h3 h5
        rw [cmpT_swap] at h6
        exact (cmpT_eq (hok _ hv) (hok _ him) (by omega)).symm
      · exact k
  · rcases (hm _).1 him with k | k
    · rw [h1] at k; cases k
    · exact k
theorem minus_with {s : List Nd} {n : Nd} (h : checkN s = true) (hn : okN n = true) (hm : hasN s n = false) : minusN (withN s n) [n] = s := by
  have ho := checkN_ok h
  rw [← setN_id h]
  rw [setN_id h]
  refine (setN_is ho (checkN_rises (minusN_check (withN_check h hn))) fun x => ?_).trans (setN_id h)
  rw [minusN_mem, withN_mem ho hn, List.mem_singleton]
  constructor
  · rintro ⟨k | k, k2⟩
    · exact k
    · exact absurd k k2
  · exact fun k => ⟨.inl k, fun e => by subst e; exact hasN_not.1 hm k⟩
set_option maxRecDepth 100000 in
set_option maxHeartbeats 6400000 in
theorem walk (V : Value) (l0 : List Rw) (Q : Value) (q : Nd) (w : World) (hV : Rws w V l0 ∧ fitsR l0) (hQ : Q = .agg #[.string (mkB q.1), .string (mkB q.2)] ∧ fitsN q) :
    Calls Tryz.prog 6 #[V, Q] w fun e w' => e = .returned (.bool true) ∧ Below w.heap.size w w' := by
  obtain ⟨hV, fV⟩ := hV
  obtain ⟨A, c, rfl, -⟩ := hV.ex
  have hfw := fun V w h => few16_any V l0 w h fV
  have hz := SzR.few l0
  obtain ⟨m0, hm0⟩ : ∃ r, l0.length = r := ⟨_, rfl⟩
  rw [hm0] at hV ⊢
  obtain ⟨l, hl⟩ : ∃ r, fewR l0 = r := ⟨_, rfl⟩
  rw [hl] at hfw hz
  obtain ⟨n, hn⟩ : ∃ r, l.length = r := ⟨_, rfl⟩
  have SV := Lib.hid hV; have HFW := Lib.hid hfw; have HZ := Lib.hid hz; have HN := Lib.hid hn
  clear hV fV hfw hz hm0 hl hn
  obtain ⟨rfl, fq⟩ := hQ
  obtain ⟨pq, vq⟩ := q
  simp only at fq ⊢
  have hsq := oneN_small (pq, vq)
  have hoq := fun w => one_any pq vq w fq.1 fq.2
  obtain ⟨q1, hq1⟩ : ∃ r, fewL pq = r := ⟨_, rfl⟩
  obtain ⟨q2, hq2⟩ : ∃ r, fewL vq = r := ⟨_, rfl⟩
  have hsq2 : smallN (q1, q2) := by rw [← hq1, ← hq2]; exact hsq
  rw [hq1, hq2] at hoq
  obtain ⟨W, gq, hW, hg, r1, hb⟩ := boxT w (.string (mkB pq)) (.string (mkB vq)) 24
  have HSQ := Lib.hid hsq2; have HOQ := Lib.hid hoq; have HLQ := Lib.hid (show w.heap.size ≤ gq by omega); have HW := Lib.hid hW; have HG := Lib.hid hg; have RQ := Lib.hid r1; have BB := Lib.hid hb
  clear hsq hsq2 hoq hq1 hq2 hW hg r1 hb fq
  have e1 : ∀ args w, (callFunc 8 args).run Tryz.prog w = .ok (.enter 8 args) w := enters_of Tryz.func8 (by kernel_rfl) rfl
  have e2 : ∀ args w, (callFunc 9 args).run Tryz.prog w = .ok (.enter 9 args) w := enters_of Tryz.func9 (by kernel_rfl) rfl
  have e3 : ∀ args w, (callFunc 32 args).run Tryz.prog w = .ok (.enter 32 args) w := enters_of Tryz.func32 (by kernel_rfl) rfl
  go_enter Tryz.func6, Tryz.ntmps6
  go_upto_region 1 with fail
  rw [HW.out, HG.out]
  refine rol_run (by kernel_rfl) [[], [0], [], [0, 1, 2], [0, 1, 2, 3], [0, 1, 2, 3, 4]] (by kernel_rfl) [18, 19, 20, 21, 0] [[7], [0], [6], [2], [1], [3, 6]] [0, 1, 0, 0, 1, 4, 4, 0] [0, 0, 0, 0, 0, 4] [1000, 1000, 1000, 1000, 1000, 1000, 5, 4] [.val 18 (.slice A m0 c), .mems 19 (rwsG W.heap.size l), .val 20 (.agg #[.string (mkB pq), .string (mkB vq)]), .val 21 (.agg #[.string (mkB q1), .string (mkB q2)]), .mems 0 (rwsG W.heap.size l), .box (gq) (.cells #[.string (mkB q1), .string (mkB q2)] 24), .box (gq) (.cells #[.string (mkB pq), .string (mkB vq)] 24), .val 0 (.slice A m0 c)] (by kernel_rfl) ?_ (w.heap.size) (W.heap.size) rfl BB.out rfl (fun k => if k = gq then 4 else 6) ?_ ?_ ?_
  · intro j hj
    have hj3 : j < 8 := hj
    have hj2 : j = 0 ∨ j = 1 ∨ j = 2 ∨ j = 3 ∨ j = 4 ∨ j = 5 ∨ j = 6 ∨ j = 7 := by omega
    clear hj hj3
    rcases hj2 with rfl | rfl | rfl | rfl | rfl | rfl | rfl | rfl
    · exact trivial
    · exact rwsG_near
    · exact trivial
    · exact trivial
    · exact rwsG_near
    · exact trivial
    · exact trivial
    · exact trivial
  · intro j hj0 hj
    have hj1 : 6 ≤ j := hj0
    have hj3 : j < 8 := hj
    have hj2 : j = 6 ∨ j = 7 := by omega
    clear hj0 hj hj1 hj3
    rcases hj2 with rfl | rfl
    · exact ⟨RQ.out, if_pos rfl⟩
    · exact rfl
  · intro i hi a wx who hG hF
    have hz : a.tmps.size = 168 := hG.size
    have hi3 : i < 6 := hi
    have hi2 : i = 0 ∨ i = 1 ∨ i = 2 ∨ i = 3 ∨ i = 4 ∨ i = 5 := by omega
    clear hi hi3
    rcases hi2 with rfl | rfl | rfl | rfl | rfl | rfl
    · exact rol_val rfl rfl rfl (by rw [hz]; decide) (ex_move (Or.inl rfl) (eval_slot (hF 7 (by decide)))) hG.below
    · refine rol_calls rfl rfl rfl (by rw [hz]; decide) (ex_call rfl (by simp [eval_slot (hF 0 (by decide))]) e1) (HFW.out _ wx (SV.out.below hG.below)) ?_ hG.below (Nat.le_trans BB.out.size hG.new)
      rintro e w1 ⟨u, rfl, hso, hb1⟩
      obtain ⟨bs, hbs, hg⟩ := hso.toG hG.new
      exact ⟨u, rfl, hb1, .inr (.inr ⟨_, bs, rfl, hbs, hg⟩)⟩
    · exact rol_val rfl rfl rfl (by rw [hz]; decide) (ex_load rfl (eval_slot ((hG.slots 3 (by decide)).trans rfl)) (ld_node (row2 (hF 6 (by decide)).1).1 (row2 (hF 6 (by decide)).1).2.1)) hG.below
    · refine rol_calls rfl rfl rfl (by rw [hz]; decide) (ex_call rfl (by simp [eval_slot (hF 2 (by decide))]) e2) (HOQ.out wx) ?_ hG.below (Nat.le_trans BB.out.size hG.new)
      rintro e w1 ⟨rfl, hb1⟩
      exact ⟨_, rfl, hb1, .inl rfl⟩
    · exact rol_moves rfl rfl rfl (by rw [hz]; decide) (Or.inr rfl) (hF 1 (by decide)) hG.below
    · exact rol_box_ndT rfl rfl rfl rfl (eval_slot ((hG.slots 3 (by decide)).trans rfl)) (eval_slot (hF 3 (by decide))) (hF 6 (by decide)) hG.below HLQ.out
  · intro a wx who hG hF
    obtain ⟨v0, bs0, fv0, fo0, fp0⟩ := hF 4 (of_decide_eq_true (by kernel_rfl)) (of_decide_eq_true (by kernel_rfl))
    replace fv0 : a.tmps.getD 0 undef = v0 := eval_slot (s := 0) fv0
    have hbq := hF 5 (of_decide_eq_true (by kernel_rfl)) (of_decide_eq_true (by kernel_rfl))
    have hbx := hG.below
    have hnx := hG.new
    rw [hG.frame]
    simp only [List.foldl_cons, List.foldl_nil, List.setIfInBounds_toArray, List.set_cons_zero, List.set_cons_succ]
    generalize a.tmps.getD 18 undef = u18
    generalize a.tmps.getD 19 undef = u19
    generalize a.tmps.getD 20 undef = u20
    generalize a.tmps.getD 21 undef = u21
    rw [fv0]
    clear hF hG fv0
    obtain ⟨aL, cL, rfl, hd⟩ := fp0.own.slice HN.out
    obtain ⟨qx0, qx1, -, -⟩ := row2 hbq.1
    have SL := Lib.hid hd
    replace BB := Lib.hid hbx
    clear fo0 fp0 hbq hd hbx hnx SV RQ HFW HOQ HW HG HLQ e1 e2
    have kch := fun V w h => tcheck_any V l w h (Nat.le_trans HZ.out.len (by decide)) HZ.out.path HZ.out.text
    have kmn := fun w => refnmay_any q1 q2 w HSQ.out.1 HSQ.out.2
    cases ho : okR l
    · rw [ho, if_neg (by decide)] at kch
      have KCH := Lib.hid kch
      clear kch kmn ho e3
      go_wp2_with (first
          | (go_at_call 12; refine (KCH.out _ _ SL.out).mono ?_; rintro e w9 ⟨rfl, hb1⟩; replace qx0 := cell_keep qx0 hb1; replace qx1 := cell_keep qx1 hb1; replace SL := Lib.hid (SL.out.below hb1); replace BB := Lib.hid (below_step BB.out hb1); clear hb1)
          | (go_at_call 17; refine (tawake_any _).mono ?_; rintro e w9 ⟨rfl, hb1⟩; replace qx0 := cell_keep qx0 hb1; replace qx1 := cell_keep qx1 hb1; replace SL := Lib.hid (SL.out.below hb1); replace BB := Lib.hid (below_step BB.out hb1); clear hb1))
      go_ret
      exact ⟨rfl, BB.out⟩
    · rw [ho, if_pos rfl] at kch
      cases hk : okN (q1, q2)
      · rw [hk] at kmn
        have KCH := Lib.hid kch; have KMN := Lib.hid kmn
        clear kch kmn ho hk e3
        go_wp2_with (first
            | (go_at_call 12; refine (KCH.out _ _ SL.out).mono ?_; rintro e w9 ⟨rfl, hb1⟩; replace qx0 := cell_keep qx0 hb1; replace qx1 := cell_keep qx1 hb1; replace SL := Lib.hid (SL.out.below hb1); replace BB := Lib.hid (below_step BB.out hb1); clear hb1)
            | (go_at_call 16; refine (KMN.out _).mono ?_; rintro e w9 ⟨rfl, hb1⟩; replace qx0 := cell_keep qx0 hb1; replace qx1 := cell_keep qx1 hb1; replace SL := Lib.hid (SL.out.below hb1); replace BB := Lib.hid (below_step BB.out hb1); clear hb1)
            | (go_at_call 17; refine (tawake_any _).mono ?_; rintro e w9 ⟨rfl, hb1⟩; replace qx0 := cell_keep qx0 hb1; replace qx1 := cell_keep qx1 hb1; replace SL := Lib.hid (SL.out.below hb1); replace BB := Lib.hid (below_step BB.out hb1); clear hb1))
        go_ret
        exact ⟨rfl, BB.out⟩
      · rw [hk] at kmn
        have KCH := Lib.hid kch; have KMN := Lib.hid kmn
        clear kch kmn
        have hon := all_okN ho
        have hsn := HZ.out.nds
        have hck := all_check ho
        have hsl : (rwAll l).length ≤ 144 := HZ.out.many
        have hpq := (okN_parts hk).1
        have hvq := (okN_parts hk).2
        have kadd := fun V w h => tadd_any V l q1 q2 w h (Nat.le_trans HZ.out.len (by decide)) (HZ.out.versK (by decide)) HZ.out.path HZ.out.text HSQ.out.1 HSQ.out.2
        have kbe := fun V w h => tbest_any V l q1 w h (Nat.le_trans HZ.out.len (by decide)) HZ.out.path HZ.out.text HSQ.out.1
        cases hh : hasN (rwAll l) (q1, q2)
        · by_cases hv0 : rwVer l q1 = []
          · have hwc := withN_check hck hk
            have hws := small_with hsn HSQ.out
            have hwl := withN_len1 (rwAll l) (q1, q2)
            rw [addE_yes ho hk hh] at kadd
            have hla := of_ok hwc
            have hv2 : ∀ u, u ∈ rwVer (rwOf (withN (rwAll l) (q1, q2))) q1 ↔ u ∈ rwVer l q1 ∨ u = q2 := fun u => by
              rw [ver_mem, all_of, withN_mem hon hk, ver_mem, Prod.mk.injEq]
              exact ⟨fun k => k.imp id fun e => e.2, fun k => k.imp id fun e => ⟨rfl, e⟩⟩
            have hbi := best_is ho hla hk hv2
            have hzl : SzR 145 (rwOf (withN (rwAll l) (q1, q2))) := SzR.of hws (by omega)
            have hdr := dropE_yes hla hk (by rw [all_of]; exact hasN_iff.2 ((withN_mem hon hk _).2 (.inr rfl)))
            rw [all_of, minus_with hck hk hh, of_all ho] at hdr
            have hza : ∀ n ∈ rwAll (rwOf (withN (rwAll l) (q1, q2))), smallN n := by rw [all_of]; exact hws
            have hca := all_check hla
            obtain ⟨la, hla2⟩ : ∃ r, rwOf (withN (rwAll l) (q1, q2)) = r := ⟨_, rfl⟩
            rw [hla2] at hbi hla hzl hza hdr hca kadd
            clear hla2
            have hzo : SzR 145 l := HZ.out.mono (by decide)
            clear hv2 hwc hws hwl
            simp only at kadd
            obtain ⟨bi, hbi2⟩ : ∃ r, lastV (rwVer la q1) = r := ⟨_, rfl⟩
            rw [hbi2] at hbi
            have kbi := fun V w h => tbest_any V la q1 w h (Nat.le_trans hzl.len (by decide)) hzl.path hzl.text HSQ.out.1
            rw [hbi.best] at kbi
            have kala := fun V w h => tall_any V la w h (Nat.le_trans hzl.len (by decide)) (hzl.versK (by decide)) hzl.path hzl.text
            rw [allE_yes hla] at kala
            have kdr := fun V w h => tdrop_any V la q1 q2 w h (Nat.le_trans hzl.len (by decide)) (hzl.versK (by decide)) hzl.path hzl.text HSQ.out.1 HSQ.out.2
            rw [hdr] at kdr
            simp only at kbi kala kdr
            have hhi := hbi.has
            have hmx := hbi.top
            have hoi := hbi.ok
            have hsi : bi.length ≤ 1000000000 := (hza _ (hasN_iff.1 hhi)).2
            have hoa := checkN_ok hca
            obtain ⟨sA, hsA⟩ : ∃ r, rwAll la = r := ⟨_, rfl⟩
            rw [hsA] at kala hhi hmx hza hoa
            obtain ⟨na, hna⟩ : ∃ r, la.length = r := ⟨_, rfl⟩
            obtain ⟨nA, hnA⟩ : ∃ r, sA.length = r := ⟨_, rfl⟩
            have hnA2 : nA ≤ 1000000 := by rw [← hnA, ← hsA]; have := hzl.many; omega
            obtain ⟨no, hno⟩ : ∃ r, l.length = r := ⟨_, rfl⟩
            have HHI := Lib.hid hhi; have HMX := Lib.hid hmx; have HZA := Lib.hid hza; have HOA := Lib.hid hoa; have HNA := Lib.hid hna; have HNSA := Lib.hid hnA; have HNO := Lib.hid hno; have HOI := Lib.hid hoi
            have hiv := hbi.none hv0
            rw [bestE_none ho hpq hv0] at kbe
            have HIV := Lib.hid (show decide (bi = q2) = !false by rw [hiv]; simp)
            obtain ⟨bw, hbw⟩ : ∃ bw : List UInt8, [] = bw := ⟨_, rfl⟩
            rw [hbw] at kbe
            clear hiv
            have kbo := kbe
            simp only at kbe kbo
            have KBO := Lib.hid kbo
            clear kbo hzo hv0 hbw
            have KADD := Lib.hid kadd; have KBE := Lib.hid kbe; have KBI := Lib.hid kbi; have KALA := Lib.hid kala; have KDR := Lib.hid kdr
            clear kadd kbe kbi kala kdr hbi hbi2 hhi hmx hza hoa hna hnA hno hoi hsA hdr hzl hla hca ho hk hh hon hsn hck hsl hpq
            go_upto_region 4 with (first
                | (go_at_call 12; refine (KCH.out _ _ SL.out).mono ?_; rintro e w9 ⟨rfl, hb1⟩; replace qx0 := cell_keep qx0 hb1; replace qx1 := cell_keep qx1 hb1; replace SL := Lib.hid (SL.out.below hb1); replace BB := Lib.hid (below_step BB.out hb1); clear hb1)
                | (go_at_call 16; refine (KMN.out _).mono ?_; rintro e w9 ⟨rfl, hb1⟩; replace qx0 := cell_keep qx0 hb1; replace qx1 := cell_keep qx1 hb1; replace SL := Lib.hid (SL.out.below hb1); replace BB := Lib.hid (below_step BB.out hb1); clear hb1))
            go_upto_region 5 with (go_at_call 27; refine (KBE.out _ _ SL.out).mono ?_; rintro e w9 ⟨rfl, hb1⟩; replace qx0 := cell_keep qx0 hb1; replace qx1 := cell_keep qx1 hb1; replace SL := Lib.hid (SL.out.below hb1); replace BB := Lib.hid (below_step BB.out hb1); clear hb1)
            go_upto_region 6 with (go_at_call 10; refine (KADD.out _ _ SL.out).mono ?_; rintro e w9 ⟨v1, rfl, hr1, hb1⟩; replace qx0 := cell_keep qx0 hb1; replace qx1 := cell_keep qx1 hb1; replace SL := Lib.hid (SL.out.below hb1); replace BB := Lib.hid (below_step BB.out hb1); obtain ⟨aA, cA, rfl, hd⟩ := hr1.slice HNA.out; have SA := Lib.hid hd; clear hr1 hd hb1 KADD)
            go_upto_region 7 with (go_at_call 27; refine (KBI.out _ _ SA.out).mono ?_; rintro e w9 ⟨rfl, hb1⟩; replace qx0 := cell_keep qx0 hb1; replace qx1 := cell_keep qx1 hb1; replace SL := Lib.hid (SL.out.below hb1); replace SA := Lib.hid (SA.out.below hb1); replace BB := Lib.hid (below_step BB.out hb1); clear hb1)
            go_upto_region 8 with (go_at_call 25; refine (KALA.out _ _ SA.out).mono ?_; rintro e w9 ⟨v1, rfl, hr1, hb1⟩; replace qx0 := cell_keep qx0 hb1; replace qx1 := cell_keep qx1 hb1; replace SL := Lib.hid (SL.out.below hb1); replace SA := Lib.hid (SA.out.below hb1); replace BB := Lib.hid (below_step BB.out hb1); obtain ⟨aS, cS, rfl, hd⟩ := ndsO hr1; rw [HNSA.out] at hd ⊢; have SS := Lib.hid hd; clear hr1 hd hb1 KALA)
            go_upto_region 10 with (go_at_call 19; refine (refnhas_any _ _ q1 bi _ SS.out).mono ?_; rintro e w9 ⟨rfl, hb1⟩; rw [HHI.out]; replace qx0 := cell_keep qx0 hb1; replace qx1 := cell_keep qx1 hb1; replace SL := Lib.hid (SL.out.below hb1); replace SA := Lib.hid (SA.out.below hb1); replace SS := Lib.hid (SS.out.below hb1); replace BB := Lib.hid (below_step BB.out hb1); clear hb1)
            obtain ⟨w7, hw7⟩ : ∃ v, v = w9 := ⟨_, rfl⟩
            subst hw7
            clear KBE KBI KCH KMN
            go_wp2
            go_loopw [13] (fun i wr => ∃ k : Nat, k ≤ nA ∧ i = .int .i64 k ∧ Hid (Below w7.heap.size w7 wr)) (fun i _ => nA - (intOf i).toNat)
            case atStart => exact ⟨0, Nat.zero_le _, rfl, Lib.hid (Below.refl _ _)⟩
            case round =>
              obtain ⟨k, hk, rfl, HB⟩ := hrel
              by_cases hlt : k < nA
              · have hkl : k < sA.length := by rw [HNSA.out]; exact hlt
                obtain ⟨bs, os, rfl, -, hc0, hc1⟩ := (SS.out.below HB.out).at k hkl
                have g0 := cell_keep qx0 HB.out
                have hm := gd_in (z := ([], [])) hkl
                have hmt := HMX.out _ hm
                have hsy := (HZA.out _ hm).2
                have hoy := (okN_parts (HOA.out _ hm)).2
                obtain ⟨y, hy⟩ : ∃ y, y = sA.getD k ([], []) := ⟨_, rfl⟩
                rw [← hy] at hc0 hc1 hmt hsy hoy
                obtain ⟨y1, y2⟩ := y
                simp only at hc0 hc1 hmt hsy hoy
                have hkb : (k : Int) < (nA : Int) := by omega
                clear hy hm
                go_upto_region 13 with fail
                by_cases hpq2 : y1 = q1
                · have hpy : decide (y1 = q1) = true := decide_eq_true hpq2
                  have hgt : decide (0 < cmpT y2 bi) = false := decide_eq_false (by have := hmt hpq2; omega)
                  refine rol_run (by kernel_rfl) [[], [], [0, 1], [0, 1, 2], [0, 1, 2, 3], [], [5], [0, 1, 2, 3, 4, 5, 6], [0, 1, 2, 3, 4, 5, 6, 7], [0, 1, 2, 3, 4, 5, 6, 7, 8], [0, 1, 2, 3, 4, 5, 6, 7, 8], [0, 1, 2, 3, 4, 5, 6, 7, 8, 9, 10], [0, 1, 2, 3, 4, 5, 6, 7, 8, 9, 10, 11], [0, 1, 2, 3, 4, 5, 6, 7, 8, 9, 10, 11, 12], [0, 1, 2, 3, 4, 5, 6, 7, 8], [0, 1, 2, 3, 4, 5, 6, 7, 8, 9, 10, 11, 12, 13, 14], [0, 1, 2, 3, 4, 5, 6, 7, 8, 9, 10, 11, 12, 13, 14, 15], [0, 1, 2, 3, 4, 5, 6, 7, 8, 9, 10, 11, 12, 13, 14, 15, 16]] (by kernel_rfl) [85, 86, 87, 88, 89, 90, 91, 92, 93, 94, 95, 96, 97, 98, 99, 100, 101, 102] [[], [], [0, 1], [2], [3], [], [5], [4, 6], [7], [8], [8], [8, 9, 10], [8, 11], [8, 12], [8], [8, 13, 14], [8, 15], [8, 16]] [0, 0, 0, 0, 0, 0, 0, 0, 0, 0, 0, 0, 0, 0, 0, 0, 0, 0] [0, 0, 0, 0, 0, 0, 0, 0, 0, 0, 0, 0, 0, 0, 0, 0, 0, 0] [1000, 1000, 1000, 1000, 1000, 1000, 1000, 1000, 1000, 1000, 1000, 1000, 1000, 1000, 1000, 1000, 1000, 1000] [.val 85 (.slice (some ⟨bs, os, none⟩) nA cS), .val 86 (.int .i64 (k : Int)), .val 87 (.pointer (some ⟨bs, os + k * 2, none⟩)), .val 88 (.pointer (some ⟨bs, os + k * 2, none⟩)), .val 89 (.string (mkB y1)), .val 90 (.pointer (some ⟨gq, 0, none⟩)), .val 91 (.string (mkB q1)), .val 92 (.bool true), .val 93 (.bool true), .val 94 (.slice (some ⟨bs, os, none⟩) nA cS), .val 95 (.int .i64 (k : Int)), .val 96 (.pointer (some ⟨bs, os + k * 2, none⟩)), .val 97 (.pointer (some ⟨bs, os + k * 2 + 1, none⟩)), .val 98 (.string (mkB y2)), .val 99 (.string (mkB bi)), .val 100 (.int .i64 (cmpT y2 bi)), .val 101 (.bool false), .val 102 (.bool false)] (by kernel_rfl) ?_ (wr.heap.size) (wr.heap.size) rfl (Below.refl _ _) rfl (fun _ => 0) ?_ ?_ ?_
                  · intro j hj
                    have hj3 : j < 18 := hj
                    have hj2 : j = 0 ∨ j = 1 ∨ j = 2 ∨ j = 3 ∨ j = 4 ∨ j = 5 ∨ j = 6 ∨ j = 7 ∨ j = 8 ∨ j = 9 ∨ j = 10 ∨ j = 11 ∨ j = 12 ∨ j = 13 ∨ j = 14 ∨ j = 15 ∨ j = 16 ∨ j = 17 := by omega
                    clear hj hj3
                    rcases hj2 with rfl | rfl | rfl | rfl | rfl | rfl | rfl | rfl | rfl | rfl | rfl | rfl | rfl | rfl | rfl | rfl | rfl | rfl
                    · exact trivial
                    · exact trivial
                    · exact trivial
                    · exact trivial
                    · exact trivial
                    · exact trivial
                    · exact trivial
                    · exact trivial
                    · exact trivial
                    · exact trivial
                    · exact trivial
                    · exact trivial
                    · exact trivial
                    · exact trivial
                    · exact trivial
                    · exact trivial
                    · exact trivial
                    · exact trivial
                  · intro j hj0 hj
                    exact absurd hj (Nat.not_lt.2 hj0)
                  · intro i hi a wx who hG hF
                    have hz : a.tmps.size = 168 := hG.size
                    have hi3 : i < 18 := hi
                    have hi2 : i = 0 ∨ i = 1 ∨ i = 2 ∨ i = 3 ∨ i = 4 ∨ i = 5 ∨ i = 6 ∨ i = 7 ∨ i = 8 ∨ i = 9 ∨ i = 10 ∨ i = 11 ∨ i = 12 ∨ i = 13 ∨ i = 14 ∨ i = 15 ∨ i = 16 ∨ i = 17 := by omega
                    clear hi hi3
                    rcases hi2 with rfl | rfl | rfl | rfl | rfl | rfl | rfl | rfl | rfl | rfl | rfl | rfl | rfl | rfl | rfl | rfl | rfl | rfl
                    · exact rol_val rfl rfl rfl (by rw [hz]; decide) (ex_move (Or.inl rfl) (eval_slot ((hG.slots 11 (by decide)).trans rfl))) hG.below
                    · exact rol_val rfl rfl rfl (by rw [hz]; decide) (ex_move (Or.inl rfl) (eval_slot ((hG.slots 13 (by decide)).trans rfl))) hG.below
                    · exact rol_val rfl rfl rfl (by rw [hz]; decide) (ex_index rfl (eval_slot (hF 0 (by decide))) (eval_slot (hF 1 (by decide))) (idx_nds hlt)) hG.below
                    · exact rol_val rfl rfl rfl (by rw [hz]; decide) (ex_field rfl (eval_slot (hF 2 (by decide))) (by go_simp)) hG.below
                    · exact rol_val rfl rfl rfl (by rw [hz]; decide) (ex_load rfl (eval_slot (hF 3 (by decide))) (ld_strT (cell_keep hc0 hG.below))) hG.below
                    · exact rol_val rfl rfl rfl (by rw [hz]; decide) (ex_field rfl (eval_slot ((hG.slots 3 (by decide)).trans rfl)) (by go_simp)) hG.below
                    · exact rol_val rfl rfl rfl (by rw [hz]; decide) (ex_load rfl (eval_slot (hF 5 (by decide))) (ld_strT (cell_keep g0 hG.below))) hG.below
                    · exact rol_val rfl rfl rfl (by rw [hz]; decide) (ex_bin rfl (eval_slot (hF 4 (by decide))) (eval_slot (hF 6 (by decide))) (by go_simp) (bin_eqlT hpy)) hG.below
                    · exact rol_val rfl rfl rfl (by rw [hz]; decide) (ex_move (Or.inl rfl) (eval_slot (hF 7 (by decide)))) hG.below
                    · exact rol_val rfl (want_yes rfl rfl (hF 8 (by decide))) rfl (by rw [hz]; decide) (ex_move (Or.inl rfl) (eval_slot ((hG.slots 11 (by decide)).trans rfl))) hG.below
                    · exact rol_val rfl (want_yes rfl rfl (hF 8 (by decide))) rfl (by rw [hz]; decide) (ex_move (Or.inl rfl) (eval_slot ((hG.slots 13 (by decide)).trans rfl))) hG.below
                    · exact rol_val rfl (want_yes rfl rfl (hF 8 (by decide))) rfl (by rw [hz]; decide) (ex_index rfl (eval_slot (hF 9 (by decide))) (eval_slot (hF 10 (by decide))) (idx_nds hlt)) hG.below
                    · exact rol_val rfl (want_yes rfl rfl (hF 8 (by decide))) rfl (by rw [hz]; decide) (ex_field rfl (eval_slot (hF 11 (by decide))) (by go_simp)) hG.below
                    · exact rol_val rfl (want_yes rfl rfl (hF 8 (by decide))) rfl (by rw [hz]; decide) (ex_load rfl (eval_slot (hF 12 (by decide))) (ld_strT (cell_keep hc1 hG.below))) hG.below
                    · exact rol_val rfl (want_yes rfl rfl (hF 8 (by decide))) rfl (by rw [hz]; decide) (ex_move (Or.inl rfl) (eval_slot ((hG.slots 9 (by decide)).trans rfl))) hG.below
                    · refine rol_calls rfl (want_yes rfl rfl (hF 8 (by decide))) rfl (by rw [hz]; decide) (ex_call rfl (by simp [eval_slot (hF 13 (by decide)), eval_slot (hF 14 (by decide))]) e3) (refvcmp_l y2 bi wx hsy hsi hoy HOI.out) ?_ hG.below hG.new
                      rintro e w1 ⟨rfl, hb1⟩
                      exact ⟨_, rfl, hb1, .inl rfl⟩
                    · exact rol_val rfl (want_yes rfl rfl (hF 8 (by decide))) rfl (by rw [hz]; decide) (ex_bin rfl (eval_slot (hF 15 (by decide))) rfl (by go_simp) (gt_zeroT hgt)) hG.below
                    · exact rol_val rfl rfl rfl (by rw [hz]; decide) (ex_pick_yes rfl (eval_slot (hF 8 (by decide))) (eval_slot (hF 16 (by decide)))) hG.below
                  · intro a wx who hG hF
                    have fv102 : a.tmps.getD 102 undef = .bool false := eval_slot (s := 102) (hF 17 (of_decide_eq_true (by kernel_rfl)) (of_decide_eq_true (by kernel_rfl)))
                    have hbx := hG.below
                    have hnx := hG.new
                    rw [hG.frame]
                    simp only [List.foldl_cons, List.foldl_nil, List.setIfInBounds_toArray, List.set_cons_zero, List.set_cons_succ]
                    generalize a.tmps.getD 85 undef = u85
                    generalize a.tmps.getD 86 undef = u86
                    generalize a.tmps.getD 87 undef = u87
                    generalize a.tmps.getD 88 undef = u88
                    generalize a.tmps.getD 89 undef = u89
                    generalize a.tmps.getD 90 undef = u90
                    generalize a.tmps.getD 91 undef = u91
                    generalize a.tmps.getD 92 undef = u92
                    generalize a.tmps.getD 93 undef = u93
                    generalize a.tmps.getD 94 undef = u94
                    generalize a.tmps.getD 95 undef = u95
                    generalize a.tmps.getD 96 undef = u96
                    generalize a.tmps.getD 97 undef = u97
                    generalize a.tmps.getD 98 undef = u98
                    generalize a.tmps.getD 99 undef = u99
                    generalize a.tmps.getD 100 undef = u100
                    generalize a.tmps.getD 101 undef = u101
                    rw [fv102]
                    clear hF hG fv102
                    replace HB := Lib.hid (below_step HB.out hbx)
                    clear hbx hnx hpy hgt hpq2 hmt hsy hoy hc0 hc1 g0
                    go_wp2
                    go_roundw
                    case rel => exact ⟨k + 1, by omega, by go_num, HB⟩
                    case measure => simp [intOf]; omega
                · have hpy : decide (y1 = q1) = false := decide_eq_false hpq2
                  refine rol_run (by kernel_rfl) [[], [], [0, 1], [0, 1, 2], [0, 1, 2, 3], [], [5], [0, 1, 2, 3, 4, 5, 6], [0, 1, 2, 3, 4, 5, 6, 7], [0, 1, 2, 3, 4, 5, 6, 7, 8], [0, 1, 2, 3, 4, 5, 6, 7, 8], [0, 1, 2, 3, 4, 5, 6, 7, 8, 9, 10], [0, 1, 2, 3, 4, 5, 6, 7, 8, 9, 10, 11], [0, 1, 2, 3, 4, 5, 6, 7, 8, 9, 10, 11, 12], [0, 1, 2, 3, 4, 5, 6, 7, 8], [0, 1, 2, 3, 4, 5, 6, 7, 8, 9, 10, 11, 12, 13, 14], [0, 1, 2, 3, 4, 5, 6, 7, 8, 9, 10, 11, 12, 13, 14, 15], [0, 1, 2, 3, 4, 5, 6, 7, 8, 9, 10, 11, 12, 13, 14, 15, 16]] (by kernel_rfl) [85, 86, 87, 88, 89, 90, 91, 92, 93, 94, 95, 96, 97, 98, 99, 100, 101, 102] [[], [], [0, 1], [2], [3], [], [5], [4, 6], [7], [8], [8], [8], [8], [8], [8], [8], [8], [8]] [0, 0, 0, 0, 0, 0, 0, 0, 0, 0, 0, 0, 0, 0, 0, 0, 0, 0] [0, 0, 0, 0, 0, 0, 0, 0, 0, 0, 0, 0, 0, 0, 0, 0, 0, 0] [1000, 1000, 1000, 1000, 1000, 1000, 1000, 1000, 1000, 1000, 1000, 1000, 1000, 1000, 1000, 1000, 1000, 1000] [.val 85 (.slice (some ⟨bs, os, none⟩) nA cS), .val 86 (.int .i64 (k : Int)), .val 87 (.pointer (some ⟨bs, os + k * 2, none⟩)), .val 88 (.pointer (some ⟨bs, os + k * 2, none⟩)), .val 89 (.string (mkB y1)), .val 90 (.pointer (some ⟨gq, 0, none⟩)), .val 91 (.string (mkB q1)), .val 92 (.bool false), .val 93 (.bool false), .val 94 undef, .val 95 undef, .val 96 undef, .val 97 undef, .val 98 undef, .val 99 undef, .val 100 undef, .val 101 undef, .val 102 (.bool false)] (by kernel_rfl) ?_ (wr.heap.size) (wr.heap.size) rfl (Below.refl _ _) rfl (fun _ => 0) ?_ ?_ ?_
                  · intro j hj
                    have hj3 : j < 18 := hj
                    have hj2 : j = 0 ∨ j = 1 ∨ j = 2 ∨ j = 3 ∨ j = 4 ∨ j = 5 ∨ j = 6 ∨ j = 7 ∨ j = 8 ∨ j = 9 ∨ j = 10 ∨ j = 11 ∨ j = 12 ∨ j = 13 ∨ j = 14 ∨ j = 15 ∨ j = 16 ∨ j = 17 := by omega
                    clear hj hj3
                    rcases hj2 with rfl | rfl | rfl | rfl | rfl | rfl | rfl | rfl | rfl | rfl | rfl | rfl | rfl | rfl | rfl | rfl | rfl | rfl
                    · exact trivial
                    · exact trivial
                    · exact trivial
                    · exact trivial
                    · exact trivial
                    · exact trivial
                    · exact trivial
                    · exact trivial
                    · exact trivial
                    · exact trivial
                    · exact trivial
                    · exact trivial
                    · exact trivial
                    · exact trivial
                    · exact trivial
                    · exact trivial
                    · exact trivial
                    · exact trivial
                  · intro j hj0 hj
                    exact absurd hj (Nat.not_lt.2 hj0)
                  · intro i hi a wx who hG hF
                    have hz : a.tmps.size = 168 := hG.size
                    have hi3 : i < 18 := hi
                    have hi2 : i = 0 ∨ i = 1 ∨ i = 2 ∨ i = 3 ∨ i = 4 ∨ i = 5 ∨ i = 6 ∨ i = 7 ∨ i = 8 ∨ i = 9 ∨ i = 10 ∨ i = 11 ∨ i = 12 ∨ i = 13 ∨ i = 14 ∨ i = 15 ∨ i = 16 ∨ i = 17 := by omega
                    clear hi hi3
                    rcases hi2 with rfl | rfl | rfl | rfl | rfl | rfl | rfl | rfl | rfl | rfl | rfl | rfl | rfl | rfl | rfl | rfl | rfl | rfl
                    · exact rol_val rfl rfl rfl (by rw [hz]; decide) (ex_move (Or.inl rfl) (eval_slot ((hG.slots 11 (by decide)).trans rfl))) hG.below
                    · exact rol_val rfl rfl rfl (by rw [hz]; decide) (ex_move (Or.inl rfl) (eval_slot ((hG.slots 13 (by decide)).trans rfl))) hG.below
                    · exact rol_val rfl rfl rfl (by rw [hz]; decide) (ex_index rfl (eval_slot (hF 0 (by decide))) (eval_slot (hF 1 (by decide))) (idx_nds hlt)) hG.below
                    · exact rol_val rfl rfl rfl (by rw [hz]; decide) (ex_field rfl (eval_slot (hF 2 (by decide))) (by go_simp)) hG.below
                    · exact rol_val rfl rfl rfl (by rw [hz]; decide) (ex_load rfl (eval_slot (hF 3 (by decide))) (ld_strT (cell_keep hc0 hG.below))) hG.below
                    · exact rol_val rfl rfl rfl (by rw [hz]; decide) (ex_field rfl (eval_slot ((hG.slots 3 (by decide)).trans rfl)) (by go_simp)) hG.below
                    · exact rol_val rfl rfl rfl (by rw [hz]; decide) (ex_load rfl (eval_slot (hF 5 (by decide))) (ld_strT (cell_keep g0 hG.below))) hG.below
                    · exact rol_val rfl rfl rfl (by rw [hz]; decide) (ex_bin rfl (eval_slot (hF 4 (by decide))) (eval_slot (hF 6 (by decide))) (by go_simp) (bin_eqlT hpy)) hG.below
                    · exact rol_val rfl rfl rfl (by rw [hz]; decide) (ex_move (Or.inl rfl) (eval_slot (hF 7 (by decide)))) hG.below
                    · exact rol_val_skip rfl (want_no rfl rfl (hF 8 (by decide)) (by decide)) rfl (by rw [hz]; decide) hG.below
                    · exact rol_val_skip rfl (want_no rfl rfl (hF 8 (by decide)) (by decide)) rfl (by rw [hz]; decide) hG.below
                    · exact rol_val_skip rfl (want_no rfl rfl (hF 8 (by decide)) (by decide)) rfl (by rw [hz]; decide) hG.below
                    · exact rol_val_skip rfl (want_no rfl rfl (hF 8 (by decide)) (by decide)) rfl (by rw [hz]; decide) hG.below
                    · exact rol_val_skip rfl (want_no rfl rfl (hF 8 (by decide)) (by decide)) rfl (by rw [hz]; decide) hG.below
                    · exact rol_val_skip rfl (want_no rfl rfl (hF 8 (by decide)) (by decide)) rfl (by rw [hz]; decide) hG.below
                    · exact rol_val_skip rfl (want_no rfl rfl (hF 8 (by decide)) (by decide)) rfl (by rw [hz]; decide) hG.below
                    · exact rol_val_skip rfl (want_no rfl rfl (hF 8 (by decide)) (by decide)) rfl (by rw [hz]; decide) hG.below
                    · exact rol_val rfl rfl rfl (by rw [hz]; decide) (ex_pick_no rfl (eval_slot (hF 8 (by decide))) rfl) hG.below
                  · intro a wx who hG hF
                    have fv102 : a.tmps.getD 102 undef = .bool false := eval_slot (s := 102) (hF 17 (of_decide_eq_true (by kernel_rfl)) (of_decide_eq_true (by kernel_rfl)))
                    have hbx := hG.below
                    have hnx := hG.new
                    rw [hG.frame]
                    simp only [List.foldl_cons, List.foldl_nil, List.setIfInBounds_toArray, List.set_cons_zero, List.set_cons_succ]
                    generalize a.tmps.getD 85 undef = u85
                    generalize a.tmps.getD 86 undef = u86
                    generalize a.tmps.getD 87 undef = u87
                    generalize a.tmps.getD 88 undef = u88
                    generalize a.tmps.getD 89 undef = u89
                    generalize a.tmps.getD 90 undef = u90
                    generalize a.tmps.getD 91 undef = u91
                    generalize a.tmps.getD 92 undef = u92
                    generalize a.tmps.getD 93 undef = u93
                    generalize a.tmps.getD 94 undef = u94
                    generalize a.tmps.getD 95 undef = u95
                    generalize a.tmps.getD 96 undef = u96
                    generalize a.tmps.getD 97 undef = u97
                    generalize a.tmps.getD 98 undef = u98
                    generalize a.tmps.getD 99 undef = u99
                    generalize a.tmps.getD 100 undef = u100
                    generalize a.tmps.getD 101 undef = u101
                    rw [fv102]
                    clear hF hG fv102
                    replace HB := Lib.hid (below_step HB.out hbx)
                    clear hbx hnx hpy hpq2 hmt hsy hoy hc0 hc1 g0
                    go_wp2
                    go_roundw
                    case rel => exact ⟨k + 1, by omega, by go_num, HB⟩
                    case measure => simp [intOf]; omega
              · have e : nA = k := by omega
                subst e
                replace qx0 := cell_keep qx0 HB.out; replace qx1 := cell_keep qx1 HB.out; replace SL := Lib.hid (SL.out.below HB.out); replace SA := Lib.hid (SA.out.below HB.out); replace SS := Lib.hid (SS.out.below HB.out); replace BB := Lib.hid (below_step BB.out HB.out)
                clear HB hlt hk SS
                obtain ⟨w9, hw9⟩ : ∃ v, v = wr := ⟨_, rfl⟩
                subst hw9
                go_upto_region 15 with fail
                refine rol_run (by kernel_rfl) [[], [0], [0, 1], [0, 1, 2], [0, 1, 2], [0, 1, 2, 4], [0, 1, 2, 3, 4, 5], [0, 1, 2], [0, 1, 2, 7], [0, 1, 2], [0, 1, 2, 7, 8, 9], [0, 1, 2, 7, 8, 9, 10], [0, 1, 2, 3, 4, 5, 6, 7, 8, 9, 10, 11], [0, 1, 2, 3, 4, 5, 6, 7, 8, 9, 10, 11, 12], [0, 1, 2, 3, 4, 5, 6, 7, 8, 9, 10, 11, 12, 13], [0, 1, 2, 3, 4, 5, 6, 7, 8, 9, 10, 11, 12, 13, 14], [0, 1, 2, 3, 4, 5, 6, 7, 8, 9, 10, 11, 12, 13, 14, 15], [0, 1, 2, 3, 4, 5, 6, 7, 8, 9, 10, 11, 12, 13, 14, 15, 16], [0, 1, 2, 3, 4, 5, 6, 7, 8, 9, 10, 11, 12, 13, 14, 15, 16, 17], [0, 1, 2, 3, 4, 5, 6, 7, 8, 9, 10, 11, 12, 13, 14, 15, 16, 17, 18], [0, 1, 2, 3, 4, 5, 6, 7, 8, 9, 10, 11, 12, 13, 14, 15, 16, 17, 18, 19], [0, 1, 2, 3, 4, 5, 6, 7, 8, 9, 10, 11, 12, 13, 14, 15, 16, 17, 18, 19, 20], [0, 1, 2, 3, 4, 5, 6, 7, 8, 9, 10, 11, 12, 13, 14, 15, 16, 17, 18, 19, 20], [0, 1, 2, 3, 4, 5, 6, 7, 8, 9, 10, 11, 12, 13, 14, 15, 16, 17, 18, 19, 20, 22], [0, 1, 2, 3, 4, 5, 6, 7, 8, 9, 10, 11, 12, 13, 14, 15, 16, 17, 18, 19, 20, 21, 22, 23], [0, 1, 2, 3, 4, 5, 6, 7, 8, 9, 10, 11, 12, 13, 14, 15, 16, 17, 18, 19, 20, 21, 22, 23, 24], [0, 1, 2, 3, 4, 5, 6, 7, 8, 9, 10, 11, 12, 13, 14, 15, 16, 17, 18, 19, 20, 21, 22, 23, 24, 25], [0, 1, 2, 3, 4, 5, 6, 7, 8, 9, 10, 11, 12, 13, 14, 15, 16, 17, 18, 19, 20, 21, 22, 23, 24, 25, 26]] (by kernel_rfl) [103, 104, 105, 106, 107, 108, 109, 110, 111, 112, 113, 114, 115, 116, 117, 118, 119, 120, 121, 122, 123, 124, 125, 126, 127, 128, 129, 130] [[], [0], [1], [2], [2], [2], [2], [2], [2], [2], [2], [2], [2], [2], [13], [14], [14, 15], [14, 16], [17], [17, 18], [17, 19], [20], [20], [20, 22], [20, 21, 23], [17, 20, 24], [14, 17, 25], [14, 26]] [0, 0, 0, 0, 0, 0, 0, 0, 0, 0, 0, 0, 0, 0, 0, 0, 0, 0, 0, 0, 0, 0, 0, 0, 0, 0, 0, 0] [0, 0, 0, 0, 0, 0, 0, 0, 0, 0, 0, 0, 0, 0, 0, 0, 0, 0, 0, 0, 0, 0, 0, 0, 0, 0, 0, 0] [1000, 1000, 1000, 1000, 1000, 1000, 1000, 1000, 1000, 1000, 1000, 1000, 1000, 1000, 1000, 1000, 1000, 1000, 1000, 1000, 1000, 1000, 1000, 1000, 1000, 1000, 1000, 1000] [.val 103 (.int .i64 2), .val 104 (.bool false), .val 105 (.bool false), .val 106 undef, .val 107 undef, .val 108 undef, .val 109 undef, .val 110 undef, .val 111 undef, .val 112 undef, .val 113 undef, .val 114 undef, .val 115 undef, .val 116 (.bool false), .val 117 (.bool false), .val 118 (.int .i64 2), .val 119 (.bool true), .val 120 (.bool true), .val 121 (.int .i64 2), .val 122 (.bool false), .val 123 (.bool false), .val 124 (.string (mkB bi)), .val 125 (.pointer (some ⟨gq, 1, none⟩)), .val 126 (.string (mkB q2)), .val 127 (.bool false), .val 128 (.bool false), .val 129 (.bool false), .val 130 (.bool false)] (by kernel_rfl) ?_ (w9.heap.size) (w9.heap.size) rfl (Below.refl _ _) rfl (fun _ => 0) ?_ ?_ ?_
                · intro j hj
                  have hj3 : j < 28 := hj
                  have hj2 : j = 0 ∨ j = 1 ∨ j = 2 ∨ j = 3 ∨ j = 4 ∨ j = 5 ∨ j = 6 ∨ j = 7 ∨ j = 8 ∨ j = 9 ∨ j = 10 ∨ j = 11 ∨ j = 12 ∨ j = 13 ∨ j = 14 ∨ j = 15 ∨ j = 16 ∨ j = 17 ∨ j = 18 ∨ j = 19 ∨ j = 20 ∨ j = 21 ∨ j = 22 ∨ j = 23 ∨ j = 24 ∨ j = 25 ∨ j = 26 ∨ j = 27 := by omega
                  clear hj hj3
                  rcases hj2 with rfl | rfl | rfl | rfl | rfl | rfl | rfl | rfl | rfl | rfl | rfl | rfl | rfl | rfl | rfl | rfl | rfl | rfl | rfl | rfl | rfl | rfl | rfl | rfl | rfl | rfl | rfl | rfl
                  · exact trivial
                  · exact trivial
                  · exact trivial
                  · exact trivial
                  · exact trivial
                  · exact trivial
                  · exact trivial
                  · exact trivial
                  · exact trivial
                  · exact trivial
                  · exact trivial
                  · exact trivial
                  · exact trivial
                  · exact trivial
                  · exact trivial
                  · exact trivial
                  · exact trivial
                  · exact trivial
                  · exact trivial
                  · exact trivial
                  · exact trivial
                  · exact trivial
                  · exact trivial
                  · exact trivial
                  · exact trivial
                  · exact trivial
                  · exact trivial
                  · exact trivial
                · intro j hj0 hj
                  exact absurd hj (Nat.not_lt.2 hj0)
                · intro i hi a wx who hG hF
                  have hz : a.tmps.size = 168 := hG.size
                  have hi3 : i < 28 := hi
                  have hi2 : i = 0 ∨ i = 1 ∨ i = 2 ∨ i = 3 ∨ i = 4 ∨ i = 5 ∨ i = 6 ∨ i = 7 ∨ i = 8 ∨ i = 9 ∨ i = 10 ∨ i = 11 ∨ i = 12 ∨ i = 13 ∨ i = 14 ∨ i = 15 ∨ i = 16 ∨ i = 17 ∨ i = 18 ∨ i = 19 ∨ i = 20 ∨ i = 21 ∨ i = 22 ∨ i = 23 ∨ i = 24 ∨ i = 25 ∨ i = 26 ∨ i = 27 := by omega
                  clear hi hi3
                  rcases hi2 with rfl | rfl | rfl | rfl | rfl | rfl | rfl | rfl | rfl | rfl | rfl | rfl | rfl | rfl | rfl | rfl | rfl | rfl | rfl | rfl | rfl | rfl | rfl | rfl | rfl | rfl | rfl | rfl
                  · exact rol_val rfl rfl rfl (by rw [hz]; decide) (ex_move (Or.inl rfl) (eval_slot ((hG.slots 6 (by decide)).trans rfl))) hG.below
                  · exact rol_val rfl rfl rfl (by rw [hz]; decide) (ex_bin rfl (eval_slot (hF 0 (by decide))) rfl (by go_simp) en_eql20) hG.below
                  · exact rol_val rfl rfl rfl (by rw [hz]; decide) (ex_move (Or.inl rfl) (eval_slot (hF 1 (by decide)))) hG.below
                  · exact rol_val_skip rfl (want_no rfl rfl (hF 2 (by decide)) (by decide)) rfl (by rw [hz]; decide) hG.below
                  · exact rol_val_skip rfl (want_no rfl rfl (hF 2 (by decide)) (by decide)) rfl (by rw [hz]; decide) hG.below
                  · exact rol_val_skip rfl (want_no rfl rfl (hF 2 (by decide)) (by decide)) rfl (by rw [hz]; decide) hG.below
                  · exact rol_val_skip rfl (want_no rfl rfl (hF 2 (by decide)) (by decide)) rfl (by rw [hz]; decide) hG.below
                  · exact rol_val_skip rfl (want_no rfl rfl (hF 2 (by decide)) (by decide)) rfl (by rw [hz]; decide) hG.below
                  · exact rol_val_skip rfl (want_no rfl rfl (hF 2 (by decide)) (by decide)) rfl (by rw [hz]; decide) hG.below
                  · exact rol_val_skip rfl (want_no rfl rfl (hF 2 (by decide)) (by decide)) rfl (by rw [hz]; decide) hG.below
                  · exact rol_val_skip rfl (want_no rfl rfl (hF 2 (by decide)) (by decide)) rfl (by rw [hz]; decide) hG.below
                  · exact rol_val_skip rfl (want_no rfl rfl (hF 2 (by decide)) (by decide)) rfl (by rw [hz]; decide) hG.below
                  · exact rol_val_skip rfl (want_no rfl rfl (hF 2 (by decide)) (by decide)) rfl (by rw [hz]; decide) hG.below
                  · exact rol_val rfl rfl rfl (by rw [hz]; decide) (ex_pick_no rfl (eval_slot (hF 2 (by decide))) rfl) hG.below
                  · exact rol_val rfl rfl rfl (by rw [hz]; decide) (ex_move (Or.inl rfl) (eval_slot (hF 13 (by decide)))) hG.below
                  · exact rol_val rfl (want_yes rfl rfl (hF 14 (by decide))) rfl (by rw [hz]; decide) (ex_move (Or.inl rfl) (eval_slot ((hG.slots 6 (by decide)).trans rfl))) hG.below
                  · exact rol_val rfl (want_yes rfl rfl (hF 14 (by decide))) rfl (by rw [hz]; decide) (ex_bin rfl (eval_slot (hF 15 (by decide))) rfl (by go_simp) en_neq20) hG.below
                  · exact rol_val rfl (want_yes rfl rfl (hF 14 (by decide))) rfl (by rw [hz]; decide) (ex_move (Or.inl rfl) (eval_slot (hF 16 (by decide)))) hG.below
                  · exact rol_val rfl (want_yes rfl rfl (hF 17 (by decide))) rfl (by rw [hz]; decide) (ex_move (Or.inl rfl) (eval_slot ((hG.slots 6 (by decide)).trans rfl))) hG.below
                  · exact rol_val rfl (want_yes rfl rfl (hF 17 (by decide))) rfl (by rw [hz]; decide) (ex_bin rfl (eval_slot (hF 18 (by decide))) rfl (by go_simp) en_neq22) hG.below
                  · exact rol_val rfl (want_yes rfl rfl (hF 17 (by decide))) rfl (by rw [hz]; decide) (ex_move (Or.inl rfl) (eval_slot (hF 19 (by decide)))) hG.below
                  · exact rol_val rfl (want_yes rfl rfl (hF 20 (by decide))) rfl (by rw [hz]; decide) (ex_move (Or.inl rfl) (eval_slot ((hG.slots 9 (by decide)).trans rfl))) hG.below
                  · exact rol_val rfl (want_yes rfl rfl (hF 20 (by decide))) rfl (by rw [hz]; decide) (ex_field rfl (eval_slot ((hG.slots 3 (by decide)).trans rfl)) (by go_simp)) hG.below
                  · exact rol_val rfl (want_yes rfl rfl (hF 20 (by decide))) rfl (by rw [hz]; decide) (ex_load rfl (eval_slot (hF 22 (by decide))) (ld_strT (cell_keep qx1 hG.below))) hG.below
                  · exact rol_val rfl (want_yes rfl rfl (hF 20 (by decide))) rfl (by rw [hz]; decide) (ex_bin rfl (eval_slot (hF 21 (by decide))) (eval_slot (hF 23 (by decide))) (by go_simp) (bin_neqs HIV.out)) hG.below
                  · exact rol_val rfl (want_yes rfl rfl (hF 17 (by decide))) rfl (by rw [hz]; decide) (ex_pick_no rfl (eval_slot (hF 20 (by decide))) (eval_slot (hF 24 (by decide)))) hG.below
                  · exact rol_val rfl (want_yes rfl rfl (hF 14 (by decide))) rfl (by rw [hz]; decide) (ex_pick_yes rfl (eval_slot (hF 17 (by decide))) (eval_slot (hF 25 (by decide)))) hG.below
                  · exact rol_val rfl rfl rfl (by rw [hz]; decide) (ex_pick_no rfl (eval_slot (hF 14 (by decide))) (eval_slot (hF 26 (by decide)))) hG.below
                · intro a wx who hG hF
                  have fv130 : a.tmps.getD 130 undef = .bool false := eval_slot (s := 130) (hF 27 (of_decide_eq_true (by kernel_rfl)) (of_decide_eq_true (by kernel_rfl)))
                  have hbx := hG.below
                  have hnx := hG.new
                  rw [hG.frame]
                  simp only [List.foldl_cons, List.foldl_nil, List.setIfInBounds_toArray, List.set_cons_zero, List.set_cons_succ]
                  generalize a.tmps.getD 103 undef = u103
                  generalize a.tmps.getD 104 undef = u104
                  generalize a.tmps.getD 105 undef = u105
                  generalize a.tmps.getD 106 undef = u106
                  generalize a.tmps.getD 107 undef = u107
                  generalize a.tmps.getD 108 undef = u108
                  generalize a.tmps.getD 109 undef = u109
                  generalize a.tmps.getD 110 undef = u110
                  generalize a.tmps.getD 111 undef = u111
                  generalize a.tmps.getD 112 undef = u112
                  generalize a.tmps.getD 113 undef = u113
                  generalize a.tmps.getD 114 undef = u114
                  generalize a.tmps.getD 115 undef = u115
                  generalize a.tmps.getD 116 undef = u116
                  generalize a.tmps.getD 117 undef = u117
                  generalize a.tmps.getD 118 undef = u118
                  generalize a.tmps.getD 119 undef = u119
                  generalize a.tmps.getD 120 undef = u120
                  generalize a.tmps.getD 121 undef = u121
                  generalize a.tmps.getD 122 undef = u122
                  generalize a.tmps.getD 123 undef = u123
                  generalize a.tmps.getD 124 undef = u124
                  generalize a.tmps.getD 125 undef = u125
                  generalize a.tmps.getD 126 undef = u126
                  generalize a.tmps.getD 127 undef = u127
                  generalize a.tmps.getD 128 undef = u128
                  generalize a.tmps.getD 129 undef = u129
                  rw [fv130]
                  clear hF hG fv130
                  replace qx0 := cell_keep qx0 hbx
                  replace qx1 := cell_keep qx1 hbx
                  replace SL := Lib.hid (SL.out.below hbx)
                  replace SA := Lib.hid (SA.out.below hbx)
                  replace BB := Lib.hid (below_step BB.out hbx)
                  clear hbx hnx
                  go_upto_region 18 with (go_at_call 11; refine (KDR.out _ _ SA.out).mono ?_; rintro e w9 ⟨v1, rfl, hr1, hb1⟩; replace qx0 := cell_keep qx0 hb1; replace qx1 := cell_keep qx1 hb1; replace SL := Lib.hid (SL.out.below hb1); replace SA := Lib.hid (SA.out.below hb1); replace BB := Lib.hid (below_step BB.out hb1); obtain ⟨aO, cO, rfl, hd⟩ := hr1.slice HNO.out; have SO := Lib.hid hd; clear hr1 hd hb1 KDR)
                  go_upto_region 19 with (go_at_call 27; refine (KBO.out _ _ SO.out).mono ?_; rintro e w9 ⟨rfl, hb1⟩; replace qx0 := cell_keep qx0 hb1; replace qx1 := cell_keep qx1 hb1; replace SL := Lib.hid (SL.out.below hb1); replace SA := Lib.hid (SA.out.below hb1); replace SO := Lib.hid (SO.out.below hb1); replace BB := Lib.hid (below_step BB.out hb1); clear hb1)
                  go_wp2_with (first
                      | (go_at_call 14; refine (tsame_any _ _ _ _ _ SO.out SL.out).mono ?_; rintro e w9 ⟨rfl, hb1⟩; rw [dec_rows]; replace qx0 := cell_keep qx0 hb1; replace qx1 := cell_keep qx1 hb1; replace SL := Lib.hid (SL.out.below hb1); replace SA := Lib.hid (SA.out.below hb1); replace SO := Lib.hid (SO.out.below hb1); replace BB := Lib.hid (below_step BB.out hb1); clear hb1)
                      | (go_at_call 17; refine (tawake_any _).mono ?_; rintro e w9 ⟨rfl, hb1⟩; replace qx0 := cell_keep qx0 hb1; replace qx1 := cell_keep qx1 hb1; replace SL := Lib.hid (SL.out.below hb1); replace SA := Lib.hid (SA.out.below hb1); replace SO := Lib.hid (SO.out.below hb1); replace BB := Lib.hid (below_step BB.out hb1); clear hb1))
                  go_ret
                  exact ⟨rfl, BB.out⟩
          · have hwc := withN_check hck hk
            have hws := small_with hsn HSQ.out
            have hwl := withN_len1 (rwAll l) (q1, q2)
            rw [addE_yes ho hk hh] at kadd
            have hla := of_ok hwc
            have hv2 : ∀ u, u ∈ rwVer (rwOf (withN (rwAll l) (q1, q2))) q1 ↔ u ∈ rwVer l q1 ∨ u = q2 := fun u => by
              rw [ver_mem, all_of, withN_mem hon hk, ver_mem, Prod.mk.injEq]
              exact ⟨fun k => k.imp id fun e => e.2, fun k => k.imp id fun e => ⟨rfl, e⟩⟩
            have hbi := best_is ho hla hk hv2
            have hzl : SzR 145 (rwOf (withN (rwAll l) (q1, q2))) := SzR.of hws (by omega)
            have hdr := dropE_yes hla hk (by rw [all_of]; exact hasN_iff.2 ((withN_mem hon hk _).2 (.inr rfl)))
            rw [all_of, minus_with hck hk hh, of_all ho] at hdr
            have hza : ∀ n ∈ rwAll (rwOf (withN (rwAll l) (q1, q2))), smallN n := by rw [all_of]; exact hws
            have hca := all_check hla
            obtain ⟨la, hla2⟩ : ∃ r, rwOf (withN (rwAll l) (q1, q2)) = r := ⟨_, rfl⟩
            rw [hla2] at hbi hla hzl hza hdr hca kadd
            clear hla2
            have hzo : SzR 145 l := HZ.out.mono (by decide)
            clear hv2 hwc hws hwl
            simp only at kadd
            obtain ⟨bi, hbi2⟩ : ∃ r, lastV (rwVer la q1) = r := ⟨_, rfl⟩
            rw [hbi2] at hbi
            have kbi := fun V w h => tbest_any V la q1 w h (Nat.le_trans hzl.len (by decide)) hzl.path hzl.text HSQ.out.1
            rw [hbi.best] at kbi
            have kala := fun V w h => tall_any V la w h (Nat.le_trans hzl.len (by decide)) (hzl.versK (by decide)) hzl.path hzl.text
            rw [allE_yes hla] at kala
            have kdr := fun V w h => tdrop_any V la q1 q2 w h (Nat.le_trans hzl.len (by decide)) (hzl.versK (by decide)) hzl.path hzl.text HSQ.out.1 HSQ.out.2
            rw [hdr] at kdr
            simp only at kbi kala kdr
            have hhi := hbi.has
            have hmx := hbi.top
            have hoi := hbi.ok
            have hsi : bi.length ≤ 1000000000 := (hza _ (hasN_iff.1 hhi)).2
            have hoa := checkN_ok hca
            obtain ⟨sA, hsA⟩ : ∃ r, rwAll la = r := ⟨_, rfl⟩
            rw [hsA] at kala hhi hmx hza hoa
            obtain ⟨na, hna⟩ : ∃ r, la.length = r := ⟨_, rfl⟩
            obtain ⟨nA, hnA⟩ : ∃ r, sA.length = r := ⟨_, rfl⟩
            have hnA2 : nA ≤ 1000000 := by rw [← hnA, ← hsA]; have := hzl.many; omega
            obtain ⟨no, hno⟩ : ∃ r, l.length = r := ⟨_, rfl⟩
            have HHI := Lib.hid hhi; have HMX := Lib.hid hmx; have HZA := Lib.hid hza; have HOA := Lib.hid hoa; have HNA := Lib.hid hna; have HNSA := Lib.hid hnA; have HNO := Lib.hid hno; have HOI := Lib.hid hoi
            have hsome := hbi.some hv0
            have hbv := lastV_mem hv0
            have how := ver_ok ho q1 _ hbv
            have hsw : (lastV (rwVer l q1)).length ≤ 1000000000 := (hsn _ (ver_mem.1 hbv)).2
            rw [bestE_yes ho hpq hv0] at kbe
            obtain ⟨bw, hbw⟩ : ∃ r, lastV (rwVer l q1) = r := ⟨_, rfl⟩
            rw [hbw] at kbe hsome how hsw
            obtain ⟨z, hz1⟩ : ∃ z, decide (bi = q2) = z := ⟨_, rfl⟩
            rw [hz1] at hsome
            have HZ1 := Lib.hid hz1; have HZ2 := Lib.hid hsome.symm; have HOW := Lib.hid how
            have kbo := kbe
            simp only at kbe kbo
            have KBO := Lib.hid kbo
            clear kbo hzo hv0 hbw
            clear hsome how hbv hz1
            have KADD := Lib.hid kadd; have KBE := Lib.hid kbe; have KBI := Lib.hid kbi; have KALA := Lib.hid kala; have KDR := Lib.hid kdr
            clear kadd kbe kbi kala kdr hbi hbi2 hhi hmx hza hoa hna hnA hno hoi hsA hdr hzl hla hca ho hk hh hon hsn hck hsl hpq
            go_upto_region 4 with (first
                | (go_at_call 12; refine (KCH.out _ _ SL.out).mono ?_; rintro e w9 ⟨rfl, hb1⟩; replace qx0 := cell_keep qx0 hb1; replace qx1 := cell_keep qx1 hb1; replace SL := Lib.hid (SL.out.below hb1); replace BB := Lib.hid (below_step BB.out hb1); clear hb1)
                | (go_at_call 16; refine (KMN.out _).mono ?_; rintro e w9 ⟨rfl, hb1⟩; replace qx0 := cell_keep qx0 hb1; replace qx1 := cell_keep qx1 hb1; replace SL := Lib.hid (SL.out.below hb1); replace BB := Lib.hid (below_step BB.out hb1); clear hb1))
            go_upto_region 5 with (go_at_call 27; refine (KBE.out _ _ SL.out).mono ?_; rintro e w9 ⟨rfl, hb1⟩; replace qx0 := cell_keep qx0 hb1; replace qx1 := cell_keep qx1 hb1; replace SL := Lib.hid (SL.out.below hb1); replace BB := Lib.hid (below_step BB.out hb1); clear hb1)
            go_upto_region 6 with (go_at_call 10; refine (KADD.out _ _ SL.out).mono ?_; rintro e w9 ⟨v1, rfl, hr1, hb1⟩; replace qx0 := cell_keep qx0 hb1; replace qx1 := cell_keep qx1 hb1; replace SL := Lib.hid (SL.out.below hb1); replace BB := Lib.hid (below_step BB.out hb1); obtain ⟨aA, cA, rfl, hd⟩ := hr1.slice HNA.out; have SA := Lib.hid hd; clear hr1 hd hb1 KADD)
            go_upto_region 7 with (go_at_call 27; refine (KBI.out _ _ SA.out).mono ?_; rintro e w9 ⟨rfl, hb1⟩; replace qx0 := cell_keep qx0 hb1; replace qx1 := cell_keep qx1 hb1; replace SL := Lib.hid (SL.out.below hb1); replace SA := Lib.hid (SA.out.below hb1); replace BB := Lib.hid (below_step BB.out hb1); clear hb1)
            go_upto_region 8 with (go_at_call 25; refine (KALA.out _ _ SA.out).mono ?_; rintro e w9 ⟨v1, rfl, hr1, hb1⟩; replace qx0 := cell_keep qx0 hb1; replace qx1 := cell_keep qx1 hb1; replace SL := Lib.hid (SL.out.below hb1); replace SA := Lib.hid (SA.out.below hb1); replace BB := Lib.hid (below_step BB.out hb1); obtain ⟨aS, cS, rfl, hd⟩ := ndsO hr1; rw [HNSA.out] at hd ⊢; have SS := Lib.hid hd; clear hr1 hd hb1 KALA)
            go_upto_region 10 with (go_at_call 19; refine (refnhas_any _ _ q1 bi _ SS.out).mono ?_; rintro e w9 ⟨rfl, hb1⟩; rw [HHI.out]; replace qx0 := cell_keep qx0 hb1; replace qx1 := cell_keep qx1 hb1; replace SL := Lib.hid (SL.out.below hb1); replace SA := Lib.hid (SA.out.below hb1); replace SS := Lib.hid (SS.out.below hb1); replace BB := Lib.hid (below_step BB.out hb1); clear hb1)
            obtain ⟨w7, hw7⟩ : ∃ v, v = w9 := ⟨_, rfl⟩
            subst hw7
            clear KBE KBI KCH KMN
            go_wp2
            go_loopw [13] (fun i wr => ∃ k : Nat, k ≤ nA ∧ i = .int .i64 k ∧ Hid (Below w7.heap.size w7 wr)) (fun i _ => nA - (intOf i).toNat)
            case atStart => exact ⟨0, Nat.zero_le _, rfl, Lib.hid (Below.refl _ _)⟩
            case round =>
              obtain ⟨k, hk, rfl, HB⟩ := hrel
              by_cases hlt : k < nA
              · have hkl : k < sA.length := by rw [HNSA.out]; exact hlt
                obtain ⟨bs, os, rfl, -, hc0, hc1⟩ := (SS.out.below HB.out).at k hkl
                have g0 := cell_keep qx0 HB.out
                have hm := gd_in (z := ([], [])) hkl
                have hmt := HMX.out _ hm
                have hsy := (HZA.out _ hm).2
                have hoy := (okN_parts (HOA.out _ hm)).2
                obtain ⟨y, hy⟩ : ∃ y, y = sA.getD k ([], []) := ⟨_, rfl⟩
                rw [← hy] at hc0 hc1 hmt hsy hoy
                obtain ⟨y1, y2⟩ := y
                simp only at hc0 hc1 hmt hsy hoy
                have hkb : (k : Int) < (nA : Int) := by omega
                clear hy hm
                go_upto_region 13 with fail
                by_cases hpq2 : y1 = q1
                · have hpy : decide (y1 = q1) = true := decide_eq_true hpq2
                  have hgt : decide (0 < cmpT y2 bi) = false := decide_eq_false (by have := hmt hpq2; omega)
                  refine rol_run (by kernel_rfl) [[], [], [0, 1], [0, 1, 2], [0, 1, 2, 3], [], [5], [0, 1, 2, 3, 4, 5, 6], [0, 1, 2, 3, 4, 5, 6, 7], [0, 1, 2, 3, 4, 5, 6, 7, 8], [0, 1, 2, 3, 4, 5, 6, 7, 8], [0, 1, 2, 3, 4, 5, 6, 7, 8, 9, 10], [0, 1, 2, 3, 4, 5, 6, 7, 8, 9, 10, 11], [0, 1, 2, 3, 4, 5, 6, 7, 8, 9, 10, 11, 12], [0, 1, 2, 3, 4, 5, 6, 7, 8], [0, 1, 2, 3, 4, 5, 6, 7, 8, 9, 10, 11, 12, 13, 14], [0, 1, 2, 3, 4, 5, 6, 7, 8, 9, 10, 11, 12, 13, 14, 15], [0, 1, 2, 3, 4, 5, 6, 7, 8, 9, 10, 11, 12, 13, 14, 15, 16]] (by kernel_rfl) [85, 86, 87, 88, 89, 90, 91, 92, 93, 94, 95, 96, 97, 98, 99, 100, 101, 102] [[], [], [0, 1], [2], [3], [], [5], [4, 6], [7], [8], [8], [8, 9, 10], [8, 11], [8, 12], [8], [8, 13, 14], [8, 15], [8, 16]] [0, 0, 0, 0, 0, 0, 0, 0, 0, 0, 0, 0, 0, 0, 0, 0, 0, 0] [0, 0, 0, 0, 0, 0, 0, 0, 0, 0, 0, 0, 0, 0, 0, 0, 0, 0] [1000, 1000, 1000, 1000, 1000, 1000, 1000, 1000, 1000, 1000, 1000, 1000, 1000, 1000, 1000, 1000, 1000, 1000] [.val 85 (.slice (some ⟨bs, os, none⟩) nA cS), .val 86 (.int .i64 (k : Int)), .val 87 (.pointer (some ⟨bs, os + k * 2, none⟩)), .val 88 (.pointer (some ⟨bs, os + k * 2, none⟩)), .val 89 (.string (mkB y1)), .val 90 (.pointer (some ⟨gq, 0, none⟩)), .val 91 (.string (mkB q1)), .val 92 (.bool true), .val 93 (.bool true), .val 94 (.slice (some ⟨bs, os, none⟩) nA cS), .val 95 (.int .i64 (k : Int)), .val 96 (.pointer (some ⟨bs, os + k * 2, none⟩)), .val 97 (.pointer (some ⟨bs, os + k * 2 + 1, none⟩)), .val 98 (.string (mkB y2)), .val 99 (.string (mkB bi)), .val 100 (.int .i64 (cmpT y2 bi)), .val 101 (.bool false), .val 102 (.bool false)] (by kernel_rfl) ?_ (wr.heap.size) (wr.heap.size) rfl (Below.refl _ _) rfl (fun _ => 0) ?_ ?_ ?_
                  · intro j hj
                    have hj3 : j < 18 := hj
                    have hj2 : j = 0 ∨ j = 1 ∨ j = 2 ∨ j = 3 ∨ j = 4 ∨ j = 5 ∨ j = 6 ∨ j = 7 ∨ j = 8 ∨ j = 9 ∨ j = 10 ∨ j = 11 ∨ j = 12 ∨ j = 13 ∨ j = 14 ∨ j = 15 ∨ j = 16 ∨ j = 17 := by omega
                    clear hj hj3
                    rcases hj2 with rfl | rfl | rfl | rfl | rfl | rfl | rfl | rfl | rfl | rfl | rfl | rfl | rfl | rfl | rfl | rfl | rfl | rfl
                    · exact trivial
                    · exact trivial
                    · exact trivial
                    · exact trivial
                    · exact trivial
                    · exact trivial
                    · exact trivial
                    · exact trivial
                    · exact trivial
                    · exact trivial
                    · exact trivial
                    · exact trivial
                    · exact trivial
                    · exact trivial
                    · exact trivial
                    · exact trivial
                    · exact trivial
                    · exact trivial
                  · intro j hj0 hj
                    exact absurd hj (Nat.not_lt.2 hj0)
                  · intro i hi a wx who hG hF
                    have hz : a.tmps.size = 168 := hG.size
                    have hi3 : i < 18 := hi
                    have hi2 : i = 0 ∨ i = 1 ∨ i = 2 ∨ i = 3 ∨ i = 4 ∨ i = 5 ∨ i = 6 ∨ i = 7 ∨ i = 8 ∨ i = 9 ∨ i = 10 ∨ i = 11 ∨ i = 12 ∨ i = 13 ∨ i = 14 ∨ i = 15 ∨ i = 16 ∨ i = 17 := by omega
                    clear hi hi3
                    rcases hi2 with rfl | rfl | rfl | rfl | rfl | rfl | rfl | rfl | rfl | rfl | rfl | rfl | rfl | rfl | rfl | rfl | rfl | rfl
                    · exact rol_val rfl rfl rfl (by rw [hz]; decide) (ex_move (Or.inl rfl) (eval_slot ((hG.slots 11 (by decide)).trans rfl))) hG.below
                    · exact rol_val rfl rfl rfl (by rw [hz]; decide) (ex_move (Or.inl rfl) (eval_slot ((hG.slots 13 (by decide)).trans rfl))) hG.below
                    · exact rol_val rfl rfl rfl (by rw [hz]; decide) (ex_index rfl (eval_slot (hF 0 (by decide))) (eval_slot (hF 1 (by decide))) (idx_nds hlt)) hG.below
                    · exact rol_val rfl rfl rfl (by rw [hz]; decide) (ex_field rfl (eval_slot (hF 2 (by decide))) (by go_simp)) hG.below
                    · exact rol_val rfl rfl rfl (by rw [hz]; decide) (ex_load rfl (eval_slot (hF 3 (by decide))) (ld_strT (cell_keep hc0 hG.below))) hG.below
                    · exact rol_val rfl rfl rfl (by rw [hz]; decide) (ex_field rfl (eval_slot ((hG.slots 3 (by decide)).trans rfl)) (by go_simp)) hG.below
                    · exact rol_val rfl rfl rfl (by rw [hz]; decide) (ex_load rfl (eval_slot (hF 5 (by decide))) (ld_strT (cell_keep g0 hG.below))) hG.below
                    · exact rol_val rfl rfl rfl (by rw [hz]; decide) (ex_bin rfl (eval_slot (hF 4 (by decide))) (eval_slot (hF 6 (by decide))) (by go_simp) (bin_eqlT hpy)) hG.below
                    · exact rol_val rfl rfl rfl (by rw [hz]; decide) (ex_move (Or.inl rfl) (eval_slot (hF 7 (by decide)))) hG.below
                    · exact rol_val rfl (want_yes rfl rfl (hF 8 (by decide))) rfl (by rw [hz]; decide) (ex_move (Or.inl rfl) (eval_slot ((hG.slots 11 (by decide)).trans rfl))) hG.below
                    · exact rol_val rfl (want_yes rfl rfl (hF 8 (by decide))) rfl (by rw [hz]; decide) (ex_move (Or.inl rfl) (eval_slot ((hG.slots 13 (by decide)).trans rfl))) hG.below
                    · exact rol_val rfl (want_yes rfl rfl (hF 8 (by decide))) rfl (by rw [hz]; decide) (ex_index rfl (eval_slot (hF 9 (by decide))) (eval_slot (hF 10 (by decide))) (idx_nds hlt)) hG.below
                    · exact rol_val rfl (want_yes rfl rfl (hF 8 (by decide))) rfl (by rw [hz]; decide) (ex_field rfl (eval_slot (hF 11 (by decide))) (by go_simp)) hG.below
                    · exact rol_val rfl (want_yes rfl rfl (hF 8 (by decide))) rfl (by rw [hz]; decide) (ex_load rfl (eval_slot (hF 12 (by decide))) (ld_strT (cell_keep hc1 hG.below))) hG.below
                    · exact rol_val rfl (want_yes rfl rfl (hF 8 (by decide))) rfl (by rw [hz]; decide) (ex_move (Or.inl rfl) (eval_slot ((hG.slots 9 (by decide)).trans rfl))) hG.below
                    · refine rol_calls rfl (want_yes rfl rfl (hF 8 (by decide))) rfl (by rw [hz]; decide) (ex_call rfl (by simp [eval_slot (hF 13 (by decide)), eval_slot (hF 14 (by decide))]) e3) (refvcmp_l y2 bi wx hsy hsi hoy HOI.out) ?_ hG.below hG.new
                      rintro e w1 ⟨rfl, hb1⟩
                      exact ⟨_, rfl, hb1, .inl rfl⟩
                    · exact rol_val rfl (want_yes rfl rfl (hF 8 (by decide))) rfl (by rw [hz]; decide) (ex_bin rfl (eval_slot (hF 15 (by decide))) rfl (by go_simp) (gt_zeroT hgt)) hG.below
                    · exact rol_val rfl rfl rfl (by rw [hz]; decide) (ex_pick_yes rfl (eval_slot (hF 8 (by decide))) (eval_slot (hF 16 (by decide)))) hG.below
                  · intro a wx who hG hF
                    have fv102 : a.tmps.getD 102 undef = .bool false := eval_slot (s := 102) (hF 17 (of_decide_eq_true (by kernel_rfl)) (of_decide_eq_true (by kernel_rfl)))
                    have hbx := hG.below
                    have hnx := hG.new
                    rw [hG.frame]
                    simp only [List.foldl_cons, List.foldl_nil, List.setIfInBounds_toArray, List.set_cons_zero, List.set_cons_succ]
                    generalize a.tmps.getD 85 undef = u85
                    generalize a.tmps.getD 86 undef = u86
                    generalize a.tmps.getD 87 undef = u87
                    generalize a.tmps.getD 88 undef = u88
                    generalize a.tmps.getD 89 undef = u89
                    generalize a.tmps.getD 90 undef = u90
                    generalize a.tmps.getD 91 undef = u91
                    generalize a.tmps.getD 92 undef = u92
                    generalize a.tmps.getD 93 undef = u93
                    generalize a.tmps.getD 94 undef = u94
                    generalize a.tmps.getD 95 undef = u95
                    generalize a.tmps.getD 96 undef = u96
                    generalize a.tmps.getD 97 undef = u97
                    generalize a.tmps.getD 98 undef = u98
                    generalize a.tmps.getD 99 undef = u99
                    generalize a.tmps.getD 100 undef = u100
                    generalize a.tmps.getD 101 undef = u101
                    rw [fv102]
                    clear hF hG fv102
                    replace HB := Lib.hid (below_step HB.out hbx)
                    clear hbx hnx hpy hgt hpq2 hmt hsy hoy hc0 hc1 g0
                    go_wp2
                    go_roundw
                    case rel => exact ⟨k + 1, by omega, by go_num, HB⟩
                    case measure => simp [intOf]; omega
                · have hpy : decide (y1 = q1) = false := decide_eq_false hpq2
                  refine rol_run (by kernel_rfl) [[], [], [0, 1], [0, 1, 2], [0, 1, 2, 3], [], [5], [0, 1, 2, 3, 4, 5, 6], [0, 1, 2, 3, 4, 5, 6, 7], [0, 1, 2, 3, 4, 5, 6, 7, 8], [0, 1, 2, 3, 4, 5, 6, 7, 8], [0, 1, 2, 3, 4, 5, 6, 7, 8, 9, 10], [0, 1, 2, 3, 4, 5, 6, 7, 8, 9, 10, 11], [0, 1, 2, 3, 4, 5, 6, 7, 8, 9, 10, 11, 12], [0, 1, 2, 3, 4, 5, 6, 7, 8], [0, 1, 2, 3, 4, 5, 6, 7, 8, 9, 10, 11, 12, 13, 14], [0, 1, 2, 3, 4, 5, 6, 7, 8, 9, 10, 11, 12, 13, 14, 15], [0, 1, 2, 3, 4, 5, 6, 7, 8, 9, 10, 11, 12, 13, 14, 15, 16]] (by kernel_rfl) [85, 86, 87, 88, 89, 90, 91, 92, 93, 94, 95, 96, 97, 98, 99, 100, 101, 102] [[], [], [0, 1], [2], [3], [], [5], [4, 6], [7], [8], [8], [8], [8], [8], [8], [8], [8], [8]] [0, 0, 0, 0, 0, 0, 0, 0, 0, 0, 0, 0, 0, 0, 0, 0, 0, 0] [0, 0, 0, 0, 0, 0, 0, 0, 0, 0, 0, 0, 0, 0, 0, 0, 0, 0] [1000, 1000, 1000, 1000, 1000, 1000, 1000, 1000, 1000, 1000, 1000, 1000, 1000, 1000, 1000, 1000, 1000, 1000] [.val 85 (.slice (some ⟨bs, os, none⟩) nA cS), .val 86 (.int .i64 (k : Int)), .val 87 (.pointer (some ⟨bs, os + k * 2, none⟩)), .val 88 (.pointer (some ⟨bs, os + k * 2, none⟩)), .val 89 (.string (mkB y1)), .val 90 (.pointer (some ⟨gq, 0, none⟩)), .val 91 (.string (mkB q1)), .val 92 (.bool false), .val 93 (.bool false), .val 94 undef, .val 95 undef, .val 96 undef, .val 97 undef, .val 98 undef, .val 99 undef, .val 100 undef, .val 101 undef, .val 102 (.bool false)] (by kernel_rfl) ?_ (wr.heap.size) (wr.heap.size) rfl (Below.refl _ _) rfl (fun _ => 0) ?_ ?_ ?_
                  · intro j hj
                    have hj3 : j < 18 := hj
                    have hj2 : j = 0 ∨ j = 1 ∨ j = 2 ∨ j = 3 ∨ j = 4 ∨ j = 5 ∨ j = 6 ∨ j = 7 ∨ j = 8 ∨ j = 9 ∨ j = 10 ∨ j = 11 ∨ j = 12 ∨ j = 13 ∨ j = 14 ∨ j = 15 ∨ j = 16 ∨ j = 17 := by omega
                    clear hj hj3
                    rcases hj2 with rfl | rfl | rfl | rfl | rfl | rfl | rfl | rfl | rfl | rfl | rfl | rfl | rfl | rfl | rfl | rfl | rfl | rfl
                    · exact trivial
                    · exact trivial
                    · exact trivial
                    · exact trivial
                    · exact trivial
                    · exact trivial
                    · exact trivial
                    · exact trivial
                    · exact trivial
                    · exact trivial
                    · exact trivial
                    · exact trivial
                    · exact trivial
                    · exact trivial
                    · exact trivial
                    · exact trivial
                    · exact trivial
                    · exact trivial
                  · intro j hj0 hj
                    exact absurd hj (Nat.not_lt.2 hj0)
                  · intro i hi a wx who hG hF
                    have hz : a.tmps.size = 168 := hG.size
                    have hi3 : i < 18 := hi
                    have hi2 : i = 0 ∨ i = 1 ∨ i = 2 ∨ i = 3 ∨ i = 4 ∨ i = 5 ∨ i = 6 ∨ i = 7 ∨ i = 8 ∨ i = 9 ∨ i = 10 ∨ i = 11 ∨ i = 12 ∨ i = 13 ∨ i = 14 ∨ i = 15 ∨ i = 16 ∨ i = 17 := by omega
                    clear hi hi3
                    rcases hi2 with rfl | rfl | rfl | rfl | rfl | rfl | rfl | rfl | rfl | rfl | rfl | rfl | rfl | rfl | rfl | rfl | rfl | rfl
                    · exact rol_val rfl rfl rfl (by rw [hz]; decide) (ex_move (Or.inl rfl) (eval_slot ((hG.slots 11 (by decide)).trans rfl))) hG.below
                    · exact rol_val rfl rfl rfl (by rw [hz]; decide) (ex_move (Or.inl rfl) (eval_slot ((hG.slots 13 (by decide)).trans rfl))) hG.below
                    · exact rol_val rfl rfl rfl (by rw [hz]; decide) (ex_index rfl (eval_slot (hF 0 (by decide))) (eval_slot (hF 1 (by decide))) (idx_nds hlt)) hG.below
                    · exact rol_val rfl rfl rfl (by rw [hz]; decide) (ex_field rfl (eval_slot (hF 2 (by decide))) (by go_simp)) hG.below
                    · exact rol_val rfl rfl rfl (by rw [hz]; decide) (ex_load rfl (eval_slot (hF 3 (by decide))) (ld_strT (cell_keep hc0 hG.below))) hG.below
                    · exact rol_val rfl rfl rfl (by rw [hz]; decide) (ex_field rfl (eval_slot ((hG.slots 3 (by decide)).trans rfl)) (by go_simp)) hG.below
                    · exact rol_val rfl rfl rfl (by rw [hz]; decide) (ex_load rfl (eval_slot (hF 5 (by decide))) (ld_strT (cell_keep g0 hG.below))) hG.below
                    · exact rol_val rfl rfl rfl (by rw [hz]; decide) (ex_bin rfl (eval_slot (hF 4 (by decide))) (eval_slot (hF 6 (by decide))) (by go_simp) (bin_eqlT hpy)) hG.below
                    · exact rol_val rfl rfl rfl (by rw [hz]; decide) (ex_move (Or.inl rfl) (eval_slot (hF 7 (by decide)))) hG.below
                    · exact rol_val_skip rfl (want_no rfl rfl (hF 8 (by decide)) (by decide)) rfl (by rw [hz]; decide) hG.below
                    · exact rol_val_skip rfl (want_no rfl rfl (hF 8 (by decide)) (by decide)) rfl (by rw [hz]; decide) hG.below
                    · exact rol_val_skip rfl (want_no rfl rfl (hF 8 (by decide)) (by decide)) rfl (by rw [hz]; decide) hG.below
                    · exact rol_val_skip rfl (want_no rfl rfl (hF 8 (by decide)) (by decide)) rfl (by rw [hz]; decide) hG.below
                    · exact rol_val_skip rfl (want_no rfl rfl (hF 8 (by decide)) (by decide)) rfl (by rw [hz]; decide) hG.below
                    · exact rol_val_skip rfl (want_no rfl rfl (hF 8 (by decide)) (by decide)) rfl (by rw [hz]; decide) hG.below
                    · exact rol_val_skip rfl (want_no rfl rfl (hF 8 (by decide)) (by decide)) rfl (by rw [hz]; decide) hG.below
                    · exact rol_val_skip rfl (want_no rfl rfl (hF 8 (by decide)) (by decide)) rfl (by rw [hz]; decide) hG.below
                    · exact rol_val rfl rfl rfl (by rw [hz]; decide) (ex_pick_no rfl (eval_slot (hF 8 (by decide))) rfl) hG.below
                  · intro a wx who hG hF
                    have fv102 : a.tmps.getD 102 undef = .bool false := eval_slot (s := 102) (hF 17 (of_decide_eq_true (by kernel_rfl)) (of_decide_eq_true (by kernel_rfl)))
                    have hbx := hG.below
                    have hnx := hG.new
                    rw [hG.frame]
                    simp only [List.foldl_cons, List.foldl_nil, List.setIfInBounds_toArray, List.set_cons_zero, List.set_cons_succ]
                    generalize a.tmps.getD 85 undef = u85
                    generalize a.tmps.getD 86 undef = u86
                    generalize a.tmps.getD 87 undef = u87
                    generalize a.tmps.getD 88 undef = u88
                    generalize a.tmps.getD 89 undef = u89
                    generalize a.tmps.getD 90 undef = u90
                    generalize a.tmps.getD 91 undef = u91
                    generalize a.tmps.getD 92 undef = u92
                    generalize a.tmps.getD 93 undef = u93
                    generalize a.tmps.getD 94 undef = u94
                    generalize a.tmps.getD 95 undef = u95
                    generalize a.tmps.getD 96 undef = u96
                    generalize a.tmps.getD 97 undef = u97
                    generalize a.tmps.getD 98 undef = u98
                    generalize a.tmps.getD 99 undef = u99
                    generalize a.tmps.getD 100 undef = u100
                    generalize a.tmps.getD 101 undef = u101
                    rw [fv102]
                    clear hF hG fv102
                    replace HB := Lib.hid (below_step HB.out hbx)
                    clear hbx hnx hpy hpq2 hmt hsy hoy hc0 hc1 g0
                    go_wp2
                    go_roundw
                    case rel => exact ⟨k + 1, by omega, by go_num, HB⟩
                    case measure => simp [intOf]; omega
              · have e : nA = k := by omega
                subst e
                replace qx0 := cell_keep qx0 HB.out; replace qx1 := cell_keep qx1 HB.out; replace SL := Lib.hid (SL.out.below HB.out); replace SA := Lib.hid (SA.out.below HB.out); replace SS := Lib.hid (SS.out.below HB.out); replace BB := Lib.hid (below_step BB.out HB.out)
                clear HB hlt hk SS
                obtain ⟨w9, hw9⟩ : ∃ v, v = wr := ⟨_, rfl⟩
                subst hw9
                go_upto_region 15 with fail
                refine rol_run (by kernel_rfl) [[], [0], [0, 1], [0, 1, 2], [0, 1, 2], [0, 1, 2, 4], [0, 1, 2, 3, 4, 5], [0, 1, 2], [0, 1, 2, 7], [0, 1, 2], [0, 1, 2, 7, 8, 9], [0, 1, 2, 7, 8, 9, 10], [0, 1, 2, 3, 4, 5, 6, 7, 8, 9, 10, 11], [0, 1, 2, 3, 4, 5, 6, 7, 8, 9, 10, 11, 12], [0, 1, 2, 3, 4, 5, 6, 7, 8, 9, 10, 11, 12, 13], [0, 1, 2, 3, 4, 5, 6, 7, 8, 9, 10, 11, 12, 13, 14], [0, 1, 2, 3, 4, 5, 6, 7, 8, 9, 10, 11, 12, 13, 14, 15], [0, 1, 2, 3, 4, 5, 6, 7, 8, 9, 10, 11, 12, 13, 14, 15, 16], [0, 1, 2, 3, 4, 5, 6, 7, 8, 9, 10, 11, 12, 13, 14, 15, 16, 17], [0, 1, 2, 3, 4, 5, 6, 7, 8, 9, 10, 11, 12, 13, 14, 15, 16, 17, 18], [0, 1, 2, 3, 4, 5, 6, 7, 8, 9, 10, 11, 12, 13, 14, 15, 16, 17, 18, 19], [0, 1, 2, 3, 4, 5, 6, 7, 8, 9, 10, 11, 12, 13, 14, 15, 16, 17, 18, 19, 20], [0, 1, 2, 3, 4, 5, 6, 7, 8, 9, 10, 11, 12, 13, 14, 15, 16, 17, 18, 19, 20], [0, 1, 2, 3, 4, 5, 6, 7, 8, 9, 10, 11, 12, 13, 14, 15, 16, 17, 18, 19, 20, 22], [0, 1, 2, 3, 4, 5, 6, 7, 8, 9, 10, 11, 12, 13, 14, 15, 16, 17, 18, 19, 20, 21, 22, 23], [0, 1, 2, 3, 4, 5, 6, 7, 8, 9, 10, 11, 12, 13, 14, 15, 16, 17, 18, 19, 20, 21, 22, 23, 24], [0, 1, 2, 3, 4, 5, 6, 7, 8, 9, 10, 11, 12, 13, 14, 15, 16, 17, 18, 19, 20, 21, 22, 23, 24, 25], [0, 1, 2, 3, 4, 5, 6, 7, 8, 9, 10, 11, 12, 13, 14, 15, 16, 17, 18, 19, 20, 21, 22, 23, 24, 25, 26]] (by kernel_rfl) [103, 104, 105, 106, 107, 108, 109, 110, 111, 112, 113, 114, 115, 116, 117, 118, 119, 120, 121, 122, 123, 124, 125, 126, 127, 128, 129, 130] [[], [0], [1], [2], [2], [2, 4], [2, 3, 5], [2], [2, 7], [2], [2, 8, 9], [2, 10], [2, 6, 11], [2, 12], [13], [14], [14, 15], [14, 16], [17], [17], [17], [20], [20], [20], [20], [17], [14, 17], [14, 26]] [0, 0, 0, 0, 0, 0, 0, 0, 0, 0, 0, 0, 0, 0, 0, 0, 0, 0, 0, 0, 0, 0, 0, 0, 0, 0, 0, 0] [0, 0, 0, 0, 0, 0, 0, 0, 0, 0, 0, 0, 0, 0, 0, 0, 0, 0, 0, 0, 0, 0, 0, 0, 0, 0, 0, 0] [1000, 1000, 1000, 1000, 1000, 1000, 1000, 1000, 1000, 1000, 1000, 1000, 1000, 1000, 1000, 1000, 1000, 1000, 1000, 1000, 1000, 1000, 1000, 1000, 1000, 1000, 1000, 1000] [.val 103 (.int .i64 0), .val 104 (.bool true), .val 105 (.bool true), .val 106 (.string (mkB bi)), .val 107 (.pointer (some ⟨gq, 1, none⟩)), .val 108 (.string (mkB q2)), .val 109 (.bool z), .val 110 (.pointer (some ⟨gq, 1, none⟩)), .val 111 (.string (mkB q2)), .val 112 (.string (mkB bw)), .val 113 (.int .i64 (cmpT q2 bw)), .val 114 (.bool z), .val 115 (.bool false), .val 116 (.bool false), .val 117 (.bool false), .val 118 (.int .i64 0), .val 119 (.bool false), .val 120 (.bool false), .val 121 undef, .val 122 undef, .val 123 undef, .val 124 undef, .val 125 undef, .val 126 undef, .val 127 undef, .val 128 undef, .val 129 (.bool false), .val 130 (.bool false)] (by kernel_rfl) ?_ (w9.heap.size) (w9.heap.size) rfl (Below.refl _ _) rfl (fun _ => 0) ?_ ?_ ?_
                · intro j hj
                  have hj3 : j < 28 := hj
                  have hj2 : j = 0 ∨ j = 1 ∨ j = 2 ∨ j = 3 ∨ j = 4 ∨ j = 5 ∨ j = 6 ∨ j = 7 ∨ j = 8 ∨ j = 9 ∨ j = 10 ∨ j = 11 ∨ j = 12 ∨ j = 13 ∨ j = 14 ∨ j = 15 ∨ j = 16 ∨ j = 17 ∨ j = 18 ∨ j = 19 ∨ j = 20 ∨ j = 21 ∨ j = 22 ∨ j = 23 ∨ j = 24 ∨ j = 25 ∨ j = 26 ∨ j = 27 := by omega
                  clear hj hj3
                  rcases hj2 with rfl | rfl | rfl | rfl | rfl | rfl | rfl | rfl | rfl | rfl | rfl | rfl | rfl | rfl | rfl | rfl | rfl | rfl | rfl | rfl | rfl | rfl | rfl | rfl | rfl | rfl | rfl | rfl
                  · exact trivial
                  · exact trivial
                  · exact trivial
                  · exact trivial
                  · exact trivial
                  · exact trivial
                  · exact trivial
                  · exact trivial
                  · exact trivial
                  · exact trivial
                  · exact trivial
                  · exact trivial
                  · exact trivial
                  · exact trivial
                  · exact trivial
                  · exact trivial
                  · exact trivial
                  · exact trivial
                  · exact trivial
                  · exact trivial
                  · exact trivial
                  · exact trivial
                  · exact trivial
                  · exact trivial
                  · exact trivial
                  · exact trivial
                  · exact trivial
                  · exact trivial
                · intro j hj0 hj
                  exact absurd hj (Nat.not_lt.2 hj0)
                · intro i hi a wx who hG hF
                  have hz : a.tmps.size = 168 := hG.size
                  have hi3 : i < 28 := hi
                  have hi2 : i = 0 ∨ i = 1 ∨ i = 2 ∨ i = 3 ∨ i = 4 ∨ i = 5 ∨ i = 6 ∨ i = 7 ∨ i = 8 ∨ i = 9 ∨ i = 10 ∨ i = 11 ∨ i = 12 ∨ i = 13 ∨ i = 14 ∨ i = 15 ∨ i = 16 ∨ i = 17 ∨ i = 18 ∨ i = 19 ∨ i = 20 ∨ i = 21 ∨ i = 22 ∨ i = 23 ∨ i = 24 ∨ i = 25 ∨ i = 26 ∨ i = 27 := by omega
                  clear hi hi3
                  rcases hi2 with rfl | rfl | rfl | rfl | rfl | rfl | rfl | rfl | rfl | rfl | rfl | rfl | rfl | rfl | rfl | rfl | rfl | rfl | rfl | rfl | rfl | rfl | rfl | rfl | rfl | rfl | rfl | rfl
                  · exact rol_val rfl rfl rfl (by rw [hz]; decide) (ex_move (Or.inl rfl) (eval_slot ((hG.slots 6 (by decide)).trans rfl))) hG.below
                  · exact rol_val rfl rfl rfl (by rw [hz]; decide) (ex_bin rfl (eval_slot (hF 0 (by decide))) rfl (by go_simp) en_eql00) hG.below
                  · exact rol_val rfl rfl rfl (by rw [hz]; decide) (ex_move (Or.inl rfl) (eval_slot (hF 1 (by decide)))) hG.below
                  · exact rol_val rfl (want_yes rfl rfl (hF 2 (by decide))) rfl (by rw [hz]; decide) (ex_move (Or.inl rfl) (eval_slot ((hG.slots 9 (by decide)).trans rfl))) hG.below
                  · exact rol_val rfl (want_yes rfl rfl (hF 2 (by decide))) rfl (by rw [hz]; decide) (ex_field rfl (eval_slot ((hG.slots 3 (by decide)).trans rfl)) (by go_simp)) hG.below
                  · exact rol_val rfl (want_yes rfl rfl (hF 2 (by decide))) rfl (by rw [hz]; decide) (ex_load rfl (eval_slot (hF 4 (by decide))) (ld_strT (cell_keep qx1 hG.below))) hG.below
                  · exact rol_val rfl (want_yes rfl rfl (hF 2 (by decide))) rfl (by rw [hz]; decide) (ex_bin rfl (eval_slot (hF 3 (by decide))) (eval_slot (hF 5 (by decide))) (by go_simp) (bin_eqlT HZ1.out)) hG.below
                  · exact rol_val rfl (want_yes rfl rfl (hF 2 (by decide))) rfl (by rw [hz]; decide) (ex_field rfl (eval_slot ((hG.slots 3 (by decide)).trans rfl)) (by go_simp)) hG.below
                  · exact rol_val rfl (want_yes rfl rfl (hF 2 (by decide))) rfl (by rw [hz]; decide) (ex_load rfl (eval_slot (hF 7 (by decide))) (ld_strT (cell_keep qx1 hG.below))) hG.below
                  · exact rol_val rfl (want_yes rfl rfl (hF 2 (by decide))) rfl (by rw [hz]; decide) (ex_move (Or.inl rfl) (eval_slot ((hG.slots 5 (by decide)).trans rfl))) hG.below
                  · refine rol_calls rfl (want_yes rfl rfl (hF 2 (by decide))) rfl (by rw [hz]; decide) (ex_call rfl (by simp [eval_slot (hF 8 (by decide)), eval_slot (hF 9 (by decide))]) e3) (refvcmp_l q2 bw wx HSQ.out.2 hsw hvq HOW.out) ?_ hG.below hG.new
                    rintro e w1 ⟨rfl, hb1⟩
                    exact ⟨_, rfl, hb1, .inl rfl⟩
                  · exact rol_val rfl (want_yes rfl rfl (hF 2 (by decide))) rfl (by rw [hz]; decide) (ex_bin rfl (eval_slot (hF 10 (by decide))) rfl (by go_simp) (ge_zeroT HZ2.out)) hG.below
                  · exact rol_val rfl (want_yes rfl rfl (hF 2 (by decide))) rfl (by rw [hz]; decide) (ex_bin rfl (eval_slot (hF 6 (by decide))) (eval_slot (hF 11 (by decide))) (by go_simp) neq_boolT) hG.below
                  · exact rol_val rfl rfl rfl (by rw [hz]; decide) (ex_pick_yes rfl (eval_slot (hF 2 (by decide))) (eval_slot (hF 12 (by decide)))) hG.below
                  · exact rol_val rfl rfl rfl (by rw [hz]; decide) (ex_move (Or.inl rfl) (eval_slot (hF 13 (by decide)))) hG.below
                  · exact rol_val rfl (want_yes rfl rfl (hF 14 (by decide))) rfl (by rw [hz]; decide) (ex_move (Or.inl rfl) (eval_slot ((hG.slots 6 (by decide)).trans rfl))) hG.below
                  · exact rol_val rfl (want_yes rfl rfl (hF 14 (by decide))) rfl (by rw [hz]; decide) (ex_bin rfl (eval_slot (hF 15 (by decide))) rfl (by go_simp) en_neq00) hG.below
                  · exact rol_val rfl (want_yes rfl rfl (hF 14 (by decide))) rfl (by rw [hz]; decide) (ex_move (Or.inl rfl) (eval_slot (hF 16 (by decide)))) hG.below
                  · exact rol_val_skip rfl (want_no rfl rfl (hF 17 (by decide)) (by decide)) rfl (by rw [hz]; decide) hG.below
                  · exact rol_val_skip rfl (want_no rfl rfl (hF 17 (by decide)) (by decide)) rfl (by rw [hz]; decide) hG.below
                  · exact rol_val_skip rfl (want_no rfl rfl (hF 17 (by decide)) (by decide)) rfl (by rw [hz]; decide) hG.below
                  · exact rol_val_skip rfl (want_undef rfl rfl (hF 20 (by decide))) rfl (by rw [hz]; decide) hG.below
                  · exact rol_val_skip rfl (want_undef rfl rfl (hF 20 (by decide))) rfl (by rw [hz]; decide) hG.below
                  · exact rol_val_skip rfl (want_undef rfl rfl (hF 20 (by decide))) rfl (by rw [hz]; decide) hG.below
                  · exact rol_val_skip rfl (want_undef rfl rfl (hF 20 (by decide))) rfl (by rw [hz]; decide) hG.below
                  · exact rol_val_skip rfl (want_no rfl rfl (hF 17 (by decide)) (by decide)) rfl (by rw [hz]; decide) hG.below
                  · exact rol_val rfl (want_yes rfl rfl (hF 14 (by decide))) rfl (by rw [hz]; decide) (ex_pick_no rfl (eval_slot (hF 17 (by decide))) rfl) hG.below
                  · exact rol_val rfl rfl rfl (by rw [hz]; decide) (ex_pick_no rfl (eval_slot (hF 14 (by decide))) (eval_slot (hF 26 (by decide)))) hG.below
                · intro a wx who hG hF
                  have fv130 : a.tmps.getD 130 undef = .bool false := eval_slot (s := 130) (hF 27 (of_decide_eq_true (by kernel_rfl)) (of_decide_eq_true (by kernel_rfl)))
                  have hbx := hG.below
                  have hnx := hG.new
                  rw [hG.frame]
                  simp only [List.foldl_cons, List.foldl_nil, List.setIfInBounds_toArray, List.set_cons_zero, List.set_cons_succ]
                  generalize a.tmps.getD 103 undef = u103
                  generalize a.tmps.getD 104 undef = u104
                  generalize a.tmps.getD 105 undef = u105
                  generalize a.tmps.getD 106 undef = u106
                  generalize a.tmps.getD 107 undef = u107
                  generalize a.tmps.getD 108 undef = u108
                  generalize a.tmps.getD 109 undef = u109
                  generalize a.tmps.getD 110 undef = u110
                  generalize a.tmps.getD 111 undef = u111
                  generalize a.tmps.getD 112 undef = u112
                  generalize a.tmps.getD 113 undef = u113
                  generalize a.tmps.getD 114 undef = u114
                  generalize a.tmps.getD 115 undef = u115
                  generalize a.tmps.getD 116 undef = u116
                  generalize a.tmps.getD 117 undef = u117
                  generalize a.tmps.getD 118 undef = u118
                  generalize a.tmps.getD 119 undef = u119
                  generalize a.tmps.getD 120 undef = u120
                  generalize a.tmps.getD 121 undef = u121
                  generalize a.tmps.getD 122 undef = u122
                  generalize a.tmps.getD 123 undef = u123
                  generalize a.tmps.getD 124 undef = u124
                  generalize a.tmps.getD 125 undef = u125
                  generalize a.tmps.getD 126 undef = u126
                  generalize a.tmps.getD 127 undef = u127
                  generalize a.tmps.getD 128 undef = u128
                  generalize a.tmps.getD 129 undef = u129
                  rw [fv130]
                  clear hF hG fv130
                  replace qx0 := cell_keep qx0 hbx
                  replace qx1 := cell_keep qx1 hbx
                  replace SL := Lib.hid (SL.out.below hbx)
                  replace SA := Lib.hid (SA.out.below hbx)
                  replace BB := Lib.hid (below_step BB.out hbx)
                  clear hbx hnx
                  go_upto_region 18 with (go_at_call 11; refine (KDR.out _ _ SA.out).mono ?_; rintro e w9 ⟨v1, rfl, hr1, hb1⟩; replace qx0 := cell_keep qx0 hb1; replace qx1 := cell_keep qx1 hb1; replace SL := Lib.hid (SL.out.below hb1); replace SA := Lib.hid (SA.out.below hb1); replace BB := Lib.hid (below_step BB.out hb1); obtain ⟨aO, cO, rfl, hd⟩ := hr1.slice HNO.out; have SO := Lib.hid hd; clear hr1 hd hb1 KDR)
                  go_upto_region 19 with (go_at_call 27; refine (KBO.out _ _ SO.out).mono ?_; rintro e w9 ⟨rfl, hb1⟩; replace qx0 := cell_keep qx0 hb1; replace qx1 := cell_keep qx1 hb1; replace SL := Lib.hid (SL.out.below hb1); replace SA := Lib.hid (SA.out.below hb1); replace SO := Lib.hid (SO.out.below hb1); replace BB := Lib.hid (below_step BB.out hb1); clear hb1)
                  go_wp2_with (first
                      | (go_at_call 14; refine (tsame_any _ _ _ _ _ SO.out SL.out).mono ?_; rintro e w9 ⟨rfl, hb1⟩; rw [dec_rows]; replace qx0 := cell_keep qx0 hb1; replace qx1 := cell_keep qx1 hb1; replace SL := Lib.hid (SL.out.below hb1); replace SA := Lib.hid (SA.out.below hb1); replace SO := Lib.hid (SO.out.below hb1); replace BB := Lib.hid (below_step BB.out hb1); clear hb1)
                      | (go_at_call 17; refine (tawake_any _).mono ?_; rintro e w9 ⟨rfl, hb1⟩; replace qx0 := cell_keep qx0 hb1; replace qx1 := cell_keep qx1 hb1; replace SL := Lib.hid (SL.out.below hb1); replace SA := Lib.hid (SA.out.below hb1); replace SO := Lib.hid (SO.out.below hb1); replace BB := Lib.hid (below_step BB.out hb1); clear hb1))
                  go_ret
                  exact ⟨rfl, BB.out⟩
        · have hv2 : ∀ u, u ∈ rwVer l q1 ↔ u ∈ rwVer l q1 ∨ u = q2 := fun u => ⟨.inl, fun k => k.elim id fun e => by subst e; exact ver_mem.2 (hasN_iff.1 hh)⟩
          have hv0 : rwVer l q1 ≠ [] := fun e => by have := ver_mem.2 (hasN_iff.1 hh); rw [e] at this; cases this
          have hbi := best_is ho ho hk hv2
          rw [addE_has ho hk hh] at kadd
          have hla := ho
          have hzl : SzR 145 l := HZ.out.mono (by decide)
          have hza : ∀ n ∈ rwAll l, smallN n := hsn
          have hdr := dropE_yes ho hk hh
          have hzo : SzR 145 (rwOf (minusN (rwAll l) [(q1, q2)])) := SzR.of (small_minus hsn) (by have := minusN_len (rwAll l) [(q1, q2)]; omega)
          obtain ⟨lo, hlo⟩ : ∃ r, rwOf (minusN (rwAll l) [(q1, q2)]) = r := ⟨_, rfl⟩
          rw [hlo] at hdr hzo
          have hca := hck
          clear hv2 hlo
          simp only at kadd
          obtain ⟨bi, hbi2⟩ : ∃ r, lastV (rwVer l q1) = r := ⟨_, rfl⟩
          rw [hbi2] at hbi
          have kbi := fun V w h => tbest_any V l q1 w h (Nat.le_trans hzl.len (by decide)) hzl.path hzl.text HSQ.out.1
          rw [hbi.best] at kbi
          have kala := fun V w h => tall_any V l w h (Nat.le_trans hzl.len (by decide)) (hzl.versK (by decide)) hzl.path hzl.text
          rw [allE_yes hla] at kala
          have kdr := fun V w h => tdrop_any V l q1 q2 w h (Nat.le_trans hzl.len (by decide)) (hzl.versK (by decide)) hzl.path hzl.text HSQ.out.1 HSQ.out.2
          rw [hdr] at kdr
          simp only at kbi kala kdr
          have hhi := hbi.has
          have hmx := hbi.top
          have hoi := hbi.ok
          have hsi : bi.length ≤ 1000000000 := (hza _ (hasN_iff.1 hhi)).2
          have hoa := checkN_ok hca
          obtain ⟨sA, hsA⟩ : ∃ r, rwAll l = r := ⟨_, rfl⟩
          rw [hsA] at kala hhi hmx hza hoa
          obtain ⟨na, hna⟩ : ∃ r, l.length = r := ⟨_, rfl⟩
          obtain ⟨nA, hnA⟩ : ∃ r, sA.length = r := ⟨_, rfl⟩
          have hnA2 : nA ≤ 1000000 := by rw [← hnA, ← hsA]; have := hzl.many; omega
          obtain ⟨no, hno⟩ : ∃ r, lo.length = r := ⟨_, rfl⟩
          have HHI := Lib.hid hhi; have HMX := Lib.hid hmx; have HZA := Lib.hid hza; have HOA := Lib.hid hoa; have HNA := Lib.hid hna; have HNSA := Lib.hid hnA; have HNO := Lib.hid hno; have HOI := Lib.hid hoi
          have hsome := hbi.some hv0
          have hbv := lastV_mem hv0
          have how := ver_ok ho q1 _ hbv
          have hsw : (lastV (rwVer l q1)).length ≤ 1000000000 := (hsn _ (ver_mem.1 hbv)).2
          rw [bestE_yes ho hpq hv0] at kbe
          obtain ⟨bw, hbw⟩ : ∃ r, lastV (rwVer l q1) = r := ⟨_, rfl⟩
          rw [hbw] at kbe hsome how hsw
          obtain ⟨z, hz1⟩ : ∃ z, decide (bi = q2) = z := ⟨_, rfl⟩
          rw [hz1] at hsome
          have HZ1 := Lib.hid hz1; have HZ2 := Lib.hid hsome.symm; have HOW := Lib.hid how
          have kbo := fun V w h => tbest_any V lo q1 w h (Nat.le_trans hzo.len (by decide)) hzo.path hzo.text HSQ.out.1
          obtain ⟨PO, hPO⟩ : ∃ r, bestE lo q1 = r := ⟨_, rfl⟩
          rw [hPO] at kbo
          obtain ⟨bo, ko⟩ := PO
          simp only at kbe kbo
          have KBO := Lib.hid kbo
          clear kbo hzo hv0 hbw hPO
          clear hsome how hbv hz1
          have KADD := Lib.hid kadd; have KBE := Lib.hid kbe; have KBI := Lib.hid kbi; have KALA := Lib.hid kala; have KDR := Lib.hid kdr
          clear kadd kbe kbi kala kdr hbi hbi2 hhi hmx hza hoa hna hnA hno hoi hsA hdr hzl hla hca ho hk hh hon hsn hck hsl hpq
          go_upto_region 4 with (first
              | (go_at_call 12; refine (KCH.out _ _ SL.out).mono ?_; rintro e w9 ⟨rfl, hb1⟩; replace qx0 := cell_keep qx0 hb1; replace qx1 := cell_keep qx1 hb1; replace SL := Lib.hid (SL.out.below hb1); replace BB := Lib.hid (below_step BB.out hb1); clear hb1)
              | (go_at_call 16; refine (KMN.out _).mono ?_; rintro e w9 ⟨rfl, hb1⟩; replace qx0 := cell_keep qx0 hb1; replace qx1 := cell_keep qx1 hb1; replace SL := Lib.hid (SL.out.below hb1); replace BB := Lib.hid (below_step BB.out hb1); clear hb1))
          go_upto_region 5 with (go_at_call 27; refine (KBE.out _ _ SL.out).mono ?_; rintro e w9 ⟨rfl, hb1⟩; replace qx0 := cell_keep qx0 hb1; replace qx1 := cell_keep qx1 hb1; replace SL := Lib.hid (SL.out.below hb1); replace BB := Lib.hid (below_step BB.out hb1); clear hb1)
          go_upto_region 6 with (go_at_call 10; refine (KADD.out _ _ SL.out).mono ?_; rintro e w9 ⟨v1, rfl, hr1, hb1⟩; replace qx0 := cell_keep qx0 hb1; replace qx1 := cell_keep qx1 hb1; replace SL := Lib.hid (SL.out.below hb1); replace BB := Lib.hid (below_step BB.out hb1); obtain ⟨aA, cA, rfl, hd⟩ := hr1.slice HNA.out; have SA := Lib.hid hd; clear hr1 hd hb1 KADD)
          go_upto_region 7 with (go_at_call 27; refine (KBI.out _ _ SA.out).mono ?_; rintro e w9 ⟨rfl, hb1⟩; replace qx0 := cell_keep qx0 hb1; replace qx1 := cell_keep qx1 hb1; replace SL := Lib.hid (SL.out.below hb1); replace SA := Lib.hid (SA.out.below hb1); replace BB := Lib.hid (below_step BB.out hb1); clear hb1)
          go_upto_region 8 with (go_at_call 25; refine (KALA.out _ _ SA.out).mono ?_; rintro e w9 ⟨v1, rfl, hr1, hb1⟩; replace qx0 := cell_keep qx0 hb1; replace qx1 := cell_keep qx1 hb1; replace SL := Lib.hid (SL.out.below hb1); replace SA := Lib.hid (SA.out.below hb1); replace BB := Lib.hid (below_step BB.out hb1); obtain ⟨aS, cS, rfl, hd⟩ := ndsO hr1; rw [HNSA.out] at hd ⊢; have SS := Lib.hid hd; clear hr1 hd hb1 KALA)
          go_upto_region 10 with (go_at_call 19; refine (refnhas_any _ _ q1 bi _ SS.out).mono ?_; rintro e w9 ⟨rfl, hb1⟩; rw [HHI.out]; replace qx0 := cell_keep qx0 hb1; replace qx1 := cell_keep qx1 hb1; replace SL := Lib.hid (SL.out.below hb1); replace SA := Lib.hid (SA.out.below hb1); replace SS := Lib.hid (SS.out.below hb1); replace BB := Lib.hid (below_step BB.out hb1); clear hb1)
          obtain ⟨w7, hw7⟩ : ∃ v, v = w9 := ⟨_, rfl⟩
          subst hw7
          clear KBE KBI KCH KMN
          go_wp2
          go_loopw [13] (fun i wr => ∃ k : Nat, k ≤ nA ∧ i = .int .i64 k ∧ Hid (Below w7.heap.size w7 wr)) (fun i _ => nA - (intOf i).toNat)
          case atStart => exact ⟨0, Nat.zero_le _, rfl, Lib.hid (Below.refl _ _)⟩
          case round =>
            obtain ⟨k, hk, rfl, HB⟩ := hrel
            by_cases hlt : k < nA
            · have hkl : k < sA.length := by rw [HNSA.out]; exact hlt
              obtain ⟨bs, os, rfl, -, hc0, hc1⟩ := (SS.out.below HB.out).at k hkl
              have g0 := cell_keep qx0 HB.out
              have hm := gd_in (z := ([], [])) hkl
              have hmt := HMX.out _ hm
              have hsy := (HZA.out _ hm).2
              have hoy := (okN_parts (HOA.out _ hm)).2
              obtain ⟨y, hy⟩ : ∃ y, y = sA.getD k ([], []) := ⟨_, rfl⟩
              rw [← hy] at hc0 hc1 hmt hsy hoy
              obtain ⟨y1, y2⟩ := y
              simp only at hc0 hc1 hmt hsy hoy
              have hkb : (k : Int) < (nA : Int) := by omega
              clear hy hm
              go_upto_region 13 with fail
              by_cases hpq2 : y1 = q1
              · have hpy : decide (y1 = q1) = true := decide_eq_true hpq2
                have hgt : decide (0 < cmpT y2 bi) = false := decide_eq_false (by have := hmt hpq2; omega)
                refine rol_run (by kernel_rfl) [[], [], [0, 1], [0, 1, 2], [0, 1, 2, 3], [], [5], [0, 1, 2, 3, 4, 5, 6], [0, 1, 2, 3, 4, 5, 6, 7], [0, 1, 2, 3, 4, 5, 6, 7, 8], [0, 1, 2, 3, 4, 5, 6, 7, 8], [0, 1, 2, 3, 4, 5, 6, 7, 8, 9, 10], [0, 1, 2, 3, 4, 5, 6, 7, 8, 9, 10, 11], [0, 1, 2, 3, 4, 5, 6, 7, 8, 9, 10, 11, 12], [0, 1, 2, 3, 4, 5, 6, 7, 8], [0, 1, 2, 3, 4, 5, 6, 7, 8, 9, 10, 11, 12, 13, 14], [0, 1, 2, 3, 4, 5, 6, 7, 8, 9, 10, 11, 12, 13, 14, 15], [0, 1, 2, 3, 4, 5, 6, 7, 8, 9, 10, 11, 12, 13, 14, 15, 16]] (by kernel_rfl) [85, 86, 87, 88, 89, 90, 91, 92, 93, 94, 95, 96, 97, 98, 99, 100, 101, 102] [[], [], [0, 1], [2], [3], [], [5], [4, 6], [7], [8], [8], [8, 9, 10], [8, 11], [8, 12], [8], [8, 13, 14], [8, 15], [8, 16]] [0, 0, 0, 0, 0, 0, 0, 0, 0, 0, 0, 0, 0, 0, 0, 0, 0, 0] [0, 0, 0, 0, 0, 0, 0, 0, 0, 0, 0, 0, 0, 0, 0, 0, 0, 0] [1000, 1000, 1000, 1000, 1000, 1000, 1000, 1000, 1000, 1000, 1000, 1000, 1000, 1000, 1000, 1000, 1000, 1000] [.val 85 (.slice (some ⟨bs, os, none⟩) nA cS), .val 86 (.int .i64 (k : Int)), .val 87 (.pointer (some ⟨bs, os + k * 2, none⟩)), .val 88 (.pointer (some ⟨bs, os + k * 2, none⟩)), .val 89 (.string (mkB y1)), .val 90 (.pointer (some ⟨gq, 0, none⟩)), .val 91 (.string (mkB q1)), .val 92 (.bool true), .val 93 (.bool true), .val 94 (.slice (some ⟨bs, os, none⟩) nA cS), .val 95 (.int .i64 (k : Int)), .val 96 (.pointer (some ⟨bs, os + k * 2, none⟩)), .val 97 (.pointer (some ⟨bs, os + k * 2 + 1, none⟩)), .val 98 (.string (mkB y2)), .val 99 (.string (mkB bi)), .val 100 (.int .i64 (cmpT y2 bi)), .val 101 (.bool false), .val 102 (.bool false)] (by kernel_rfl) ?_ (wr.heap.size) (wr.heap.size) rfl (Below.refl _ _) rfl (fun _ => 0) ?_ ?_ ?_
                · intro j hj
                  have hj3 : j < 18 := hj
                  have hj2 : j = 0 ∨ j = 1 ∨ j = 2 ∨ j = 3 ∨ j = 4 ∨ j = 5 ∨ j = 6 ∨ j = 7 ∨ j = 8 ∨ j = 9 ∨ j = 10 ∨ j = 11 ∨ j = 12 ∨ j = 13 ∨ j = 14 ∨ j = 15 ∨ j = 16 ∨ j = 17 := by omega
                  clear hj hj3
                  rcases hj2 with rfl | rfl | rfl | rfl | rfl | rfl | rfl | rfl | rfl | rfl | rfl | rfl | rfl | rfl | rfl | rfl | rfl | rfl
                  · exact trivial
                  · exact trivial
                  · exact trivial
                  · exact trivial
                  · exact trivial
                  · exact trivial
                  · exact trivial
                  · exact trivial
                  · exact trivial
                  · exact trivial
                  · exact trivial
                  · exact trivial
                  · exact trivial
                  · exact trivial
                  · exact trivial
                  · exact trivial
                  · exact trivial
                  · exact trivial
                · intro j hj0 hj
                  exact absurd hj (Nat.not_lt.2 hj0)
                · intro i hi a wx who hG hF
                  have hz : a.tmps.size = 168 := hG.size
                  have hi3 : i < 18 := hi
                  have hi2 : i = 0 ∨ i = 1 ∨ i = 2 ∨ i = 3 ∨ i = 4 ∨ i = 5 ∨ i = 6 ∨ i = 7 ∨ i = 8 ∨ i = 9 ∨ i = 10 ∨ i = 11 ∨ i = 12 ∨ i = 13 ∨ i = 14 ∨ i = 15 ∨ i = 16 ∨ i = 17 := by omega
                  clear hi hi3
                  rcases hi2 with rfl | rfl | rfl | rfl | rfl | rfl | rfl | rfl | rfl | rfl | rfl | rfl | rfl | rfl | rfl | rfl | rfl | rfl
                  · exact rol_val rfl rfl rfl (by rw [hz]; decide) (ex_move (Or.inl rfl) (eval_slot ((hG.slots 11 (by decide)).trans rfl))) hG.below
                  · exact rol_val rfl rfl rfl (by rw [hz]; decide) (ex_move (Or.inl rfl) (eval_slot ((hG.slots 13 (by decide)).trans rfl))) hG.below
                  · exact rol_val rfl rfl rfl (by rw [hz]; decide) (ex_index rfl (eval_slot (hF 0 (by decide))) (eval_slot (hF 1 (by decide))) (idx_nds hlt)) hG.below
                  · exact rol_val rfl rfl rfl (by rw [hz]; decide) (ex_field rfl (eval_slot (hF 2 (by decide))) (by go_simp)) hG.below
                  · exact rol_val rfl rfl rfl (by rw [hz]; decide) (ex_load rfl (eval_slot (hF 3 (by decide))) (ld_strT (cell_keep hc0 hG.below))) hG.below
                  · exact rol_val rfl rfl rfl (by rw [hz]; decide) (ex_field rfl (eval_slot ((hG.slots 3 (by decide)).trans rfl)) (by go_simp)) hG.below
                  · exact rol_val rfl rfl rfl (by rw [hz]; decide) (ex_load rfl (eval_slot (hF 5 (by decide))) (ld_strT (cell_keep g0 hG.below))) hG.below
                  · exact rol_val rfl rfl rfl (by rw [hz]; decide) (ex_bin rfl (eval_slot (hF 4 (by decide))) (eval_slot (hF 6 (by decide))) (by go_simp) (bin_eqlT hpy)) hG.below
                  · exact rol_val rfl rfl rfl (by rw [hz]; decide) (ex_move (Or.inl rfl) (eval_slot (hF 7 (by decide)))) hG.below
                  · exact rol_val rfl (want_yes rfl rfl (hF 8 (by decide))) rfl (by rw [hz]; decide) (ex_move (Or.inl rfl) (eval_slot ((hG.slots 11 (by decide)).trans rfl))) hG.below
                  · exact rol_val rfl (want_yes rfl rfl (hF 8 (by decide))) rfl (by rw [hz]; decide) (ex_move (Or.inl rfl) (eval_slot ((hG.slots 13 (by decide)).trans rfl))) hG.below
                  · exact rol_val rfl (want_yes rfl rfl (hF 8 (by decide))) rfl (by rw [hz]; decide) (ex_index rfl (eval_slot (hF 9 (by decide))) (eval_slot (hF 10 (by decide))) (idx_nds hlt)) hG.below
                  · exact rol_val rfl (want_yes rfl rfl (hF 8 (by decide))) rfl (by rw [hz]; decide) (ex_field rfl (eval_slot (hF 11 (by decide))) (by go_simp)) hG.below
                  · exact rol_val rfl (want_yes rfl rfl (hF 8 (by decide))) rfl (by rw [hz]; decide) (ex_load rfl (eval_slot (hF 12 (by decide))) (ld_strT (cell_keep hc1 hG.below))) hG.below
                  · exact rol_val rfl (want_yes rfl rfl (hF 8 (by decide))) rfl (by rw [hz]; decide) (ex_move (Or.inl rfl) (eval_slot ((hG.slots 9 (by decide)).trans rfl))) hG.below
                  · refine rol_calls rfl (want_yes rfl rfl (hF 8 (by decide))) rfl (by rw [hz]; decide) (ex_call rfl (by simp [eval_slot (hF 13 (by decide)), eval_slot (hF 14 (by decide))]) e3) (refvcmp_l y2 bi wx hsy hsi hoy HOI.out) ?_ hG.below hG.new
                    rintro e w1 ⟨rfl, hb1⟩
                    exact ⟨_, rfl, hb1, .inl rfl⟩
                  · exact rol_val rfl (want_yes rfl rfl (hF 8 (by decide))) rfl (by rw [hz]; decide) (ex_bin rfl (eval_slot (hF 15 (by decide))) rfl (by go_simp) (gt_zeroT hgt)) hG.below
                  · exact rol_val rfl rfl rfl (by rw [hz]; decide) (ex_pick_yes rfl (eval_slot (hF 8 (by decide))) (eval_slot (hF 16 (by decide)))) hG.below
                · intro a wx who hG hF
                  have fv102 : a.tmps.getD 102 undef = .bool false := eval_slot (s := 102) (hF 17 (of_decide_eq_true (by kernel_rfl)) (of_decide_eq_true (by kernel_rfl)))
                  have hbx := hG.below
                  have hnx := hG.new
                  rw [hG.frame]
                  simp only [List.foldl_cons, List.foldl_nil, List.setIfInBounds_toArray, List.set_cons_zero, List.set_cons_succ]
                  generalize a.tmps.getD 85 undef = u85
                  generalize a.tmps.getD 86 undef = u86
                  generalize a.tmps.getD 87 undef = u87
                  generalize a.tmps.getD 88 undef = u88
                  generalize a.tmps.getD 89 undef = u89
                  generalize a.tmps.getD 90 undef = u90
                  generalize a.tmps.getD 91 undef = u91
                  generalize a.tmps.getD 92 undef = u92
                  generalize a.tmps.getD 93 undef = u93
                  generalize a.tmps.getD 94 undef = u94
                  generalize a.tmps.getD 95 undef = u95
                  generalize a.tmps.getD 96 undef = u96
                  generalize a.tmps.getD 97 undef = u97
                  generalize a.tmps.getD 98 undef = u98
                  generalize a.tmps.getD 99 undef = u99
                  generalize a.tmps.getD 100 undef = u100
                  generalize a.tmps.getD 101 undef = u101
                  rw [fv102]
                  clear hF hG fv102
                  replace HB := Lib.hid (below_step HB.out hbx)
                  clear hbx hnx hpy hgt hpq2 hmt hsy hoy hc0 hc1 g0
                  go_wp2
                  go_roundw
                  case rel => exact ⟨k + 1, by omega, by go_num, HB⟩
                  case measure => simp [intOf]; omega
              · have hpy : decide (y1 = q1) = false := decide_eq_false hpq2
                refine rol_run (by kernel_rfl) [[], [], [0, 1], [0, 1, 2], [0, 1, 2, 3], [], [5], [0, 1, 2, 3, 4, 5, 6], [0, 1, 2, 3, 4, 5, 6, 7], [0, 1, 2, 3, 4, 5, 6, 7, 8], [0, 1, 2, 3, 4, 5, 6, 7, 8], [0, 1, 2, 3, 4, 5, 6, 7, 8, 9, 10], [0, 1, 2, 3, 4, 5, 6, 7, 8, 9, 10, 11], [0, 1, 2, 3, 4, 5, 6, 7, 8, 9, 10, 11, 12], [0, 1, 2, 3, 4, 5, 6, 7, 8], [0, 1, 2, 3, 4, 5, 6, 7, 8, 9, 10, 11, 12, 13, 14], [0, 1, 2, 3, 4, 5, 6, 7, 8, 9, 10, 11, 12, 13, 14, 15], [0, 1, 2, 3, 4, 5, 6, 7, 8, 9, 10, 11, 12, 13, 14, 15, 16]] (by kernel_rfl) [85, 86, 87, 88, 89, 90, 91, 92, 93, 94, 95, 96, 97, 98, 99, 100, 101, 102] [[], [], [0, 1], [2], [3], [], [5], [4, 6], [7], [8], [8], [8], [8], [8], [8], [8], [8], [8]] [0, 0, 0, 0, 0, 0, 0, 0, 0, 0, 0, 0, 0, 0, 0, 0, 0, 0] [0, 0, 0, 0, 0, 0, 0, 0, 0, 0, 0, 0, 0, 0, 0, 0, 0, 0] [1000, 1000, 1000, 1000, 1000, 1000, 1000, 1000, 1000, 1000, 1000, 1000, 1000, 1000, 1000, 1000, 1000, 1000] [.val 85 (.slice (some ⟨bs, os, none⟩) nA cS), .val 86 (.int .i64 (k : Int)), .val 87 (.pointer (some ⟨bs, os + k * 2, none⟩)), .val 88 (.pointer (some ⟨bs, os + k * 2, none⟩)), .val 89 (.string (mkB y1)), .val 90 (.pointer (some ⟨gq, 0, none⟩)), .val 91 (.string (mkB q1)), .val 92 (.bool false), .val 93 (.bool false), .val 94 undef, .val 95 undef, .val 96 undef, .val 97 undef, .val 98 undef, .val 99 undef, .val 100 undef, .val 101 undef, .val 102 (.bool false)] (by kernel_rfl) ?_ (wr.heap.size) (wr.heap.size) rfl (Below.refl _ _) rfl (fun _ => 0) ?_ ?_ ?_
                · intro j hj
                  have hj3 : j < 18 := hj
                  have hj2 : j = 0 ∨ j = 1 ∨ j = 2 ∨ j = 3 ∨ j = 4 ∨ j = 5 ∨ j = 6 ∨ j = 7 ∨ j = 8 ∨ j = 9 ∨ j = 10 ∨ j = 11 ∨ j = 12 ∨ j = 13 ∨ j = 14 ∨ j = 15 ∨ j = 16 ∨ j = 17 := by omega
                  clear hj hj3
                  rcases hj2 with rfl | rfl | rfl | rfl | rfl | rfl | rfl | rfl | rfl | rfl | rfl | rfl | rfl | rfl | rfl | rfl | rfl | rfl
                  · exact trivial
                  · exact trivial
                  · exact trivial
                  · exact trivial
                  · exact trivial
                  · exact trivial
                  · exact trivial
                  · exact trivial
                  · exact trivial
                  · exact trivial
                  · exact trivial
                  · exact trivial
                  · exact trivial
                  · exact trivial
                  · exact trivial
                  · exact trivial
                  · exact trivial
                  · exact trivial
                · intro j hj0 hj
                  exact absurd hj (Nat.not_lt.2 hj0)
                · intro i hi a wx who hG hF
                  have hz : a.tmps.size = 168 := hG.size
                  have hi3 : i < 18 := hi
                  have hi2 : i = 0 ∨ i = 1 ∨ i = 2 ∨ i = 3 ∨ i = 4 ∨ i = 5 ∨ i = 6 ∨ i = 7 ∨ i = 8 ∨ i = 9 ∨ i = 10 ∨ i = 11 ∨ i = 12 ∨ i = 13 ∨ i = 14 ∨ i = 15 ∨ i = 16 ∨ i = 17 := by omega
                  clear hi hi3
                  rcases hi2 with rfl | rfl | rfl | rfl | rfl | rfl | rfl | rfl | rfl | rfl | rfl | rfl | rfl | rfl | rfl | rfl | rfl | rfl
                  · exact rol_val rfl rfl rfl (by rw [hz]; decide) (ex_move (Or.inl rfl) (eval_slot ((hG.slots 11 (by decide)).trans rfl))) hG.below
                  · exact rol_val rfl rfl rfl (by rw [hz]; decide) (ex_move (Or.inl rfl) (eval_slot ((hG.slots 13 (by decide)).trans rfl))) hG.below
                  · exact rol_val rfl rfl rfl (by rw [hz]; decide) (ex_index rfl (eval_slot (hF 0 (by decide))) (eval_slot (hF 1 (by decide))) (idx_nds hlt)) hG.below
                  · exact rol_val rfl rfl rfl (by rw [hz]; decide) (ex_field rfl (eval_slot (hF 2 (by decide))) (by go_simp)) hG.below
                  · exact rol_val rfl rfl rfl (by rw [hz]; decide) (ex_load rfl (eval_slot (hF 3 (by decide))) (ld_strT (cell_keep hc0 hG.below))) hG.below
                  · exact rol_val rfl rfl rfl (by rw [hz]; decide) (ex_field rfl (eval_slot ((hG.slots 3 (by decide)).trans rfl)) (by go_simp)) hG.below
                  · exact rol_val rfl rfl rfl (by rw [hz]; decide) (ex_load rfl (eval_slot (hF 5 (by decide))) (ld_strT (cell_keep g0 hG.below))) hG.below
                  · exact rol_val rfl rfl rfl (by rw [hz]; decide) (ex_bin rfl (eval_slot (hF 4 (by decide))) (eval_slot (hF 6 (by decide))) (by go_simp) (bin_eqlT hpy)) hG.below
                  · exact rol_val rfl rfl rfl (by rw [hz]; decide) (ex_move (Or.inl rfl) (eval_slot (hF 7 (by decide)))) hG.below
                  · exact rol_val_skip rfl (want_no rfl rfl (hF 8 (by decide)) (by decide)) rfl (by rw [hz]; decide) hG.below
                  · exact rol_val_skip rfl (want_no rfl rfl (hF 8 (by decide)) (by decide)) rfl (by rw [hz]; decide) hG.below
                  · exact rol_val_skip rfl (want_no rfl rfl (hF 8 (by decide)) (by decide)) rfl (by rw [hz]; decide) hG.below
                  · exact rol_val_skip rfl (want_no rfl rfl (hF 8 (by decide)) (by decide)) rfl (by rw [hz]; decide) hG.below
                  · exact rol_val_skip rfl (want_no rfl rfl (hF 8 (by decide)) (by decide)) rfl (by rw [hz]; decide) hG.below
                  · exact rol_val_skip rfl (want_no rfl rfl (hF 8 (by decide)) (by decide)) rfl (by rw [hz]; decide) hG.below
                  · exact rol_val_skip rfl (want_no rfl rfl (hF 8 (by decide)) (by decide)) rfl (by rw [hz]; decide) hG.below
                  · exact rol_val_skip rfl (want_no rfl rfl (hF 8 (by decide)) (by decide)) rfl (by rw [hz]; decide) hG.below
                  · exact rol_val rfl rfl rfl (by rw [hz]; decide) (ex_pick_no rfl (eval_slot (hF 8 (by decide))) rfl) hG.below
                · intro a wx who hG hF
                  have fv102 : a.tmps.getD 102 undef = .bool false := eval_slot (s := 102) (hF 17 (of_decide_eq_true (by kernel_rfl)) (of_decide_eq_true (by kernel_rfl)))
                  have hbx := hG.below
                  have hnx := hG.new
                  rw [hG.frame]
                  simp only [List.foldl_cons, List.foldl_nil, List.setIfInBounds_toArray, List.set_cons_zero, List.set_cons_succ]
                  generalize a.tmps.getD 85 undef = u85
                  generalize a.tmps.getD 86 undef = u86
                  generalize a.tmps.getD 87 undef = u87
                  generalize a.tmps.getD 88 undef = u88
                  generalize a.tmps.getD 89 undef = u89
                  generalize a.tmps.getD 90 undef = u90
                  generalize a.tmps.getD 91 undef = u91
                  generalize a.tmps.getD 92 undef = u92
                  generalize a.tmps.getD 93 undef = u93
                  generalize a.tmps.getD 94 undef = u94
                  generalize a.tmps.getD 95 undef = u95
                  generalize a.tmps.getD 96 undef = u96
                  generalize a.tmps.getD 97 undef = u97
                  generalize a.tmps.getD 98 undef = u98
                  generalize a.tmps.getD 99 undef = u99
                  generalize a.tmps.getD 100 undef = u100
                  generalize a.tmps.getD 101 undef = u101
                  rw [fv102]
                  clear hF hG fv102
                  replace HB := Lib.hid (below_step HB.out hbx)
                  clear hbx hnx hpy hpq2 hmt hsy hoy hc0 hc1 g0
                  go_wp2
                  go_roundw
                  case rel => exact ⟨k + 1, by omega, by go_num, HB⟩
                  case measure => simp [intOf]; omega
            · have e : nA = k := by omega
              subst e
              replace qx0 := cell_keep qx0 HB.out; replace qx1 := cell_keep qx1 HB.out; replace SL := Lib.hid (SL.out.below HB.out); replace SA := Lib.hid (SA.out.below HB.out); replace SS := Lib.hid (SS.out.below HB.out); replace BB := Lib.hid (below_step BB.out HB.out)
              clear HB hlt hk SS
              obtain ⟨w9, hw9⟩ : ∃ v, v = wr := ⟨_, rfl⟩
              subst hw9
              go_upto_region 15 with fail
              refine rol_run (by kernel_rfl) [[], [0], [0, 1], [0, 1, 2], [0, 1, 2], [0, 1, 2, 4], [0, 1, 2, 3, 4, 5], [0, 1, 2], [0, 1, 2, 7], [0, 1, 2], [0, 1, 2, 7, 8, 9], [0, 1, 2, 7, 8, 9, 10], [0, 1, 2, 3, 4, 5, 6, 7, 8, 9, 10, 11], [0, 1, 2, 3, 4, 5, 6, 7, 8, 9, 10, 11, 12], [0, 1, 2, 3, 4, 5, 6, 7, 8, 9, 10, 11, 12, 13], [0, 1, 2, 3, 4, 5, 6, 7, 8, 9, 10, 11, 12, 13, 14], [0, 1, 2, 3, 4, 5, 6, 7, 8, 9, 10, 11, 12, 13, 14, 15], [0, 1, 2, 3, 4, 5, 6, 7, 8, 9, 10, 11, 12, 13, 14, 15, 16], [0, 1, 2, 3, 4, 5, 6, 7, 8, 9, 10, 11, 12, 13, 14, 15, 16, 17], [0, 1, 2, 3, 4, 5, 6, 7, 8, 9, 10, 11, 12, 13, 14, 15, 16, 17, 18], [0, 1, 2, 3, 4, 5, 6, 7, 8, 9, 10, 11, 12, 13, 14, 15, 16, 17, 18, 19], [0, 1, 2, 3, 4, 5, 6, 7, 8, 9, 10, 11, 12, 13, 14, 15, 16, 17, 18, 19, 20], [0, 1, 2, 3, 4, 5, 6, 7, 8, 9, 10, 11, 12, 13, 14, 15, 16, 17, 18, 19, 20], [0, 1, 2, 3, 4, 5, 6, 7, 8, 9, 10, 11, 12, 13, 14, 15, 16, 17, 18, 19, 20, 22], [0, 1, 2, 3, 4, 5, 6, 7, 8, 9, 10, 11, 12, 13, 14, 15, 16, 17, 18, 19, 20, 21, 22, 23], [0, 1, 2, 3, 4, 5, 6, 7, 8, 9, 10, 11, 12, 13, 14, 15, 16, 17, 18, 19, 20, 21, 22, 23, 24], [0, 1, 2, 3, 4, 5, 6, 7, 8, 9, 10, 11, 12, 13, 14, 15, 16, 17, 18, 19, 20, 21, 22, 23, 24, 25], [0, 1, 2, 3, 4, 5, 6, 7, 8, 9, 10, 11, 12, 13, 14, 15, 16, 17, 18, 19, 20, 21, 22, 23, 24, 25, 26]] (by kernel_rfl) [103, 104, 105, 106, 107, 108, 109, 110, 111, 112, 113, 114, 115, 116, 117, 118, 119, 120, 121, 122, 123, 124, 125, 126, 127, 128, 129, 130] [[], [0], [1], [2], [2], [2, 4], [2, 3, 5], [2], [2, 7], [2], [2, 8, 9], [2, 10], [2, 6, 11], [2, 12], [13], [14], [14, 15], [14, 16], [17], [17], [17], [20], [20], [20], [20], [17], [14, 17], [14, 26]] [0, 0, 0, 0, 0, 0, 0, 0, 0, 0, 0, 0, 0, 0, 0, 0, 0, 0, 0, 0, 0, 0, 0, 0, 0, 0, 0, 0] [0, 0, 0, 0, 0, 0, 0, 0, 0, 0, 0, 0, 0, 0, 0, 0, 0, 0, 0, 0, 0, 0, 0, 0, 0, 0, 0, 0] [1000, 1000, 1000, 1000, 1000, 1000, 1000, 1000, 1000, 1000, 1000, 1000, 1000, 1000, 1000, 1000, 1000, 1000, 1000, 1000, 1000, 1000, 1000, 1000, 1000, 1000, 1000, 1000] [.val 103 (.int .i64 0), .val 104 (.bool true), .val 105 (.bool true), .val 106 (.string (mkB bi)), .val 107 (.pointer (some ⟨gq, 1, none⟩)), .val 108 (.string (mkB q2)), .val 109 (.bool z), .val 110 (.pointer (some ⟨gq, 1, none⟩)), .val 111 (.string (mkB q2)), .val 112 (.string (mkB bw)), .val 113 (.int .i64 (cmpT q2 bw)), .val 114 (.bool z), .val 115 (.bool false), .val 116 (.bool false), .val 117 (.bool false), .val 118 (.int .i64 0), .val 119 (.bool false), .val 120 (.bool false), .val 121 undef, .val 122 undef, .val 123 undef, .val 124 undef, .val 125 undef, .val 126 undef, .val 127 undef, .val 128 undef, .val 129 (.bool false), .val 130 (.bool false)] (by kernel_rfl) ?_ (w9.heap.size) (w9.heap.size) rfl (Below.refl _ _) rfl (fun _ => 0) ?_ ?_ ?_
              · intro j hj
                have hj3 : j < 28 := hj
                have hj2 : j = 0 ∨ j = 1 ∨ j = 2 ∨ j = 3 ∨ j = 4 ∨ j = 5 ∨ j = 6 ∨ j = 7 ∨ j = 8 ∨ j = 9 ∨ j = 10 ∨ j = 11 ∨ j = 12 ∨ j = 13 ∨ j = 14 ∨ j = 15 ∨ j = 16 ∨ j = 17 ∨ j = 18 ∨ j = 19 ∨ j = 20 ∨ j = 21 ∨ j = 22 ∨ j = 23 ∨ j = 24 ∨ j = 25 ∨ j = 26 ∨ j = 27 := by omega
                clear hj hj3
                rcases hj2 with rfl | rfl | rfl | rfl | rfl | rfl | rfl | rfl | rfl | rfl | rfl | rfl | rfl | rfl | rfl | rfl | rfl | rfl | rfl | rfl | rfl | rfl | rfl | rfl | rfl | rfl | rfl | rfl
                · exact trivial
                · exact trivial
                · exact trivial
                · exact trivial
                · exact trivial
                · exact trivial
                · exact trivial
                · exact trivial
                · exact trivial
                · exact trivial
                · exact trivial
                · exact trivial
                · exact trivial
                · exact trivial
                · exact trivial
                · exact trivial
                · exact trivial
                · exact trivial
                · exact trivial
                · exact trivial
                · exact trivial
                · exact trivial
                · exact trivial
                · exact trivial
                · exact trivial
                · exact trivial
                · exact trivial
                · exact trivial
              · intro j hj0 hj
                exact absurd hj (Nat.not_lt.2 hj0)
              · intro i hi a wx who hG hF
                have hz : a.tmps.size = 168 := hG.size
                have hi3 : i < 28 := hi
                have hi2 : i = 0 ∨ i = 1 ∨ i = 2 ∨ i = 3 ∨ i = 4 ∨ i = 5 ∨ i = 6 ∨ i = 7 ∨ i = 8 ∨ i = 9 ∨ i = 10 ∨ i = 11 ∨ i = 12 ∨ i = 13 ∨ i = 14 ∨ i = 15 ∨ i = 16 ∨ i = 17 ∨ i = 18 ∨ i = 19 ∨ i = 20 ∨ i = 21 ∨ i = 22 ∨ i = 23 ∨ i = 24 ∨ i = 25 ∨ i = 26 ∨ i = 27 := by omega
                clear hi hi3
                rcases hi2 with rfl | rfl | rfl | rfl | rfl | rfl | rfl | rfl | rfl | rfl | rfl | rfl | rfl | rfl | rfl | rfl | rfl | rfl | rfl | rfl | rfl | rfl | rfl | rfl | rfl | rfl | rfl | rfl
                · exact rol_val rfl rfl rfl (by rw [hz]; decide) (ex_move (Or.inl rfl) (eval_slot ((hG.slots 6 (by decide)).trans rfl))) hG.below
                · exact rol_val rfl rfl rfl (by rw [hz]; decide) (ex_bin rfl (eval_slot (hF 0 (by decide))) rfl (by go_simp) en_eql00) hG.below
                · exact rol_val rfl rfl rfl (by rw [hz]; decide) (ex_move (Or.inl rfl) (eval_slot (hF 1 (by decide)))) hG.below
                · exact rol_val rfl (want_yes rfl rfl (hF 2 (by decide))) rfl (by rw [hz]; decide) (ex_move (Or.inl rfl) (eval_slot ((hG.slots 9 (by decide)).trans rfl))) hG.below
                · exact rol_val rfl (want_yes rfl rfl (hF 2 (by decide))) rfl (by rw [hz]; decide) (ex_field rfl (eval_slot ((hG.slots 3 (by decide)).trans rfl)) (by go_simp)) hG.below
                · exact rol_val rfl (want_yes rfl rfl (hF 2 (by decide))) rfl (by rw [hz]; decide) (ex_load rfl (eval_slot (hF 4 (by decide))) (ld_strT (cell_keep qx1 hG.below))) hG.below
                · exact rol_val rfl (want_yes rfl rfl (hF 2 (by decide))) rfl (by rw [hz]; decide) (ex_bin rfl (eval_slot (hF 3 (by decide))) (eval_slot (hF 5 (by decide))) (by go_simp) (bin_eqlT HZ1.out)) hG.below
                · exact rol_val rfl (want_yes rfl rfl (hF 2 (by decide))) rfl (by rw [hz]; decide) (ex_field rfl (eval_slot ((hG.slots 3 (by decide)).trans rfl)) (by go_simp)) hG.below
                · exact rol_val rfl (want_yes rfl rfl (hF 2 (by decide))) rfl (by rw [hz]; decide) (ex_load rfl (eval_slot (hF 7 (by decide))) (ld_strT (cell_keep qx1 hG.below))) hG.below
                · exact rol_val rfl (want_yes rfl rfl (hF 2 (by decide))) rfl (by rw [hz]; decide) (ex_move (Or.inl rfl) (eval_slot ((hG.slots 5 (by decide)).trans rfl))) hG.below
                · refine rol_calls rfl (want_yes rfl rfl (hF 2 (by decide))) rfl (by rw [hz]; decide) (ex_call rfl (by simp [eval_slot (hF 8 (by decide)), eval_slot (hF 9 (by decide))]) e3) (refvcmp_l q2 bw wx HSQ.out.2 hsw hvq HOW.out) ?_ hG.below hG.new
                  rintro e w1 ⟨rfl, hb1⟩
                  exact ⟨_, rfl, hb1, .inl rfl⟩
                · exact rol_val rfl (want_yes rfl rfl (hF 2 (by decide))) rfl (by rw [hz]; decide) (ex_bin rfl (eval_slot (hF 10 (by decide))) rfl (by go_simp) (ge_zeroT HZ2.out)) hG.below
                · exact rol_val rfl (want_yes rfl rfl (hF 2 (by decide))) rfl (by rw [hz]; decide) (ex_bin rfl (eval_slot (hF 6 (by decide))) (eval_slot (hF 11 (by decide))) (by go_simp) neq_boolT) hG.below
                · exact rol_val rfl rfl rfl (by rw [hz]; decide) (ex_pick_yes rfl (eval_slot (hF 2 (by decide))) (eval_slot (hF 12 (by decide)))) hG.below
                · exact rol_val rfl rfl rfl (by rw [hz]; decide) (ex_move (Or.inl rfl) (eval_slot (hF 13 (by decide)))) hG.below
                · exact rol_val rfl (want_yes rfl rfl (hF 14 (by decide))) rfl (by rw [hz]; decide) (ex_move (Or.inl rfl) (eval_slot ((hG.slots 6 (by decide)).trans rfl))) hG.below
                · exact rol_val rfl (want_yes rfl rfl (hF 14 (by decide))) rfl (by rw [hz]; decide) (ex_bin rfl (eval_slot (hF 15 (by decide))) rfl (by go_simp) en_neq00) hG.below
                · exact rol_val rfl (want_yes rfl rfl (hF 14 (by decide))) rfl (by rw [hz]; decide) (ex_move (Or.inl rfl) (eval_slot (hF 16 (by decide)))) hG.below
                · exact rol_val_skip rfl (want_no rfl rfl (hF 17 (by decide)) (by decide)) rfl (by rw [hz]; decide) hG.below
                · exact rol_val_skip rfl (want_no rfl rfl (hF 17 (by decide)) (by decide)) rfl (by rw [hz]; decide) hG.below
                · exact rol_val_skip rfl (want_no rfl rfl (hF 17 (by decide)) (by decide)) rfl (by rw [hz]; decide) hG.below
                · exact rol_val_skip rfl (want_undef rfl rfl (hF 20 (by decide))) rfl (by rw [hz]; decide) hG.below
                · exact rol_val_skip rfl (want_undef rfl rfl (hF 20 (by decide))) rfl (by rw [hz]; decide) hG.below
                · exact rol_val_skip rfl (want_undef rfl rfl (hF 20 (by decide))) rfl (by rw [hz]; decide) hG.below
                · exact rol_val_skip rfl (want_undef rfl rfl (hF 20 (by decide))) rfl (by rw [hz]; decide) hG.below
                · exact rol_val_skip rfl (want_no rfl rfl (hF 17 (by decide)) (by decide)) rfl (by rw [hz]; decide) hG.below
                · exact rol_val rfl (want_yes rfl rfl (hF 14 (by decide))) rfl (by rw [hz]; decide) (ex_pick_no rfl (eval_slot (hF 17 (by decide))) rfl) hG.below
                · exact rol_val rfl rfl rfl (by rw [hz]; decide) (ex_pick_no rfl (eval_slot (hF 14 (by decide))) (eval_slot (hF 26 (by decide)))) hG.below
              · intro a wx who hG hF
                have fv130 : a.tmps.getD 130 undef = .bool false := eval_slot (s := 130) (hF 27 (of_decide_eq_true (by kernel_rfl)) (of_decide_eq_true (by kernel_rfl)))
                have hbx := hG.below
                have hnx := hG.new
                rw [hG.frame]
                simp only [List.foldl_cons, List.foldl_nil, List.setIfInBounds_toArray, List.set_cons_zero, List.set_cons_succ]
                generalize a.tmps.getD 103 undef = u103
                generalize a.tmps.getD 104 undef = u104
                generalize a.tmps.getD 105 undef = u105
                generalize a.tmps.getD 106 undef = u106
                generalize a.tmps.getD 107 undef = u107
                generalize a.tmps.getD 108 undef = u108
                generalize a.tmps.getD 109 undef = u109
                generalize a.tmps.getD 110 undef = u110
                generalize a.tmps.getD 111 undef = u111
                generalize a.tmps.getD 112 undef = u112
                generalize a.tmps.getD 113 undef = u113
                generalize a.tmps.getD 114 undef = u114
                generalize a.tmps.getD 115 undef = u115
                generalize a.tmps.getD 116 undef = u116
                generalize a.tmps.getD 117 undef = u117
                generalize a.tmps.getD 118 undef = u118
                generalize a.tmps.getD 119 undef = u119
                generalize a.tmps.getD 120 undef = u120
                generalize a.tmps.getD 121 undef = u121
                generalize a.tmps.getD 122 undef = u122
                generalize a.tmps.getD 123 undef = u123
                generalize a.tmps.getD 124 undef = u124
                generalize a.tmps.getD 125 undef = u125
                generalize a.tmps.getD 126 undef = u126
                generalize a.tmps.getD 127 undef = u127
                generalize a.tmps.getD 128 undef = u128
                generalize a.tmps.getD 129 undef = u129
                rw [fv130]
                clear hF hG fv130
                replace qx0 := cell_keep qx0 hbx
                replace qx1 := cell_keep qx1 hbx
                replace SL := Lib.hid (SL.out.below hbx)
                replace SA := Lib.hid (SA.out.below hbx)
                replace BB := Lib.hid (below_step BB.out hbx)
                clear hbx hnx
                go_upto_region 18 with (go_at_call 11; refine (KDR.out _ _ SA.out).mono ?_; rintro e w9 ⟨v1, rfl, hr1, hb1⟩; replace qx0 := cell_keep qx0 hb1; replace qx1 := cell_keep qx1 hb1; replace SL := Lib.hid (SL.out.below hb1); replace SA := Lib.hid (SA.out.below hb1); replace BB := Lib.hid (below_step BB.out hb1); obtain ⟨aO, cO, rfl, hd⟩ := hr1.slice HNO.out; have SO := Lib.hid hd; clear hr1 hd hb1 KDR)
                go_upto_region 19 with (go_at_call 27; refine (KBO.out _ _ SO.out).mono ?_; rintro e w9 ⟨rfl, hb1⟩; replace qx0 := cell_keep qx0 hb1; replace qx1 := cell_keep qx1 hb1; replace SL := Lib.hid (SL.out.below hb1); replace SA := Lib.hid (SA.out.below hb1); replace SO := Lib.hid (SO.out.below hb1); replace BB := Lib.hid (below_step BB.out hb1); clear hb1)
                go_wp2_with (first
                    | (go_at_call 14; refine (tsame_any _ _ _ _ _ SO.out SL.out).mono ?_; rintro e w9 ⟨rfl, hb1⟩; rw [dec_rows]; replace qx0 := cell_keep qx0 hb1; replace qx1 := cell_keep qx1 hb1; replace SL := Lib.hid (SL.out.below hb1); replace SA := Lib.hid (SA.out.below hb1); replace SO := Lib.hid (SO.out.below hb1); replace BB := Lib.hid (below_step BB.out hb1); clear hb1)
                    | (go_at_call 17; refine (tawake_any _).mono ?_; rintro e w9 ⟨rfl, hb1⟩; replace qx0 := cell_keep qx0 hb1; replace qx1 := cell_keep qx1 hb1; replace SL := Lib.hid (SL.out.below hb1); replace SA := Lib.hid (SA.out.below hb1); replace SO := Lib.hid (SO.out.below hb1); replace BB := Lib.hid (below_step BB.out hb1); clear hb1))
                go_ret
                exact ⟨rfl, BB.out⟩

theorem own : ownKnob Tryz.prog.godebug = none := by kernel_rfl
theorem laidOut : laidOutB Tryz.prog = true := by kernel_rfl

set_option maxRecDepth 100000 in
theorem lifted (os : Os) (started : os.Started) (H : Type) (enc : TypeId × Value → H) :
    ReturnsInHanded {} Tryz.checked os 6 .any (Rows.tallyBestSpec.pre6 enc Tryz.prog Tryz.f6 Rows.tallyBestRow.domain false) (Rows.tallyBestSpec.post enc Tryz.prog Tryz.f6 false true false false) := by
  refine returnsInHanded_of_change (C := Tryz.checked) own started (by kernel_rfl) Tryz.func6
    (ChangeSpec.witness6 (enc := enc) (C := Tryz.checked) false ⟨#[], #[.slice none 0 0, .agg #[.string ByteArray.empty, .string ByteArray.empty]], []⟩ 8 (by kernel_rfl) (by kernel_rfl) (by kernel_rfl) (by kernel_rfl)) ?_
  intro W base args ds gs before hval0 hW hcnd _
  have hval : ∀ (j : Nat) t v, Tryz.f6.params[j]? = some t → args[j]? = some v → Value.okWide Tryz.prog W .any base t v := hval0
  have hW' := hW
  obtain ⟨p, q, hA0, hV, rfl, hfz, hnd⟩ := hW
  have hA : DataW.TrodAll enc Tryz.prog W 0 (fun _ => true) true Tryz.f6.params.toList args.toList ds p := hA0
  rw [Tryz.params6] at hA hval
  obtain ⟨v0, vs0, d0, ds0, p0, q0, hargs, rfl, rfl, h0, r0⟩ := trodAll_cons hA
  obtain ⟨v1, vs1, d1, ds1, p1, q1, rfl, rfl, rfl, h1, r1⟩ := trodAll_cons r0
  obtain ⟨rfl, rfl, rfl⟩ := trodAll_nil r1
  obtain rfl : args = #[v0, v1] := by cases args; simp_all
  obtain ⟨rfl, rfl⟩ := trodVars_none hV
  obtain ⟨a0, len0, cap0, rfl⟩ := okWide_slice Tryz.underlying22 (hval 0 22 v0 rfl rfl)
  have k0 := h0
  have lt0 : ∀ x ∈ p0, x.block < W.heap.size := by obtain ⟨m, hm⟩ := k0; exact DataW.trod_lt m _ _ _ hm
  obtain ⟨z0, w0⟩ : ∃ zs, Rws W (.slice a0 len0 cap0) zs ∧ fitsR zs := by
    obtain ⟨fuel, hf⟩ := h0
    exact rws_open (by simpa [Value.cells] using hf)
  have k1 := h1
  have lt1 : ∀ x ∈ p1, x.block < W.heap.size := by obtain ⟨m, hm⟩ := k1; exact DataW.trod_lt m _ _ _ hm
  obtain ⟨z1, w1⟩ := node_open (hval 1 24 v1 rfl rfl) h1
  clear hA0 hval0
  refine (walk _ z0 _ z1 W w0 w1).mono fun e W' ⟨he, bel⟩ => ?_
  subst he
  exact ⟨_, rfl, _, _, _, [], _, [], hW', trodAll_mk1 (shut_bool Tryz.underlying4 _), (trodAll_cons_mk (Below.trod laidOut (by kernel_rfl) (of_decide_eq_true (by kernel_rfl)) k0 bel lt0) (trodAll_cons_mk (Below.trod laidOut (by kernel_rfl) (of_decide_eq_true (by kernel_rfl)) k1 bel lt1) trodAll_mk0)), rfl, bel.frame _, fun h => by cases h⟩

-- the given statement
theorem proved : Rows.TallyBestSaid :=
  OpenClaim.holds_of_wide 6 Tryz.f6 rfl rfl rfl rfl rfl rfl rfl ⟨rfl, rfl, rfl, rfl, rfl⟩ rfl rfl rfl rfl rfl (by kernel_rfl) Tryz.func6 (by kernel_rfl)
    (of_decide_eq_true (by kernel_rfl)) (by unfold Func.isWrapper; first | (rw [if_pos (by decide +kernel)]; kernel_rfl) | (rw [if_neg (by decide +kernel)]; exact ⟨rfl, rfl⟩))
    (fun os started H enc _ => lifted os started H enc)
end Go.Proofs.YtnngfcjfhhfafaaGreat.tallyBest
