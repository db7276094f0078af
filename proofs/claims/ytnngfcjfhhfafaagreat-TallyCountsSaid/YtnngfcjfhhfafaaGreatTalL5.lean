/- Of every rows, every node (no more, and no longer, than are looked at): as many versions as nodes, each once; one more is one more; rows of their nodes are they; no condition. -/
import Derived.Test.YtnngfcjfhhfafaaGreatRows
import Derived.Test.YtnngfcjfhhfafaaGreatTalS
import Derived.Test.YtnngfcjfhhfafaaGreatNodQ
import Derived.Test.YtnngfcjfhhfafaaGreatNodI
import Derived.Test.YtnngfcjfhhfafaaGreatNodS
import Derived.Test.YtnngfcjfhhfafaaGreatNodP
import Derived.ProofKit
import Derived.OpenShut
import Derived.ShutString
import Derived.ChangeOld
namespace Go.Proofs.YtnngfcjfhhfafaaGreat.tallyCounts
open Go.ChangeShapes Go.WideShapes Go.ChangeAt Go.RowKit
open Go.ChangeMaps (open_string shut_string)
set_option maxRecDepth 100000
set_option linter.unusedVariables false

theorem filt_len {α : Type} {p q : α → Bool} : ∀ {l : List α}, (∀ x ∈ l, q x = !p x) → (l.filter p).length + (l.filter q).length = l.length
  | [], _ => rfl
  | x :: l, h => by
    have ih := filt_len (p := p) (q := q) (l := l) fun y hy => h y (List.mem_cons_of_mem _ hy)
    have hx := h x (List.mem_cons_self ..)
    rw [List.filter_cons, List.filter_cons, List.length_cons]
    cases hp : p x
    · rw [hp] at hx
      rw [hx]
      simp
      omega
    · rw [hp] at hx
      rw [hx]
      simp
      omega
theorem with_more {l : List Nd} {n : Nd} (hl : ∀ x ∈ l, okN x = true) (hn : okN n = true) (hm : hasN l n = false) : (withN l n).length = l.length + 1 := by
  have h := filt_len (p := fun x => ltN x n) (q := fun x => ltN n x) (l := l) fun x hx => by
    show ltN n x = !ltN x n
    rcases ltN_tri (hl x hx) hn with k | k | k
    · rw [k, ltN_asym k]; rfl
    · subst k; exact absurd hx (hasN_not.1 hm)
    · rw [k, ltN_asym k]; rfl
  unfold withN
  rw [List.length_append, List.length_cons]
  omega
theorem all_upto (l : List Rw) (k : Nat) : (rwAll (l.take k)).length ≤ (rwAll l).length := by
  have h := congrArg List.length (rwAll_app (l.take k) (l.drop k))
  rw [List.take_append_drop, List.length_append] at h
  omega
theorem add_num {a b c : Nat} (h : a + b = c) (hb : c ≤ 10000) : IntKind.i64.wrap ((a : Int) + (b : Int)) = (c : Int) := by
  rw [show ((a : Int) + (b : Int)) = (c : Int) by omega]; exact IntWalk.i64_in _ (by omega)
theorem add_one' {a c : Nat} (h : a + 1 = c) (hb : c ≤ 10000) : IntKind.i64.wrap ((a : Int) + 1) = (c : Int) := by
  rw [show ((a : Int) + 1) = (c : Int) by omega]; exact IntWalk.i64_in _ (by omega)
set_option maxRecDepth 100000 in
set_option maxHeartbeats 6400000 in
theorem walk (V : Value) (l0 : List Rw) (Q : Value) (q : Nd) (w : World) (hV : Rws w V l0 ∧ fitsR l0) (hQ : Q = .agg #[.string (mkB q.1), .string (mkB q.2)] ∧ fitsN q) :
    Calls Tryz.prog 7 #[V, Q] w fun e w' => e = .returned (.bool true) ∧ Below w.heap.size w w' := by
  obtain ⟨hV, fV⟩ := hV
  obtain ⟨A, c, rfl, -⟩ := hV.ex
  have hfw := fun V w h => few16_any V l0 w h fV
  have hz := SzR.few l0
  obtain ⟨m0, hm0⟩ : ∃ r, l0.length = r := ⟨_, rfl⟩
  rw [hm0] at hV ⊢
  obtain ⟨l, hl⟩ : ∃ r, fewR l0 = r := ⟨_, rfl⟩
  rw [hl] at hfw hz
  obtain ⟨n, hn⟩ : ∃ r, l.length = r := ⟨_, rfl⟩
  have SV := Lib.hid hV; have HFW := Lib.hid hfw; have HZ := Lib.hid hz; have HN := Lib.hid hn
  clear hV fV hfw hz hm0 hl hn
  obtain ⟨rfl, fq⟩ := hQ
  obtain ⟨pq, vq⟩ := q
  simp only at fq ⊢
  have hsq := oneN_small (pq, vq)
  have hoq := fun w => one_any pq vq w fq.1 fq.2
  obtain ⟨q1, hq1⟩ : ∃ r, fewL pq = r := ⟨_, rfl⟩
  obtain ⟨q2, hq2⟩ : ∃ r, fewL vq = r := ⟨_, rfl⟩
  have hsq2 : smallN (q1, q2) := by rw [← hq1, ← hq2]; exact hsq
  rw [hq1, hq2] at hoq
  obtain ⟨W, gq, hW, hg, r1, hb⟩ := boxT w (.string (mkB pq)) (.string (mkB vq)) 24
  have HSQ := Lib.hid hsq2; have HOQ := Lib.hid hoq; have HLQ := Lib.hid (show w.heap.size ≤ gq by omega); have HW := Lib.hid hW; have HG := Lib.hid hg; have RQ := Lib.hid r1; have BB := Lib.hid hb
  clear hsq hsq2 hoq hq1 hq2 hW hg r1 hb fq
  have e1 : ∀ args w, (callFunc 8 args).run Tryz.prog w = .ok (.enter 8 args) w := enters_of Tryz.func8 (by kernel_rfl) rfl
  have e2 : ∀ args w, (callFunc 9 args).run Tryz.prog w = .ok (.enter 9 args) w := enters_of Tryz.func9 (by kernel_rfl) rfl
  go_enter Tryz.func7, Tryz.ntmps7
  go_upto_region 1 with fail
  rw [HW.out, HG.out]
  refine rol_run (by kernel_rfl) [[], [0], [], [0, 1, 2], [0, 1, 2, 3], [0, 1, 2, 3, 4]] (by kernel_rfl) [15, 16, 17, 18, 0] [[7], [0], [6], [2], [1], [3, 6]] [0, 1, 0, 0, 1, 4, 4, 0] [0, 0, 0, 0, 0, 4] [1000, 1000, 1000, 1000, 1000, 1000, 5, 4] [.val 15 (.slice A m0 c), .mems 16 (rwsG W.heap.size l), .val 17 (.agg #[.string (mkB pq), .string (mkB vq)]), .val 18 (.agg #[.string (mkB q1), .string (mkB q2)]), .mems 0 (rwsG W.heap.size l), .box (gq) (.cells #[.string (mkB q1), .string (mkB q2)] 24), .box (gq) (.cells #[.string (mkB pq), .string (mkB vq)] 24), .val 0 (.slice A m0 c)] (by kernel_rfl) ?_ (w.heap.size) (W.heap.size) rfl BB.out rfl (fun k => if k = gq then 4 else 6) ?_ ?_ ?_
  · intro j hj
    have hj3 : j < 8 := hj
    have hj2 : j = 0 ∨ j = 1 ∨ j = 2 ∨ j = 3 ∨ j = 4 ∨ j = 5 ∨ j = 6 ∨ j = 7 := by omega
    clear hj hj3
    rcases hj2 with rfl | rfl | rfl | rfl | rfl | rfl | rfl | rfl
    · exact trivial
    · exact rwsG_near
    · exact trivial
    · exact trivial
    · exact rwsG_near
    · exact trivial
    · exact trivial
    · exact trivial
  · intro j hj0 hj
    have hj1 : 6 ≤ j := hj0
    have hj3 : j < 8 := hj
    have hj2 : j = 6 ∨ j = 7 := by omega
    clear hj0 hj hj1 hj3
    rcases hj2 with rfl | rfl
    · exact ⟨RQ.out, if_pos rfl⟩
    · exact rfl
  · intro i hi a wx who hG hF
    have hz : a.tmps.size = 113 := hG.size
    have hi3 : i < 6 := hi
    have hi2 : i = 0 ∨ i = 1 ∨ i = 2 ∨ i = 3 ∨ i = 4 ∨ i = 5 := by omega
    clear hi hi3
    rcases hi2 with rfl | rfl | rfl | rfl | rfl | rfl
    · exact rol_val rfl rfl rfl (by rw [hz]; decide) (ex_move (Or.inl rfl) (eval_slot (hF 7 (by decide)))) hG.below
    · refine rol_calls rfl rfl rfl (by rw [hz]; decide) (ex_call rfl (by simp [eval_slot (hF 0 (by decide))]) e1) (HFW.out _ wx (SV.out.below hG.below)) ?_ hG.below (Nat.le_trans BB.out.size hG.new)
      rintro e w1 ⟨u, rfl, hso, hb1⟩
      obtain ⟨bs, hbs, hg⟩ := hso.toG hG.new
      exact ⟨u, rfl, hb1, .inr (.inr ⟨_, bs, rfl, hbs, hg⟩)⟩
    · exact rol_val rfl rfl rfl (by rw [hz]; decide) (ex_load rfl (eval_slot ((hG.slots 3 (by decide)).trans rfl)) (ld_node (row2 (hF 6 (by decide)).1).1 (row2 (hF 6 (by decide)).1).2.1)) hG.below
    · refine rol_calls rfl rfl rfl (by rw [hz]; decide) (ex_call rfl (by simp [eval_slot (hF 2 (by decide))]) e2) (HOQ.out wx) ?_ hG.below (Nat.le_trans BB.out.size hG.new)
      rintro e w1 ⟨rfl, hb1⟩
      exact ⟨_, rfl, hb1, .inl rfl⟩
    · exact rol_moves rfl rfl rfl (by rw [hz]; decide) (Or.inr rfl) (hF 1 (by decide)) hG.below
    · exact rol_box_ndT rfl rfl rfl rfl (eval_slot ((hG.slots 3 (by decide)).trans rfl)) (eval_slot (hF 3 (by decide))) (hF 6 (by decide)) hG.below HLQ.out
  · intro a wx who hG hF
    obtain ⟨v0, bs0, fv0, fo0, fp0⟩ := hF 4 (of_decide_eq_true (by kernel_rfl)) (of_decide_eq_true (by kernel_rfl))
    replace fv0 : a.tmps.getD 0 undef = v0 := eval_slot (s := 0) fv0
    have hbq := hF 5 (of_decide_eq_true (by kernel_rfl)) (of_decide_eq_true (by kernel_rfl))
    have hbx := hG.below
    have hnx := hG.new
    rw [hG.frame]
    simp only [List.foldl_cons, List.foldl_nil, List.setIfInBounds_toArray, List.set_cons_zero, List.set_cons_succ]
    generalize a.tmps.getD 15 undef = u15
    generalize a.tmps.getD 16 undef = u16
    generalize a.tmps.getD 17 undef = u17
    generalize a.tmps.getD 18 undef = u18
    rw [fv0]
    clear hF hG fv0
    obtain ⟨aL, cL, rfl, hd⟩ := fp0.own.slice HN.out
    obtain ⟨qx0, qx1, -, -⟩ := row2 hbq.1
    have SL := Lib.hid hd
    replace BB := Lib.hid hbx
    clear fo0 fp0 hbq hd hbx hnx SV RQ HFW HOQ HW HG HLQ e1 e2
    have kall := fun V w h => tall_any V l w h (Nat.le_trans HZ.out.len (by decide)) (HZ.out.versK (by decide)) HZ.out.path HZ.out.text
    cases ho : okR l
    · rw [allE_no ho] at kall
      simp only at kall
      have KALL := Lib.hid kall
      have H0 := Lib.hid (show ([] : List Nd).length = 0 from rfl)
      clear kall ho
      go_upto_region 3 with (go_at_call 25; refine (KALL.out _ _ SL.out).mono ?_; rintro e w9 ⟨v1, rfl, hr1, hb1⟩; replace qx0 := cell_keep qx0 hb1; replace qx1 := cell_keep qx1 hb1; replace SL := Lib.hid (SL.out.below hb1); replace BB := Lib.hid (below_step BB.out hb1); obtain ⟨aS, cS, rfl, hd⟩ := ndsO hr1; rw [H0.out] at hd ⊢; have SS := Lib.hid hd; clear hr1 hd hb1 KALL)
      go_wp2_with (go_at_call 17; refine (tawake_any _).mono ?_; rintro e w9 ⟨rfl, hb1⟩; replace qx0 := cell_keep qx0 hb1; replace qx1 := cell_keep qx1 hb1; replace SL := Lib.hid (SL.out.below hb1); replace SS := Lib.hid (SS.out.below hb1); replace BB := Lib.hid (below_step BB.out hb1); clear hb1)
      go_ret
      exact ⟨rfl, BB.out⟩
    · have kadd := fun V w h => tadd_any V l q1 q2 w h (Nat.le_trans HZ.out.len (by decide)) (HZ.out.versK (by decide)) HZ.out.path HZ.out.text HSQ.out.1 HSQ.out.2
      rw [allE_yes ho] at kall
      simp only at kall
      have kall0 := kall
      have hsn := HZ.out.nds
      have hon := all_okN ho
      have hck := all_check ho
      have hsl : (rwAll l).length ≤ 144 := HZ.out.many
      have kof := fun V w h => trows_any V (rwAll l) w h hsn (by omega)
      rw [rowsE_yes (List.all_eq_true.2 hon), setN_id hck, of_all ho] at kof
      simp only at kof
      have hup := all_upto l
      obtain ⟨s, hs⟩ : ∃ r, rwAll l = r := ⟨_, rfl⟩
      rw [hs] at kall kof hck hsn hon hsl hup
      obtain ⟨ns, hns⟩ : ∃ r, s.length = r := ⟨_, rfl⟩
      rw [hns] at hsl hup
      have krc := fun V w h => refncheck_any V s w h hsn
      rw [hck] at krc
      have KALL := Lib.hid kall; have KOF := Lib.hid kof; have KRC := Lib.hid krc; have HNS := Lib.hid hns; have HS := Lib.hid hs; have HSN := Lib.hid hsn; have HON := Lib.hid hon; have HCK := Lib.hid hck; have HUP := Lib.hid hup; have HOK := Lib.hid ho; have KADD0 := Lib.hid kadd
      clear kall kall0 kof krc hns hs hsn hon hck hup ho kadd
      go_upto_region 5 with (go_at_call 25; refine (KALL.out _ _ SL.out).mono ?_; rintro e w9 ⟨v1, rfl, hr1, hb1⟩; replace qx0 := cell_keep qx0 hb1; replace qx1 := cell_keep qx1 hb1; replace SL := Lib.hid (SL.out.below hb1); replace BB := Lib.hid (below_step BB.out hb1); obtain ⟨aS, cS, rfl, hd⟩ := ndsO hr1; rw [HNS.out] at hd ⊢; have SS := Lib.hid hd; clear hr1 hd hb1 KALL)
      go_upto_region 6 with (go_at_call 26; refine (KOF.out _ _ SS.out).mono ?_; rintro e w9 ⟨v1, rfl, hr1, hb1⟩; replace qx0 := cell_keep qx0 hb1; replace qx1 := cell_keep qx1 hb1; replace SL := Lib.hid (SL.out.below hb1); replace SS := Lib.hid (SS.out.below hb1); replace BB := Lib.hid (below_step BB.out hb1); obtain ⟨aB, cB, rfl, hd⟩ := hr1.slice HN.out; have SB := Lib.hid hd; clear hr1 hd hb1 KOF)
      have hnl : n ≤ 12 := by rw [← HN.out]; exact HZ.out.len
      obtain ⟨w5, hw5⟩ : ∃ v, v = w9 := ⟨_, rfl⟩
      subst hw5
      go_wp2
      go_loopw [9, 10] (fun x i wr => ∃ k z : Nat, k ≤ n ∧ i = .int .i64 k ∧ x = .int .i64 z ∧ Hid ((rwAll (l.take k)).length = z) ∧ wr = w5) (fun _ i _ => n - (intOf i).toNat)
      case atStart => exact ⟨0, 0, Nat.zero_le _, rfl, rfl, Lib.hid rfl, rfl⟩
      case round =>
        obtain ⟨k, z, hk, rfl, rfl, HT, hwr⟩ := hrel
        subst hwr
        by_cases hlt : k < n
        · have hkl : k < l.length := by rw [HN.out]; exact hlt
          obtain ⟨bl, ol, ay, ny, cy, rfl, c0, c1, hsy⟩ := SL.out.at k hkl
          have htk := all_take hkl
          have hny := hsy.lenE.1
          have h1 := congrArg List.length htk
          rw [List.length_append, List.length_map, HT.out, hny] at h1
          have h2 := HUP.out (k + 1)
          have hwr := add_num (a := z) (b := ny) (c := z + ny) rfl (by omega)
          have H1 := Lib.hid h1
          have hkb : (k : Int) < (n : Int) := by omega
          clear htk hny h1 h2 hsy c0
          go_wp2
          go_roundw
          case rel => exact ⟨k + 1, z + ny, by omega, by go_num, rfl, H1, trivial⟩
          case measure => simp [intOf]; omega
        · have e : n = k := by omega
          subst e
          have e2 : ns = z := by
            have h := HT.out
            rw [List.take_of_length_le (by rw [HN.out]; exact Nat.le_refl _), HS.out, HNS.out] at h
            exact h
          subst e2
          clear HT hk hlt HUP
          have kadd := KADD0.out
          cases hk : okN (q1, q2)
          · rw [addE_no (by rw [HOK.out, hk]; rfl)] at kadd
            have kala := fun V w h => tall_any V l w h (Nat.le_trans HZ.out.len (by decide)) (HZ.out.versK (by decide)) HZ.out.path HZ.out.text
            rw [allE_yes HOK.out, HS.out] at kala
            simp only at kadd kala
            have HNA := HN
            have HNT := HNS
            clear hk
            have KADD := Lib.hid kadd; have KALA := Lib.hid kala
            clear kadd kala KADD0
            go_upto_region 12 with (go_at_call 10; refine (KADD.out _ _ SL.out).mono ?_; rintro e w9 ⟨v1, rfl, hr1, hb1⟩; replace qx0 := cell_keep qx0 hb1; replace qx1 := cell_keep qx1 hb1; replace SL := Lib.hid (SL.out.below hb1); replace SS := Lib.hid (SS.out.below hb1); replace SB := Lib.hid (SB.out.below hb1); replace BB := Lib.hid (below_step BB.out hb1); obtain ⟨aA, cA, rfl, hd⟩ := hr1.slice HN.out; have SA := Lib.hid hd; clear hr1 hd hb1 KADD)
            go_upto_region 13 with (go_at_call 25; refine (KALA.out _ _ SA.out).mono ?_; rintro e w9 ⟨v1, rfl, hr1, hb1⟩; replace qx0 := cell_keep qx0 hb1; replace qx1 := cell_keep qx1 hb1; replace SL := Lib.hid (SL.out.below hb1); replace SS := Lib.hid (SS.out.below hb1); replace SB := Lib.hid (SB.out.below hb1); replace SA := Lib.hid (SA.out.below hb1); replace BB := Lib.hid (below_step BB.out hb1); obtain ⟨aT, cT, rfl, hd⟩ := ndsO hr1; rw [HNS.out] at hd ⊢; have ST := Lib.hid hd; clear hr1 hd hb1 KALA)
            go_wp2_with (first
                | (go_at_call 14; refine (tsame_any _ _ _ _ _ SB.out SL.out).mono ?_; rintro e w9 ⟨rfl, hb1⟩; rw [dec_rows]; replace qx0 := cell_keep qx0 hb1; replace qx1 := cell_keep qx1 hb1; replace SL := Lib.hid (SL.out.below hb1); replace SS := Lib.hid (SS.out.below hb1); replace SB := Lib.hid (SB.out.below hb1); replace SA := Lib.hid (SA.out.below hb1); replace ST := Lib.hid (ST.out.below hb1); replace BB := Lib.hid (below_step BB.out hb1); clear hb1)
                | (go_at_call 33; refine (KRC.out _ _ SS.out).mono ?_; rintro e w9 ⟨rfl, hb1⟩; replace qx0 := cell_keep qx0 hb1; replace qx1 := cell_keep qx1 hb1; replace SL := Lib.hid (SL.out.below hb1); replace SS := Lib.hid (SS.out.below hb1); replace SB := Lib.hid (SB.out.below hb1); replace SA := Lib.hid (SA.out.below hb1); replace ST := Lib.hid (ST.out.below hb1); replace BB := Lib.hid (below_step BB.out hb1); clear hb1)
                | (go_at_call 17; refine (tawake_any _).mono ?_; rintro e w9 ⟨rfl, hb1⟩; replace qx0 := cell_keep qx0 hb1; replace qx1 := cell_keep qx1 hb1; replace SL := Lib.hid (SL.out.below hb1); replace SS := Lib.hid (SS.out.below hb1); replace SB := Lib.hid (SB.out.below hb1); replace SA := Lib.hid (SA.out.below hb1); replace ST := Lib.hid (ST.out.below hb1); replace BB := Lib.hid (below_step BB.out hb1); clear hb1))
            go_ret
            exact ⟨rfl, BB.out⟩
          · cases hh : hasN s (q1, q2)
            · rw [addE_yes HOK.out hk (by rw [HS.out]; exact hh), HS.out] at kadd
              have hwl := with_more HON.out hk hh
              rw [HNS.out] at hwl
              have hwc := withN_check HCK.out hk
              have hws := small_with HSN.out HSQ.out
              have hwm : hasN (withN s (q1, q2)) (q1, q2) = true := hasN_iff.2 ((withN_mem HON.out hk _).2 (.inr rfl))
              obtain ⟨m, hm⟩ : ∃ r, withN s (q1, q2) = r := ⟨_, rfl⟩
              rw [hm] at kadd hwl hwc hws hwm
              have hzm : SzR 145 (rwOf m) := SzR.of hws (by omega)
              have kala := fun V w h => tall_any V (rwOf m) w h (Nat.le_trans hzm.len (by decide)) (hzm.versK (by decide)) hzm.path hzm.text
              rw [allE_yes (of_ok hwc), all_of] at kala
              obtain ⟨la, hla⟩ : ∃ r, rwOf m = r := ⟨_, rfl⟩
              rw [hla] at kadd kala
              simp only at kadd kala
              obtain ⟨na, hna⟩ : ∃ r, la.length = r := ⟨_, rfl⟩
              obtain ⟨nt, hnt⟩ : ∃ r, m.length = r := ⟨_, rfl⟩
              rw [hnt] at hwl
              have hw1 := add_one' (a := ns) (c := nt) (by omega) (by omega)
              have HNA := Lib.hid hna; have HNT := Lib.hid hnt; have HHS := Lib.hid hh; have HHT := Lib.hid hwm
              clear hh hk hwc hws hwm hzm hla hm hna hnt hwl
              have KADD := Lib.hid kadd; have KALA := Lib.hid kala
              clear kadd kala KADD0
              go_upto_region 12 with (go_at_call 10; refine (KADD.out _ _ SL.out).mono ?_; rintro e w9 ⟨v1, rfl, hr1, hb1⟩; replace qx0 := cell_keep qx0 hb1; replace qx1 := cell_keep qx1 hb1; replace SL := Lib.hid (SL.out.below hb1); replace SS := Lib.hid (SS.out.below hb1); replace SB := Lib.hid (SB.out.below hb1); replace BB := Lib.hid (below_step BB.out hb1); obtain ⟨aA, cA, rfl, hd⟩ := hr1.slice HNA.out; have SA := Lib.hid hd; clear hr1 hd hb1 KADD)
              go_upto_region 13 with (go_at_call 25; refine (KALA.out _ _ SA.out).mono ?_; rintro e w9 ⟨v1, rfl, hr1, hb1⟩; replace qx0 := cell_keep qx0 hb1; replace qx1 := cell_keep qx1 hb1; replace SL := Lib.hid (SL.out.below hb1); replace SS := Lib.hid (SS.out.below hb1); replace SB := Lib.hid (SB.out.below hb1); replace SA := Lib.hid (SA.out.below hb1); replace BB := Lib.hid (below_step BB.out hb1); obtain ⟨aT, cT, rfl, hd⟩ := ndsO hr1; rw [HNT.out] at hd ⊢; have ST := Lib.hid hd; clear hr1 hd hb1 KALA)
              go_wp2_with (first
                  | (go_at_call 14; refine (tsame_any _ _ _ _ _ SB.out SL.out).mono ?_; rintro e w9 ⟨rfl, hb1⟩; rw [dec_rows]; replace qx0 := cell_keep qx0 hb1; replace qx1 := cell_keep qx1 hb1; replace SL := Lib.hid (SL.out.below hb1); replace SS := Lib.hid (SS.out.below hb1); replace SB := Lib.hid (SB.out.below hb1); replace SA := Lib.hid (SA.out.below hb1); replace ST := Lib.hid (ST.out.below hb1); replace BB := Lib.hid (below_step BB.out hb1); clear hb1)
                  | (go_at_call 33; refine (KRC.out _ _ SS.out).mono ?_; rintro e w9 ⟨rfl, hb1⟩; replace qx0 := cell_keep qx0 hb1; replace qx1 := cell_keep qx1 hb1; replace SL := Lib.hid (SL.out.below hb1); replace SS := Lib.hid (SS.out.below hb1); replace SB := Lib.hid (SB.out.below hb1); replace SA := Lib.hid (SA.out.below hb1); replace ST := Lib.hid (ST.out.below hb1); replace BB := Lib.hid (below_step BB.out hb1); clear hb1)
                  | (go_at_call 17; refine (tawake_any _).mono ?_; rintro e w9 ⟨rfl, hb1⟩; replace qx0 := cell_keep qx0 hb1; replace qx1 := cell_keep qx1 hb1; replace SL := Lib.hid (SL.out.below hb1); replace SS := Lib.hid (SS.out.below hb1); replace SB := Lib.hid (SB.out.below hb1); replace SA := Lib.hid (SA.out.below hb1); replace ST := Lib.hid (ST.out.below hb1); replace BB := Lib.hid (below_step BB.out hb1); clear hb1)
                  | (go_at_call 19; refine (refnhas_any _ _ q1 q2 _ (by first | exact SS.out | exact ST.out)).mono ?_; rintro e w9 ⟨rfl, hb1⟩; (first | rw [HHS.out] | rw [HHT.out]); replace qx0 := cell_keep qx0 hb1; replace qx1 := cell_keep qx1 hb1; replace SL := Lib.hid (SL.out.below hb1); replace SS := Lib.hid (SS.out.below hb1); replace SB := Lib.hid (SB.out.below hb1); replace SA := Lib.hid (SA.out.below hb1); replace ST := Lib.hid (ST.out.below hb1); replace BB := Lib.hid (below_step BB.out hb1); clear hb1))
              go_ret
              exact ⟨rfl, BB.out⟩
            · rw [addE_has HOK.out hk (by rw [HS.out]; exact hh)] at kadd
              have kala := fun V w h => tall_any V l w h (Nat.le_trans HZ.out.len (by decide)) (HZ.out.versK (by decide)) HZ.out.path HZ.out.text
              rw [allE_yes HOK.out, HS.out] at kala
              simp only at kadd kala
              have HNA := HN
              have HNT := HNS
              have HHS := Lib.hid hh
              clear hh hk
              have KADD := Lib.hid kadd; have KALA := Lib.hid kala
              clear kadd kala KADD0
              go_upto_region 12 with (go_at_call 10; refine (KADD.out _ _ SL.out).mono ?_; rintro e w9 ⟨v1, rfl, hr1, hb1⟩; replace qx0 := cell_keep qx0 hb1; replace qx1 := cell_keep qx1 hb1; replace SL := Lib.hid (SL.out.below hb1); replace SS := Lib.hid (SS.out.below hb1); replace SB := Lib.hid (SB.out.below hb1); replace BB := Lib.hid (below_step BB.out hb1); obtain ⟨aA, cA, rfl, hd⟩ := hr1.slice HN.out; have SA := Lib.hid hd; clear hr1 hd hb1 KADD)
              go_upto_region 13 with (go_at_call 25; refine (KALA.out _ _ SA.out).mono ?_; rintro e w9 ⟨v1, rfl, hr1, hb1⟩; replace qx0 := cell_keep qx0 hb1; replace qx1 := cell_keep qx1 hb1; replace SL := Lib.hid (SL.out.below hb1); replace SS := Lib.hid (SS.out.below hb1); replace SB := Lib.hid (SB.out.below hb1); replace SA := Lib.hid (SA.out.below hb1); replace BB := Lib.hid (below_step BB.out hb1); obtain ⟨aT, cT, rfl, hd⟩ := ndsO hr1; rw [HNS.out] at hd ⊢; have ST := Lib.hid hd; clear hr1 hd hb1 KALA)
              go_wp2_with (first
                  | (go_at_call 14; refine (tsame_any _ _ _ _ _ SB.out SL.out).mono ?_; rintro e w9 ⟨rfl, hb1⟩; rw [dec_rows]; replace qx0 := cell_keep qx0 hb1; replace qx1 := cell_keep qx1 hb1; replace SL := Lib.hid (SL.out.below hb1); replace SS := Lib.hid (SS.out.below hb1); replace SB := Lib.hid (SB.out.below hb1); replace SA := Lib.hid (SA.out.below hb1); replace ST := Lib.hid (ST.out.below hb1); replace BB := Lib.hid (below_step BB.out hb1); clear hb1)
                  | (go_at_call 33; refine (KRC.out _ _ SS.out).mono ?_; rintro e w9 ⟨rfl, hb1⟩; replace qx0 := cell_keep qx0 hb1; replace qx1 := cell_keep qx1 hb1; replace SL := Lib.hid (SL.out.below hb1); replace SS := Lib.hid (SS.out.below hb1); replace SB := Lib.hid (SB.out.below hb1); replace SA := Lib.hid (SA.out.below hb1); replace ST := Lib.hid (ST.out.below hb1); replace BB := Lib.hid (below_step BB.out hb1); clear hb1)
                  | (go_at_call 17; refine (tawake_any _).mono ?_; rintro e w9 ⟨rfl, hb1⟩; replace qx0 := cell_keep qx0 hb1; replace qx1 := cell_keep qx1 hb1; replace SL := Lib.hid (SL.out.below hb1); replace SS := Lib.hid (SS.out.below hb1); replace SB := Lib.hid (SB.out.below hb1); replace SA := Lib.hid (SA.out.below hb1); replace ST := Lib.hid (ST.out.below hb1); replace BB := Lib.hid (below_step BB.out hb1); clear hb1)
                  | (go_at_call 19; refine (refnhas_any _ _ q1 q2 _ (by first | exact SS.out | exact ST.out)).mono ?_; rintro e w9 ⟨rfl, hb1⟩; rw [HHS.out]; replace qx0 := cell_keep qx0 hb1; replace qx1 := cell_keep qx1 hb1; replace SL := Lib.hid (SL.out.below hb1); replace SS := Lib.hid (SS.out.below hb1); replace SB := Lib.hid (SB.out.below hb1); replace SA := Lib.hid (SA.out.below hb1); replace ST := Lib.hid (ST.out.below hb1); replace BB := Lib.hid (below_step BB.out hb1); clear hb1))
              go_ret
              exact ⟨rfl, BB.out⟩

theorem own : ownKnob Tryz.prog.godebug = none := by kernel_rfl
theorem laidOut : laidOutB Tryz.prog = true := by kernel_rfl

set_option maxRecDepth 100000 in
theorem lifted (os : Os) (started : os.Started) (H : Type) (enc : TypeId × Value → H) :
    ReturnsInHanded {} Tryz.checked os 7 .any (Rows.tallyCountsSpec.pre6 enc Tryz.prog Tryz.f7 Rows.tallyCountsRow.domain false) (Rows.tallyCountsSpec.post enc Tryz.prog Tryz.f7 false true false false) := by
  refine returnsInHanded_of_change (C := Tryz.checked) own started (by kernel_rfl) Tryz.func7
    (ChangeSpec.witness6 (enc := enc) (C := Tryz.checked) false ⟨#[], #[.slice none 0 0, .agg #[.string ByteArray.empty, .string ByteArray.empty]], []⟩ 8 (by kernel_rfl) (by kernel_rfl) (by kernel_rfl) (by kernel_rfl)) ?_
  intro W base args ds gs before hval0 hW hcnd _
  have hval : ∀ (j : Nat) t v, Tryz.f7.params[j]? = some t → args[j]? = some v → Value.okWide Tryz.prog W .any base t v := hval0
  have hW' := hW
  obtain ⟨p, q, hA0, hV, rfl, hfz, hnd⟩ := hW
  have hA : DataW.TrodAll enc Tryz.prog W 0 (fun _ => true) true Tryz.f7.params.toList args.toList ds p := hA0
  rw [Tryz.params7] at hA hval
  obtain ⟨v0, vs0, d0, ds0, p0, q0, hargs, rfl, rfl, h0, r0⟩ := trodAll_cons hA
  obtain ⟨v1, vs1, d1, ds1, p1, q1, rfl, rfl, rfl, h1, r1⟩ := trodAll_cons r0
  obtain ⟨rfl, rfl, rfl⟩ := trodAll_nil r1
  obtain rfl : args = #[v0, v1] := by cases args; simp_all
  obtain ⟨rfl, rfl⟩ := trodVars_none hV
  obtain ⟨a0, len0, cap0, rfl⟩ := okWide_slice Tryz.underlying22 (hval 0 22 v0 rfl rfl)
  have k0 := h0
  have lt0 : ∀ x ∈ p0, x.block < W.heap.size := by obtain ⟨m, hm⟩ := k0; exact DataW.trod_lt m _ _ _ hm
  obtain ⟨z0, w0⟩ : ∃ zs, Rws W (.slice a0 len0 cap0) zs ∧ fitsR zs := by
    obtain ⟨fuel, hf⟩ := h0
    exact rws_open (by simpa [Value.cells] using hf)
  have k1 := h1
  have lt1 : ∀ x ∈ p1, x.block < W.heap.size := by obtain ⟨m, hm⟩ := k1; exact DataW.trod_lt m _ _ _ hm
  obtain ⟨z1, w1⟩ := node_open (hval 1 24 v1 rfl rfl) h1
  clear hA0 hval0
  refine (walk _ z0 _ z1 W w0 w1).mono fun e W' ⟨he, bel⟩ => ?_
  subst he
  exact ⟨_, rfl, _, _, _, [], _, [], hW', trodAll_mk1 (shut_bool Tryz.underlying4 _), (trodAll_cons_mk (Below.trod laidOut (by kernel_rfl) (of_decide_eq_true (by kernel_rfl)) k0 bel lt0) (trodAll_cons_mk (Below.trod laidOut (by kernel_rfl) (of_decide_eq_true (by kernel_rfl)) k1 bel lt1) trodAll_mk0)), rfl, bel.frame _, fun h => by cases h⟩

-- the given statement
theorem proved : Rows.TallyCountsSaid :=
  OpenClaim.holds_of_wide 7 Tryz.f7 rfl rfl rfl rfl rfl rfl rfl ⟨rfl, rfl, rfl, rfl, rfl⟩ rfl rfl rfl rfl rfl (by kernel_rfl) Tryz.func7 (by kernel_rfl)
    (of_decide_eq_true (by kernel_rfl)) (by unfold Func.isWrapper; first | (rw [if_pos (by decide +kernel)]; kernel_rfl) | (rw [if_neg (by decide +kernel)]; exact ⟨rfl, rfl⟩))
    (fun os started H enc _ => lifted os started H enc)
end Go.Proofs.YtnngfcjfhhfafaaGreat.tallyCounts
