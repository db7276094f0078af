/- THE TEXTS OF StoE StoF StoG: A store in memory of its own: of the program. Where a node's key is, or would go: of the program. A node's text, a store with it and without: of the program. -/
import Derived.Test.YtceefoiffkgliaaStoC
import Derived.Test.YtceefoiffkgliaaStoD
import Derived.OwnWalk
namespace Go.Proofs.Ytceefoiffkgliaa
open Go.RowKit
set_option linter.unusedVariables false
set_option maxRecDepth 100000

theorem ld_nds {w : World} {g i n c : Nat} {a : Option Addr} (h : w.cell? ⟨g, i, none⟩ = some (.slice a n c)) : Sem.run Try.prog (Instr.loadAt 22 (.pointer (some ⟨g, i, none⟩))) w = .ok (.slice a n c) w := by
  go_simp
theorem ld_sts {w : World} {g i n c : Nat} {a : Option Addr} (h : w.cell? ⟨g, i, none⟩ = some (.slice a n c)) : Sem.run Try.prog (Instr.loadAt 23 (.pointer (some ⟨g, i, none⟩))) w = .ok (.slice a n c) w := by
  go_simp
theorem ld_sto {w : World} {g n c m d : Nat} {a b : Option Addr} (h : w.cell? ⟨g, 0, none⟩ = some (.slice a n c)) (h' : w.cell? ⟨g, 1, none⟩ = some (.slice b m d)) : Sem.run Try.prog (Instr.loadAt 25 (.pointer (some ⟨g, 0, none⟩))) w = .ok (.agg #[.slice a n c, .slice b m d]) w := by
  go_simp
theorem ld_node {w : World} {g i : Nat} {p v : List UInt8} (h : w.cell? ⟨g, i, none⟩ = some (.string (mkB p))) (h' : w.cell? ⟨g, i + 1, none⟩ = some (.string (mkB v))) : Sem.run Try.prog (Instr.loadAt 27 (.pointer (some ⟨g, i, none⟩))) w = .ok (.agg #[.string (mkB p), .string (mkB v)]) w := by
  go_simp
theorem Try.size_sto : (Try.prog.info? 25).map (·.size) = some 2 := by kernel_rfl
section
variable {P : Program}
theorem results_ct {fn : Func} {q r : Tmp} {ty : TypeId} (h : fn.results = #[.cell q ty, .tmp r]) (tmps : Array Value) (w : World) (g : Nat) (t : TypeId) (cs : Array Value) (fr : Nat × Nat) (d : TypeDesc)
    (hp : tmps.getD q undef = .pointer (some ⟨g, 0, none⟩)) (hg : w.heap[g]? = some (.cells cs t fr))
    (hu : P.underlying ty = some d) (hd : (match d with | .struct _ | .array _ _ => true | _ => false) = true) (hi : (P.info? ty).map (·.size) = some cs.size) :
    (results fn tmps).run P w = .ok (.tuple #[.agg cs, tmps.getD r undef]) w := by
  have hp' : tmps[q]?.getD undef = .pointer (some ⟨g, 0, none⟩) := by simpa using hp
  simp [results, h, hp', asAddr, run_loadVar_row w g t ty cs fr d hg hu hd hi]
end

set_option maxHeartbeats 1600000 in
theorem sown_any (A B : Option Addr) (n c m d : Nat) (K : List Nd) (T : List (List UInt8)) (w : World) (hk : Nds w (.slice A n c) K) (ht : Strs w (.slice B m d) T) (hn : n ≤ 600000) (hm : m ≤ 600000) :
    Calls Try.prog 26 #[.agg #[.slice A n c, .slice B m d]] w fun e w' => ∃ v, e = .returned v ∧ StoO w' (w.heap.size + 1) v K T ∧ Below w.heap.size w w' := by
  obtain ⟨W, g, g', hW, hg, hg', r0, r1, hb⟩ := boxS2 w (.slice A n c) (.slice B m d) (.slice none 0 0) (.slice none 0 0) 25 25
  have hkl : K.length ≤ 2000000 := by rw [hk.lenE.1]; omega
  have htl : T.length ≤ 2000000 := by rw [ht.lenE.1]; omega
  have hw2 : w.heap.size + 1 ≤ W.heap.size := by have := (Array.getElem?_eq_some_iff.1 r1).1; omega
  have SK := Lib.hid hk; have ST := Lib.hid ht; have HKL := Lib.hid hkl; have HTL := Lib.hid htl
  have HW := Lib.hid hW; have HG := Lib.hid hg; have HG' := Lib.hid hg'; have BB := Lib.hid hb; have R0 := Lib.hid r0; have R1 := Lib.hid r1; have HGL := Lib.hid (show w.heap.size ≤ g' by omega); have HNE := Lib.hid (show ¬ g = g' by omega); have HW2 := Lib.hid hw2
  clear hk ht hkl htl hW hg hg' hb r0 r1 hn hm hw2
  have e1 : ∀ args w, (callFunc 42 args).run Try.prog w = .ok (.enter 42 args) w := enters_of Try.func42 (by kernel_rfl) rfl
  have e2 : ∀ args w, (callFunc 43 args).run Try.prog w = .ok (.enter 43 args) w := enters_of Try.func43 (by kernel_rfl) rfl
  go_enter Try.func26, Try.ntmps26
  go_upto_region 1 with fail
  rw [HW.out, HG'.out, HG.out]
  refine rol_run (by kernel_rfl) [[], [0], [0, 1], [0, 1, 2], [], [4], [4, 5], [0, 1, 2, 3, 4, 5, 6], [0, 1, 2, 3, 4, 5, 6, 7], [0, 1, 2, 3, 4, 5, 6, 7, 8]] (by kernel_rfl) [3, 4, 5, 6, 7, 8, 9, 10, 11] [[], [0, 10], [1], [2], [], [4, 10], [5], [6], [3, 7], [8, 11]] [0, 0, 1, 1, 0, 0, 1, 1, 1, 2, 3, 2] [0, 0, 0, 0, 0, 0, 0, 0, 0, 2] [1000, 1000, 1000, 1000, 1000, 1000, 1000, 1000, 1000, 1000, 1000, 9] [.val 3 (.pointer (some ⟨g, 0, none⟩)), .val 4 (.slice A n c), .mem 5 (blkG 22 #[.slice A n c] 1), .mem 6 (rowG W.heap.size 27 2 K.length (ndsC K)), .val 7 (.pointer (some ⟨g, 1, none⟩)), .val 8 (.slice B m d), .mem 9 (blkG 23 #[.slice B m d] 1), .mem 10 (rowG W.heap.size 9 1 T.length (strC T)), .mems 11 (stoG W.heap.size K T), .mem 11 (boxG g' 25), .box (g) (.cells #[.slice A n c, .slice B m d] 25), .box (g') (.cells #[.slice none 0 0, .slice none 0 0] 25)] (by kernel_rfl) ?_ (w.heap.size) (W.heap.size) rfl BB.out rfl (fun k => if k = g' then 2 else 3) ?_ ?_ ?_
  · intro j hj
    have hj3 : j < 12 := hj
    have hj2 : j = 0 ∨ j = 1 ∨ j = 2 ∨ j = 3 ∨ j = 4 ∨ j = 5 ∨ j = 6 ∨ j = 7 ∨ j = 8 ∨ j = 9 ∨ j = 10 ∨ j = 11 := by omega
    clear hj hj3
    rcases hj2 with rfl | rfl | rfl | rfl | rfl | rfl | rfl | rfl | rfl | rfl | rfl | rfl
    · exact trivial
    · exact trivial
    · exact blkG_near
    · exact rowG_near
    · exact trivial
    · exact trivial
    · exact blkG_near
    · exact rowG_near
    · exact stoG_near
    · exact boxG_near
    · exact trivial
    · exact trivial
  · intro j hj0 hj
    have hj1 : 10 ≤ j := hj0
    have hj3 : j < 12 := hj
    have hj2 : j = 10 ∨ j = 11 := by omega
    clear hj0 hj hj1 hj3
    rcases hj2 with rfl | rfl
    · exact ⟨R0.out, if_neg HNE.out⟩
    · exact ⟨R1.out, if_pos rfl⟩
  · intro i hi a wx who hG hF
    have hz : a.tmps.size = 12 := hG.size
    have hi3 : i < 10 := hi
    have hi2 : i = 0 ∨ i = 1 ∨ i = 2 ∨ i = 3 ∨ i = 4 ∨ i = 5 ∨ i = 6 ∨ i = 7 ∨ i = 8 ∨ i = 9 := by omega
    clear hi hi3
    rcases hi2 with rfl | rfl | rfl | rfl | rfl | rfl | rfl | rfl | rfl | rfl
    · exact rol_val rfl rfl rfl (by rw [hz]; decide) (ex_field rfl (eval_slot ((hG.slots 1 (by decide)).trans rfl)) (by go_simp)) hG.below
    · exact rol_val rfl rfl rfl (by rw [hz]; decide) (ex_load rfl (eval_slot (hF 0 (by decide))) (ld_nds (row2 (hF 10 (by decide)).1).1)) hG.below
    · exact rol_newO rfl rfl rfl (by rw [hz]; decide) (x := .cells #[.slice A n c] 22) (v := .slice (some ⟨wx.heap.size, 0, none⟩) 1 1) (ex_slice rfl (vs := #[(0, .slice A n c)]) (by simp only [List.map_toArray, List.map_cons, List.map_nil, eval_slot (hF 1 (by decide))]) (by go_simp)) ⟨_, rfl, rfl, heap_alloc_new _ _⟩ hG.below (Nat.le_trans BB.out.size hG.new)
    · obtain ⟨v, ob, hv, hob, b, rfl, rfl, hh⟩ := hF 2 (by decide)
      have hL : NdsL wx (.slice (some ⟨b, 0, none⟩) 1 1) [K] := ⟨b, 0, 1, rfl, Nat.le_refl _, by unfold maxLen; omega, fun t ht => by
        have ht2 : t = 0 := by simp at ht; omega
        subst ht2
        exact ⟨_, _, _, blkG.cell hh rfl, Nds.below SK.out hG.below⟩⟩
      refine rol_calls rfl rfl rfl (by rw [hz]; decide) (ex_call rfl (by simp [eval_slot hv]) e1) (nd_concat _ [K] wx hL (by simp) (by simpa using HKL.out)) ?_ hG.below (Nat.le_trans BB.out.size hG.new)
      rintro e w1 ⟨u, rfl, hown, hb1⟩
      rw [show [K].flatten = K by simp] at hown
      exact ⟨u, rfl, hb1, .inr (.inl ⟨_, u.ownBlock, rfl, fun b e => hown.lt b e, row_base hown hG.new, rfl⟩)⟩
    · exact rol_val rfl rfl rfl (by rw [hz]; decide) (ex_field rfl (eval_slot ((hG.slots 1 (by decide)).trans rfl)) (by go_simp)) hG.below
    · exact rol_val rfl rfl rfl (by rw [hz]; decide) (ex_load rfl (eval_slot (hF 4 (by decide))) (ld_sts (row2 (hF 10 (by decide)).1).2.1)) hG.below
    · exact rol_newO rfl rfl rfl (by rw [hz]; decide) (x := .cells #[.slice B m d] 23) (v := .slice (some ⟨wx.heap.size, 0, none⟩) 1 1) (ex_slice rfl (vs := #[(0, .slice B m d)]) (by simp only [List.map_toArray, List.map_cons, List.map_nil, eval_slot (hF 5 (by decide))]) (by go_simp)) ⟨_, rfl, rfl, heap_alloc_new _ _⟩ hG.below (Nat.le_trans BB.out.size hG.new)
    · obtain ⟨v, ob, hv, hob, b, rfl, rfl, hh⟩ := hF 6 (by decide)
      have hL : StrsL wx (.slice (some ⟨b, 0, none⟩) 1 1) [T] := ⟨b, 0, 1, rfl, Nat.le_refl _, by unfold maxLen; omega, fun t ht => by
        have ht2 : t = 0 := by simp at ht; omega
        subst ht2
        exact ⟨_, _, _, blkG.cell hh rfl, Strs.belowB ST.out hG.below⟩⟩
      refine rol_calls rfl rfl rfl (by rw [hz]; decide) (ex_call rfl (by simp [eval_slot hv]) e2) (st_concat _ [T] wx hL (by simp) (by simpa using HTL.out)) ?_ hG.below (Nat.le_trans BB.out.size hG.new)
      rintro e w1 ⟨u, rfl, hown, hb1⟩
      rw [show [T].flatten = T by simp] at hown
      exact ⟨u, rfl, hb1, .inr (.inl ⟨_, u.ownBlock, rfl, fun b e => hown.lt b e, row_base hown hG.new, rfl⟩)⟩
    · exact rol_agg rfl rfl rfl (by rw [hz]; decide) rfl rfl rfl (hF 3 (by decide)) (hF 7 (by decide)) hG.below
    · exact rol_box rfl rfl rfl rfl (eval_slot ((hG.slots 2 (by decide)).trans rfl)) (hF 8 (by decide)) (hF 11 (by decide)) hG.below HGL.out
  · intro a wx who hG hF
    obtain ⟨v11, bs11, fv11, fo11, fp11⟩ := hF 8 (of_decide_eq_true (by kernel_rfl)) (of_decide_eq_true (by kernel_rfl))
    replace fv11 : a.tmps.getD 11 undef = v11 := eval_slot (s := 11) fv11
    have hbox := hF 9 (of_decide_eq_true (by kernel_rfl)) (of_decide_eq_true (by kernel_rfl))
    obtain ⟨p11, ob11, hp11, -, -, x11, y11, hv11, hrow11⟩ := hbox
    have e11 : v11 = p11 := fv11.symm.trans (eval_slot hp11)
    subst e11
    clear hp11 ob11
    have hbx := hG.below
    have hnx := hG.new
    rw [hG.frame]
    simp only [List.foldl_cons, List.foldl_nil, List.setIfInBounds_toArray, List.set_cons_zero, List.set_cons_succ]
    generalize a.tmps.getD 3 undef = u3
    generalize a.tmps.getD 4 undef = u4
    generalize a.tmps.getD 5 undef = u5
    generalize a.tmps.getD 6 undef = u6
    generalize a.tmps.getD 7 undef = u7
    generalize a.tmps.getD 8 undef = u8
    generalize a.tmps.getD 9 undef = u9
    generalize a.tmps.getD 10 undef = u10
    rw [fv11]
    clear hF hG fv11
    have hso := fp11.own
    obtain ⟨a1, c1, b1, d1, hv1, -, -⟩ := hso.forms
    rw [hv11] at hv1
    injection hv1 with hv1
    injection hv1 with hv1
    injection hv1 with hv1 hv2
    injection hv2 with hv2
    subst hv1 hv2 hv11
    have HSO := Lib.hid (hso.base HW2.out)
    have HROW := Lib.hid hrow11
    clear fp11 fo11 hso hrow11
    go_wp2
    try simp only [Exit.inBlock, Exit.then]
    refine bodyPost_ret (v := .agg #[.slice a1 K.length c1, .slice b1 T.length d1]) (results_cell_row (fn := Try.f26) (p := 2) (ty := 25) rfl _ _ g' 25 #[.slice a1 K.length c1, .slice b1 T.length d1] (0, 0) _ rfl HROW.out Try.underlying25 rfl Try.size_sto) rfl ?_
    exact ⟨_, rfl, HSO.out, hbx⟩
end Go.Proofs.Ytceefoiffkgliaa

namespace Go.Proofs.Ytceefoiffkgliaa
open Go.RowKit
set_option linter.unusedVariables false
set_option maxRecDepth 100000

theorem idx_nds {w : World} {b off n c k : Nat} (h : k < n) : (Instr.indexAt 22 (.slice (some ⟨b, off, none⟩) n c) (.int .i64 (k : Int))).run Try.prog w = .ok (.pointer (some ⟨b, off + k * 2, none⟩)) w := by
  have h1 : (0 : Int) ≤ (k : Int) := by omega
  have h3 : (k : Int) < (n : Int) := by omega
  go_simp
theorem idx_sts {w : World} {b off n c k : Nat} (h : k < n) : (Instr.indexAt 23 (.slice (some ⟨b, off, none⟩) n c) (.int .i64 (k : Int))).run Try.prog w = .ok (.pointer (some ⟨b, off + k, none⟩)) w := by
  have h1 : (0 : Int) ≤ (k : Int) := by omega
  have h3 : (k : Int) < (n : Int) := by omega
  go_simp
theorem ld_str {w : World} {g i : Nat} {l : List UInt8} (h : w.cell? ⟨g, i, none⟩ = some (.string (mkB l))) : Sem.run Try.prog (Instr.loadAt 9 (.pointer (some ⟨g, i, none⟩))) w = .ok (.string (mkB l)) w := by
  go_simp

set_option maxHeartbeats 1600000 in
theorem sk1_any (k n c gn gs : Nat) (A : Option Addr) (K : List Nd) (p v : List UInt8) (w : World) (hlt : k < n) (hN : Nds w (.slice A n c) K) (hs : smallN (p, v)) (hy : smallN (K.getD k ([], []))) (d0 : w.cell? ⟨gn, 0, none⟩ = some (.string (mkB p))) (d1 : w.cell? ⟨gn, 1, none⟩ = some (.string (mkB v))) (c0 : w.cell? ⟨gs, 0, none⟩ = some (.slice A n c)) (on : okN (p, v) = true) (oy : okN (K.getD k ([], [])) = true) :
    Calls Try.prog 40 #[.int .i64 (k : Int), .pointer (some ⟨gn, 0, none⟩), .pointer (some ⟨gs, 0, none⟩)] w fun e w' => e = .returned (.int .i64 (ordN (p, v) (K.getD k ([], [])))) ∧ Below w.heap.size w w' := by
  obtain ⟨b, off, rfl, -, y0, y1'⟩ := hN.at k (by rw [hN.lenE.1]; exact hlt)
  obtain ⟨y, hyy⟩ : ∃ y, K.getD k ([], []) = y := ⟨_, rfl⟩
  rw [hyy] at hy oy y0 y1' ⊢
  obtain ⟨y1, y2⟩ := y
  have hc := cmpNE_yes on oy
  obtain ⟨O, hO⟩ : ∃ O, ordN (p, v) (y1, y2) = O := ⟨_, rfl⟩
  rw [hO] at hc ⊢
  have HLT := Lib.hid hlt; have HS := Lib.hid hs; have HY := Lib.hid hy; have D0 := Lib.hid d0; have D1 := Lib.hid d1; have C0 := Lib.hid c0; have HC := Lib.hid hc; have Y0 := Lib.hid y0; have Y1 := Lib.hid y1'
  clear hlt hN hs hy d0 d1 c0 on oy y0 y1' hyy hc hO
  have e1 : ∀ args w, (callFunc 41 args).run Try.prog w = .ok (.enter 41 args) w := enters_of Try.func41 (by kernel_rfl) rfl
  go_enter Try.func40, Try.ntmps40
  go_upto_region 1 with fail
  refine rol_run (by kernel_rfl) [[], [], [1], [], [1, 2, 3], [1, 2, 3, 4], [0, 1, 2, 3, 4, 5], [0, 1, 2, 3, 4, 5, 6], [0, 1, 2, 3, 4, 5, 6, 7], [0, 1, 2, 3, 4, 5, 6, 7], [0, 1, 2, 3, 4, 5, 6, 7, 8], [0, 1, 2, 3, 4, 5, 6, 7, 8, 9, 10]] (by kernel_rfl) [8, 9, 10, 11, 12, 13, 14, 7, 15, 16, 5, 6] [[], [], [1], [], [2, 3], [4], [0, 5], [6], [7], [7], [8], [9]] [0, 0, 0, 0, 0, 0, 0, 0, 0, 0, 0, 0] [0, 0, 0, 0, 0, 0, 0, 0, 0, 0, 0, 0] [1000, 1000, 1000, 1000, 1000, 1000, 1000, 1000, 1000, 1000, 1000, 1000] [.val 8 (.agg #[.string (mkB p), .string (mkB v)]), .val 9 (.pointer (some ⟨gs, 0, none⟩)), .val 10 (.slice (some ⟨b, off, none⟩) n c), .val 11 (.int .i64 (k : Int)), .val 12 (.pointer (some ⟨b, off + k * 2, none⟩)), .val 13 (.agg #[.string (mkB y1), .string (mkB y2)]), .val 14 (.tuple #[.int .i64 O, .int .i64 0]), .val 7 (.tuple #[.int .i64 O, .int .i64 0]), .val 15 (.int .i64 O), .val 16 (.int .i64 0), .val 5 (.int .i64 O), .val 6 (.int .i64 0)] (by kernel_rfl) ?_ (w.heap.size) (w.heap.size) rfl (Below.refl _ _) rfl (fun _ => 0) ?_ ?_ ?_
  · intro j hj
    have hj3 : j < 12 := hj
    have hj2 : j = 0 ∨ j = 1 ∨ j = 2 ∨ j = 3 ∨ j = 4 ∨ j = 5 ∨ j = 6 ∨ j = 7 ∨ j = 8 ∨ j = 9 ∨ j = 10 ∨ j = 11 := by omega
    clear hj hj3
    rcases hj2 with rfl | rfl | rfl | rfl | rfl | rfl | rfl | rfl | rfl | rfl | rfl | rfl
    · exact trivial
    · exact trivial
    · exact trivial
    · exact trivial
    · exact trivial
    · exact trivial
    · exact trivial
    · exact trivial
    · exact trivial
    · exact trivial
    · exact trivial
    · exact trivial
  · intro j hj0 hj
    exact absurd hj (Nat.not_lt.2 hj0)
  · intro i hi a wx who hG hF
    have hz : a.tmps.size = 18 := hG.size
    have hi3 : i < 12 := hi
    have hi2 : i = 0 ∨ i = 1 ∨ i = 2 ∨ i = 3 ∨ i = 4 ∨ i = 5 ∨ i = 6 ∨ i = 7 ∨ i = 8 ∨ i = 9 ∨ i = 10 ∨ i = 11 := by omega
    clear hi hi3
    rcases hi2 with rfl | rfl | rfl | rfl | rfl | rfl | rfl | rfl | rfl | rfl | rfl | rfl
    · exact rol_val rfl rfl rfl (by rw [hz]; decide) (ex_load rfl (eval_slot ((hG.slots 1 (by decide)).trans rfl)) (ld_node (cell_keep D0.out hG.below) (cell_keep D1.out hG.below))) hG.below
    · exact rol_val rfl rfl rfl (by rw [hz]; decide) (ex_field rfl (eval_slot ((hG.slots 2 (by decide)).trans rfl)) (by go_simp)) hG.below
    · exact rol_val rfl rfl rfl (by rw [hz]; decide) (ex_load rfl (eval_slot (hF 1 (by decide))) (ld_nds (cell_keep C0.out hG.below))) hG.below
    · exact rol_val rfl rfl rfl (by rw [hz]; decide) (ex_move (Or.inl rfl) (eval_slot ((hG.slots 0 (by decide)).trans rfl))) hG.below
    · exact rol_val rfl rfl rfl (by rw [hz]; decide) (ex_index rfl (eval_slot (hF 2 (by decide))) (eval_slot (hF 3 (by decide))) (idx_nds HLT.out)) hG.below
    · exact rol_val rfl rfl rfl (by rw [hz]; decide) (ex_load rfl (eval_slot (hF 4 (by decide))) (ld_node (cell_keep Y0.out hG.below) (cell_keep Y1.out hG.below))) hG.below
    · refine rol_call rfl rfl rfl (by rw [hz]; decide) (ex_call rfl (by simp [eval_slot (hF 0 (by decide)), eval_slot (hF 5 (by decide))]) e1) (ncmp_any p v y1 y2 wx HS.out.1 HS.out.2 HY.out.1 HY.out.2) ?_ hG.below hG.new
      rintro e w1 ⟨rfl, hb1⟩
      rw [HC.out]
      exact ⟨_, rfl, hb1, .inl rfl⟩
    · exact rol_val rfl rfl rfl (by rw [hz]; decide) (ex_move (Or.inl rfl) (eval_slot (hF 6 (by decide)))) hG.below
    · exact rol_val rfl rfl rfl (by rw [hz]; decide) (ex_extract rfl (eval_slot (hF 7 (by decide))) rfl) hG.below
    · exact rol_val rfl rfl rfl (by rw [hz]; decide) (ex_extract rfl (eval_slot (hF 7 (by decide))) rfl) hG.below
    · exact rol_val rfl rfl rfl (by rw [hz]; decide) (ex_move (Or.inr rfl) (eval_slot (hF 8 (by decide)))) hG.below
    · exact rol_val rfl rfl rfl (by rw [hz]; decide) (ex_move (Or.inr rfl) (eval_slot (hF 9 (by decide)))) hG.below
  · intro a wx who hG hF
    have fv5 : a.tmps.getD 5 undef = .int .i64 O := eval_slot (s := 5) (hF 10 (of_decide_eq_true (by kernel_rfl)) (of_decide_eq_true (by kernel_rfl)))
    have hbx := hG.below
    have hnx := hG.new
    rw [hG.frame]
    simp only [List.foldl_cons, List.foldl_nil, List.setIfInBounds_toArray, List.set_cons_zero, List.set_cons_succ]
    generalize a.tmps.getD 8 undef = u8
    generalize a.tmps.getD 9 undef = u9
    generalize a.tmps.getD 10 undef = u10
    generalize a.tmps.getD 11 undef = u11
    generalize a.tmps.getD 12 undef = u12
    generalize a.tmps.getD 13 undef = u13
    generalize a.tmps.getD 14 undef = u14
    generalize a.tmps.getD 7 undef = u7
    generalize a.tmps.getD 15 undef = u15
    generalize a.tmps.getD 16 undef = u16
    rw [fv5]
    generalize a.tmps.getD 6 undef = u6
    clear hF hG fv5
    go_wp2
    go_ret
    exact ⟨rfl, hbx⟩

/-- How far a key is sought: what comes ahead, and what does not. -/
structure FindI (K : List Nd) (x : Nd) (lo hi : Nat) : Prop where
  low : ∀ t, t < lo → ltN (K.getD t ([], [])) x = true
  high : ∀ t, hi ≤ t → t < K.length → ltN (K.getD t ([], [])) x = false
theorem risesE_up {l : List Nd} (h : Rises l) {n : Nd} {t m : Nat} (htm : t ≤ m) (hm : m < l.length) (hl : ltN (l.getD m ([], [])) n = true) : ltN (l.getD t ([], [])) n = true := by
  rcases Nat.lt_or_ge t m with k | k
  · rw [nd_getD hm] at hl
    rw [nd_getD (by omega)]
    exact ltN_trans (List.pairwise_iff_getElem.1 h t m (by omega) hm k) hl
  · have : t = m := by omega
    rw [this]; exact hl
theorem FindI.up {K : List Nd} {x : Nd} {lo hi m : Nat} (h : FindI K x lo hi) (hr : Rises K) (hm : m < K.length) (hl : 0 < ordN x (K.getD m ([], []))) : FindI K x (m + 1) hi :=
  ⟨fun t ht => risesE_up hr (m := m) (by omega) hm (ltN_iff.2 (by rw [ordN_swap]; omega)), h.high⟩
theorem FindI.down {K : List Nd} {x : Nd} {lo hi m : Nat} (h : FindI K x lo hi) (hr : Rises K) (hl : ordN x (K.getD m ([], [])) ≤ 0) : FindI K x lo m := by
  refine ⟨h.low, fun t ht htn => ?_⟩
  cases e : ltN (K.getD t ([], [])) x with
  | false => rfl
  | true =>
    have := risesE_up hr (t := m) (m := t) ht htn e
    rw [ltN_iff, ordN_swap] at this; omega
theorem FindI.found {K : List Nd} {x : Nd} {i : Nat} (h : FindI K x i i) (hK : checkN K = true) (hx : okN x = true) : hasN K x = (decide (i < K.length) && decide (ordN x (K.getD i ([], [])) = 0)) := by
  rw [Bool.eq_iff_iff, Bool.and_eq_true, decide_eq_true_iff, decide_eq_true_iff, hasN_iff]
  constructor
  · intro hm
    obtain ⟨j, hj, rfl⟩ := List.getElem_of_mem hm
    have hji : ¬ j < i := fun k => by have := h.low j k; rw [nd_getD hj, ltN_irrefl] at this; cases this
    have hi : i < K.length := by omega
    refine ⟨hi, ?_⟩
    rcases Nat.lt_or_ge i j with k | k
    · have h1 := List.pairwise_iff_getElem.1 (checkN_rises hK) i j hi hj k
      have h2 := h.high i (Nat.le_refl _) hi
      rw [nd_getD hi, h1] at h2; cases h2
    · have : i = j := by omega
      subst this; rw [nd_getD hi, ordN_self]
  · rintro ⟨hi, h0⟩
    rw [nd_getD hi] at h0
    rw [ordN_eq hx (checkN_ok hK _ (List.getElem_mem hi)) h0]; exact List.getElem_mem hi

set_option maxHeartbeats 3200000 in
theorem find_any (n c gn gs : Nat) (A : Option Addr) (K : List Nd) (p v : List UInt8) (w : World) (hN : Nds w (.slice A n c) K) (hs : smallN (p, v)) (hy : ∀ x ∈ K, smallN x) (d0 : w.cell? ⟨gn, 0, none⟩ = some (.string (mkB p))) (d1 : w.cell? ⟨gn, 1, none⟩ = some (.string (mkB v))) (c0 : w.cell? ⟨gs, 0, none⟩ = some (.slice A n c)) (on : okN (p, v) = true) (oK : checkN K = true) (hn : n ≤ 1000000) :
    Calls Try.prog 39 #[.int .i64 (n : Int), .func (.func 40) #[] #[.pointer (some ⟨gn, 0, none⟩), .pointer (some ⟨gs, 0, none⟩)]] w fun e w' => (∃ i : Nat, e = .returned (.tuple #[.int .i64 (i : Int), .bool (hasN K (p, v))]) ∧ i ≤ n ∧ FindI K (p, v) i i) ∧ Below w.heap.size w w' := by
  obtain ⟨hK, h1, h2⟩ := hN.lenE
  obtain ⟨R, hR⟩ : ∃ R, hasN K (p, v) = R := ⟨_, rfl⟩
  rw [hR]
  have hcall : ∀ (k : Nat) (w' : World), k < n → Below w.heap.size w w' → Calls Try.prog 40 #[.int .i64 (k : Int), .pointer (some ⟨gn, 0, none⟩), .pointer (some ⟨gs, 0, none⟩)] w' fun e w'' => e = .returned (.int .i64 (ordN (p, v) (K.getD k ([], [])))) ∧ Below w'.heap.size w' w'' := fun k w' hk hb =>
    sk1_any k n c gn gs A K p v w' hk (hN.below hb) hs (hy _ (nd_mem (by omega))) (cell_keep d0 hb) (cell_keep d1 hb) (cell_keep c0 hb) on (checkN_ok oK _ (nd_mem (by omega)))
  have hfnd := fun i (h : FindI K (p, v) i i) => h.found oK on
  rw [hR, hK] at hfnd
  have HC := Lib.hid hcall; have HK := Lib.hid hK; have HRI := Lib.hid (checkN_rises oK); have HF := Lib.hid hfnd
  clear hN hs hy d0 d1 c0 on oK hcall hK hfnd hR h1 h2
  go_enter Try.func39, Try.ntmps39
  go_wp2
  go_loopw [4, 6] (fun s4 s6 wr => ∃ lo hi : Nat, s4 = .int .i64 lo ∧ s6 = .int .i64 hi ∧ lo ≤ hi ∧ hi ≤ n ∧ Hid (FindI K (p, v) lo hi) ∧ Hid (Below w.heap.size w wr)) (fun s4 s6 _ => (intOf s6).toNat - (intOf s4).toNat)
  case atStart => exact ⟨0, n, rfl, rfl, Nat.zero_le _, Nat.le_refl _, Lib.hid ⟨fun t ht => absurd ht (Nat.not_lt_zero _), fun t h1 h2 => absurd h2 (by rw [HK.out]; omega)⟩, Lib.hid (Below.refl _ _)⟩
  case round =>
    obtain ⟨lo, hi, rfl, rfl, hlh, hin, HI, HB⟩ := hrel
    by_cases hlt : lo < hi
    · obtain ⟨m, hm⟩ : ∃ m, (lo + hi) / 2 = m := ⟨_, rfl⟩
      have hmi : ((lo : Int) + (hi : Int)) / 2 = (m : Int) := by omega
      have hm1 : lo ≤ m := by omega
      have hm2 : m < hi := by omega
      have hmn : m < n := by omega
      have hcm := fun w' hb => HC.out m w' hmn hb
      have hov := ordN_vals (p, v) (K.getD m ([], []))
      have hup := fun h => HI.out.up HRI.out (m := m) (by rw [HK.out]; exact hmn) h
      have hdn := fun h => HI.out.down HRI.out (m := m) h
      obtain ⟨O, hO⟩ : ∃ O, ordN (p, v) (K.getD m ([], [])) = O := ⟨_, rfl⟩
      rw [hO] at hcm hov hup hdn
      have HCM := Lib.hid hcm
      clear hcm hO hm
      rcases hov with rfl | rfl | rfl
      · have HI2 := Lib.hid (hdn (by decide)); clear hup hdn
        go_wp2_with (go_at_call 40; refine (HCM.out _ HB.out).mono ?_; rintro e w1 ⟨rfl, hb1⟩; have HB2 := Lib.hid (below_step HB.out hb1); clear hb1)
        go_roundw
        case rel => exact ⟨lo, m, rfl, rfl, hm1, by omega, HI2, HB2⟩
        case measure => simp [intOf]; omega
      · have HI2 := Lib.hid (hdn (by decide)); clear hup hdn
        go_wp2_with (go_at_call 40; refine (HCM.out _ HB.out).mono ?_; rintro e w1 ⟨rfl, hb1⟩; have HB2 := Lib.hid (below_step HB.out hb1); clear hb1)
        go_roundw
        case rel => exact ⟨lo, m, rfl, rfl, hm1, by omega, HI2, HB2⟩
        case measure => simp [intOf]; omega
      · have HI2 := Lib.hid (hup (by decide)); clear hup hdn
        go_wp2_with (go_at_call 40; refine (HCM.out _ HB.out).mono ?_; rintro e w1 ⟨rfl, hb1⟩; have HB2 := Lib.hid (below_step HB.out hb1); clear hb1)
        go_roundw
        case rel => exact ⟨m + 1, hi, by go_num, rfl, by omega, hin, HI2, HB2⟩
        case measure => simp [intOf]; omega
    · have e : lo = hi := by omega
      subst e
      have hf := HF.out lo HI.out
      by_cases hln : lo < n
      · have hcm := fun w' hb => HC.out lo w' hln hb
        obtain ⟨O, hO⟩ : ∃ O, ordN (p, v) (K.getD lo ([], [])) = O := ⟨_, rfl⟩
        rw [hO] at hcm hf
        rw [decide_eq_true hln, Bool.true_and] at hf
        have hOR : (O == 0) = R := by rw [hf]; rfl
        have HCM := Lib.hid hcm
        clear hcm hO hf
        go_wp2_with (go_at_call 40; refine (HCM.out _ HB.out).mono ?_; rintro e w1 ⟨rfl, hb1⟩; have HB2 := Lib.hid (below_step HB.out hb1); clear hb1)
        go_ret2
        exact ⟨⟨lo, rfl, hin, HI.out⟩, HB2.out⟩
      · rw [decide_eq_false hln, Bool.false_and] at hf
        subst hf
        go_wp2
        go_ret2
        exact ⟨⟨lo, rfl, hin, HI.out⟩, HB.out⟩
end Go.Proofs.Ytceefoiffkgliaa

namespace Go.Proofs.Ytceefoiffkgliaa
open Go.RowKit
set_option linter.unusedVariables false
set_option maxRecDepth 100000

theorem bin_add1 {i : Nat} {w : World} (h : i ≤ 1000000) : Sem.run Try.prog (binOp .add 3 (.int .i64 (i : Int)) (.int .i64 1)) w = .ok (.int .i64 ((i + 1 : Nat) : Int)) w := by
  have e : IntKind.i64.wrap ((i : Int) + 1) = ((i + 1 : Nat) : Int) := by rw [IntKind.wrap_i64]; omega
  go_simp
theorem blkG.nds {w : World} {b : Nat} {p v : List UInt8} (hh : w.heap[b]? = some (.cells #[.string (mkB p), .string (mkB v)] 27 (0, 0))) : Nds w (.slice (some ⟨b, 0, none⟩) 1 1) [(p, v)] := by
  obtain ⟨c0, c1, _, _⟩ := row2 hh
  exact ⟨some ⟨b, 0, none⟩, 1, rfl, Nat.le_refl _, by unfold maxLen; omega, (fun h => by cases h), fun _ => ⟨b, 0, rfl, (Array.getElem?_eq_some_iff.1 hh).1, fun j hj => by
    have hj2 : j = 0 := by simp at hj; omega
    subst hj2
    exact ⟨c0, c1⟩⟩⟩
theorem blkG.strs {w : World} {b : Nat} {t : List UInt8} (hh : w.heap[b]? = some (.cells #[.string (mkB t)] 9 (0, 0))) : Strs w (.slice (some ⟨b, 0, none⟩) 1 1) [t] := by
  obtain ⟨c0, _⟩ := row1 hh
  exact ⟨some ⟨b, 0, none⟩, 1, rfl, Nat.le_refl _, by unfold maxLen; omega, (fun h => by cases h), fun _ => ⟨b, 0, rfl, (Array.getElem?_eq_some_iff.1 hh).1, fun j hj => by
    have hj2 : j = 0 := by simp at hj; omega
    subst hj2
    exact c0⟩⟩
theorem StoO.far {w : World} {N g i : Nat} {v : Value} {K : List Nd} {T : List (List UInt8)} (h : StoO w N v K T) (hg : g < N) (y : Value) : StoO (w.setCell ⟨g, i, none⟩ y) N v K T := by
  obtain ⟨x, z, rfl, h1, h2⟩ := h
  exact ⟨x, z, rfl, row_far1 h1 hg y, row_far1 h2 hg y⟩

/-! ### seek -/
set_option maxHeartbeats 1600000 in
theorem seek_no (A B : Option Addr) (n c m d : Nat) (K : List Nd) (T : List (List UInt8)) (p v : List UInt8) (w : World) (hk : Nds w (.slice A n c) K) (ht : Strs w (.slice B m d) T) (hs : ∀ n ∈ K, smallN n) (hn : smallN (p, v)) (h : (okS K T && okN (p, v)) = false) :
    Calls Try.prog 25 #[.agg #[.slice A n c, .slice B m d], .agg #[.string (mkB p), .string (mkB v)]] w fun e w' => e = .returned (.tuple #[.int .i64 0, .bool false, .int .i64 1]) ∧ Below w.heap.size w w' := by
  obtain ⟨W, g, g', hW, hg, hg', r0, r1, hb⟩ := boxS2 w (.slice A n c) (.slice B m d) (.string (mkB p)) (.string (mkB v)) 25 27
  obtain ⟨d0, d1, -, -⟩ := row2 r0
  obtain ⟨d2, d3, -, -⟩ := row2 r1
  obtain ⟨x, hx⟩ : ∃ x, okS K T = x := ⟨_, rfl⟩
  have hck : chkS K T = if x = true then 0 else 1 := by rw [← hx]; rfl
  have SK := Lib.hid (hk.below hb); have ST := Lib.hid (ht.belowB hb); have HS := Lib.hid hs; have HN := Lib.hid hn; have HW := Lib.hid hW; have HG := Lib.hid hg; have HG' := Lib.hid hg'; have BB := Lib.hid hb; have HCK := Lib.hid hck
  rw [hx] at h
  clear hk ht hs hn hW hg hg' hb hck hx r0 r1
  cases x
  · go_enter Try.func25, Try.ntmps25
    go_upto_region 1 with fail
    rw [HW.out, HG'.out, HG.out]
    go_wp2_with (go_at_call 13; refine (schk_any _ _ _ _ _ _ K T _ SK.out ST.out HS.out).mono ?_; rintro e w1 ⟨rfl, hb1⟩; rw [HCK.out]; replace BB := Lib.hid (below_step BB.out hb1); clear hb1)
    go_ret3
    exact ⟨rfl, BB.out⟩
  · rw [Bool.true_and] at h
    have HON := Lib.hid h; clear h
    go_enter Try.func25, Try.ntmps25
    go_upto_region 1 with fail
    rw [HW.out, HG'.out, HG.out]
    go_wp2_with (first
      | (go_at_call 13; refine (schk_any _ _ _ _ _ _ K T _ SK.out ST.out HS.out).mono ?_; rintro e w1 ⟨rfl, hb1⟩; rw [HCK.out]; replace BB := Lib.hid (below_step BB.out hb1); replace d2 := cell_keep d2 hb1; replace d3 := cell_keep d3 hb1; clear hb1)
      | (go_at_call 38; refine (nmay_any _ _ _ HN.out.1 HN.out.2).mono ?_; rintro e w1 ⟨rfl, hb1⟩; rw [HON.out]; replace BB := Lib.hid (below_step BB.out hb1); clear hb1))
    go_ret3
    exact ⟨rfl, BB.out⟩
set_option maxHeartbeats 1600000 in
theorem seek_yes (A B : Option Addr) (n c m d : Nat) (K : List Nd) (T : List (List UInt8)) (p v : List UInt8) (w : World) (hk : Nds w (.slice A n c) K) (ht : Strs w (.slice B m d) T) (hs : ∀ n ∈ K, smallN n) (hn : smallN (p, v)) (hl : n ≤ 600000) (h : okS K T = true) (h' : okN (p, v) = true) :
    Calls Try.prog 25 #[.agg #[.slice A n c, .slice B m d], .agg #[.string (mkB p), .string (mkB v)]] w fun e w' => (∃ i : Nat, e = .returned (.tuple #[.int .i64 (i : Int), .bool (hasN K (p, v)), .int .i64 0]) ∧ i ≤ n ∧ FindI K (p, v) i i) ∧ Below w.heap.size w w' := by
  obtain ⟨W, g, g', hW, hg, hg', r0, r1, hb⟩ := boxS2 w (.slice A n c) (.slice B m d) (.string (mkB p)) (.string (mkB v)) 25 27
  obtain ⟨d0, d1, -, -⟩ := row2 r0
  obtain ⟨d2, d3, -, -⟩ := row2 r1
  obtain ⟨F, hF⟩ : ∃ F, hasN K (p, v) = F := ⟨_, rfl⟩
  have hck : chkS K T = 0 := by unfold chkS; rw [h]; rfl
  have hK0 : checkN K = true := by unfold okS at h; rw [Bool.and_eq_true] at h; exact h.1
  have hfd := fun w h1 h2 h3 h4 => find_any n c g' g A K p v w h1 hn hs h2 h3 h4 h' hK0 (by omega)
  rw [hF] at hfd ⊢
  have hnc := hk.lenE.2
  obtain ⟨hnc1, hnc2⟩ := hnc
  unfold maxLen at hnc2
  have SK := Lib.hid (hk.below hb); have ST := Lib.hid (ht.belowB hb); have HS := Lib.hid hs; have HN := Lib.hid hn; have HW := Lib.hid hW; have HG := Lib.hid hg; have HG' := Lib.hid hg'; have BB := Lib.hid hb; have HCK := Lib.hid hck; have HON := Lib.hid h'; have HFD := Lib.hid hfd
  clear hk ht hs hn hW hg hg' hb hck r0 r1 h h' hfd hF hK0
  go_enter Try.func25, Try.ntmps25
  go_upto_region 1 with fail
  rw [HW.out, HG'.out, HG.out]
  go_wp2_with (first
    | (go_at_call 13; refine (schk_any _ _ _ _ _ _ K T _ SK.out ST.out HS.out).mono ?_; rintro e w1 ⟨rfl, hb1⟩; rw [HCK.out]; replace BB := Lib.hid (below_step BB.out hb1); replace SK := Lib.hid (SK.out.below hb1); replace d0 := cell_keep d0 hb1; replace d1 := cell_keep d1 hb1; replace d2 := cell_keep d2 hb1; replace d3 := cell_keep d3 hb1; clear hb1)
    | (go_at_call 38; refine (nmay_any _ _ _ HN.out.1 HN.out.2).mono ?_; rintro e w1 ⟨rfl, hb1⟩; rw [HON.out]; replace BB := Lib.hid (below_step BB.out hb1); replace SK := Lib.hid (SK.out.below hb1); replace d0 := cell_keep d0 hb1; replace d1 := cell_keep d1 hb1; replace d2 := cell_keep d2 hb1; replace d3 := cell_keep d3 hb1; clear hb1)
    | (go_at_call 39; refine (HFD.out _ SK.out d2 d3 d0).mono ?_; rintro e w1 ⟨⟨i, rfl, hi, hI⟩, hb1⟩; have HI := Lib.hid hI; replace BB := Lib.hid (below_step BB.out hb1); clear hb1 hI HFD))
  go_ret3
  exact ⟨⟨i, rfl, hi, HI.out⟩, BB.out⟩
end Go.Proofs.Ytceefoiffkgliaa
