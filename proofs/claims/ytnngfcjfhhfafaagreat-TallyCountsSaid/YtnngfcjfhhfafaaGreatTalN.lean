/- Rows' nodes, a path's last version: of the document. -/
import Derived.Test.YtnngfcjfhhfafaaGreatTalK
namespace Go.Proofs.YtnngfcjfhhfafaaGreat
open Go.RowKit
set_option linter.unusedVariables false
set_option maxRecDepth 100000

theorem build_ndT {w : World} {x y : ByteArray} : Sem.run Tryz.prog (Instr.build 24 #[(0, .string x), (1, .string y)]) w = .ok (.agg #[.string x, .string y]) w := by go_simp
theorem run_app_ndU {w : World} {base n : Nat} {v : Value} {K : List Nd} (hown : w.ownsRow base 24 2 v n (ndsC K)) {ad : Addr} {m c : Nat} {L : List Nd} (hN : Nds w (.slice (some ad) m c) L) (hlen : n + m ≤ 200000000) (hbase : base ≤ w.heap.size) (t : TypeId) :
    ∃ v' w', (Builtin.append_ #[35, 35] t #[v, .slice (some ad) m c]).run Tryz.prog w = .ok v' w' ∧ w'.ownsRow base 24 2 v' (n + m) (ndsC (K ++ L)) ∧ w.grownBy w' v.ownBlock ∧ (v'.ownBlock = v.ownBlock ∨ v'.ownBlock = some w.heap.size ∧ w.heap.size < w'.heap.size) := by
  obtain ⟨i, hi, hz, hsize, hby⟩ := info_parts Tryz.info_node
  obtain ⟨v', w', hr, h2, h3, _, h5⟩ := run_append_own_at (P := Tryz.prog) w base 35 t 24 i (.agg #[.string ByteArray.empty, .string ByteArray.empty]) 2 32 Tryz.underlying35 hi hz hsize hby rfl (by decide) v n _ hown ad m c (ndsC L) (by rw [ndsC_len, hN.lenE.1]) (hN.src ad rfl) (fun u hu => List.all_eq_true.1 (ndsC_one L) u hu) (by unfold maxLen; omega) (by omega) hbase
  rw [← ndsC_app] at h2
  exact ⟨v', w', hr, h2, h3, h5.imp id fun e => ⟨e, (h2.lt _ e).2⟩⟩
section
variable {ops : Array Oper} {Q : Exit → Act → World → Prop} {a : Act} {w w0 : World} {who : Nat → Nat} {i B r ro : Nat} {o : Oper}
/-- 'append(l, n)', l nodes of the region's own. -/
theorem rol_pushN (ho : ops[i]? = some o) (hw : Region.wanted o (yielded ops a.tmps) = true) {s : Nat} (hd : o.dst = some s) (hs : s < a.tmps.size) {y : Operand} {q : Nat} (hop : o.op = .call { callee := .builtin .append, args := #[y, .tmp q], argTypes := #[35, 35] })
    {N t n : Nat} {K : List Nd} {Y : Value} (h : (RLeaf.mem t (rowX Y N 24 2 n (ndsC K))).holds r a w who) (hy : a.eval y = Y) {p v : List UInt8} {r2 : Nat} (hq : (RLeaf.mem q (blkG 24 #[.string (mkB p), .string (mkB v)] 1)).holds r2 a w who) (hlen : n ≤ 100000000) (hb : Below B w0 w) (hB : B ≤ N) (hNw : N ≤ w.heap.size) {n' : Nat} (hn : n' = n + 1) {K' : List Nd} (hv : K' = K ++ [(p, v)]) :
    wpOp Tryz.prog ops Q i (RPost ops i r r (.mem s (rowG N 24 2 n' (ndsC K'))) B w0 a w who) a w := by
  subst hn hv
  obtain ⟨_, ob, -, hob, hrow, rfl⟩ := h
  obtain ⟨u, ob2, hu, -, b, rfl, rfl, hh⟩ := hq
  obtain ⟨v', w', hr, h2, h3, h5⟩ := run_app_ndU hrow (blk_nds hh) (m := 1) (c := 1) (by omega) hNw o.type
  exact rol_grow ho hw hd hs (ex_append hop hy (eval_slot hu) hr) h3 hob h5 ⟨h2, rfl⟩ hb (Nat.le_trans hB hNw) (fun b e => Nat.le_trans hB (own_lt hrow e).1)
end

set_option maxHeartbeats 3200000 in
theorem refall_any16 (V : Value) (l : List Rw) (w : World) (hV : Rws w V l) (hl : l.length ≤ 1000) (hv : ∀ r ∈ l, r.2.length ≤ 10000) :
    Calls Tryz.prog 18 #[V] w fun e w' => ∃ x, e = .returned x ∧ w'.ownsRow w.heap.size 24 2 x (rwAll l).length (ndsC (rwAll l)) ∧ Below w.heap.size w w' := by
  obtain ⟨Al, cl, rfl, hl1, hl2, -, -⟩ := hV.ex
  unfold maxLen at hl2
  obtain ⟨n, hn⟩ : ∃ n, l.length = n := ⟨_, rfl⟩
  rw [hn] at hl hl1 hV ⊢
  have SV := Lib.hid hV; have HN := Lib.hid hn; have HV := Lib.hid hv
  obtain ⟨R, hR⟩ : ∃ R, rwAll l = R := ⟨_, rfl⟩
  rw [hR]
  have HR := Lib.hid hR
  obtain ⟨N0, hN0⟩ : ∃ N, w.heap.size = N := ⟨_, rfl⟩
  have HN0 := Lib.hid hN0
  rw [hN0]
  have hal := fun k => all_len (M := 10000) (l := l.take k) fun r hr => hv r (List.mem_of_mem_take hr)
  have HAL := Lib.hid (show ∀ k, (rwAll (l.take k)).length ≤ n * 10000 from fun k => Nat.le_trans (hal k) (Nat.mul_le_mul_right _ (by rw [List.length_take]; omega)))
  clear hV hn hv hR hN0 hal
  go_enter Tryz.func18, Tryz.ntmps18
  go_wp2
  go_loopw [3, 4] (fun v3 i wr => ∃ (k : Nat) (X : Value), k ≤ n ∧ i = .int .i64 k ∧ X = v3 ∧ Hid (wr.ownsRow N0 24 2 X (rwAll (l.take k)).length (ndsC (rwAll (l.take k)))) ∧ Hid (Below N0 w wr)) (fun _ i _ => n - (intOf i).toNat)
  case atStart => exact ⟨0, _, Nat.zero_le _, rfl, rfl, Lib.hid (World.ownsRow_nil _ _ _ _), Lib.hid (Below.refl _ _)⟩
  case round =>
    obtain ⟨k, X, hk, rfl, rfl, HO, HB⟩ := hrel
    by_cases hlt : k < n
    · have hkl : k < l.length := by rw [HN.out]; exact hlt
      obtain ⟨bl, ol, ay, ny, cy, rfl, c0, c1, hsy⟩ := SV.out.at k hkl
      have htk := all_take hkl
      have hvy := HV.out _ (gd_in (z := zR) hkl)
      obtain ⟨y, hy⟩ : ∃ y, y = l.getD k zR := ⟨_, rfl⟩
      rw [← hy] at c0 hsy htk hvy
      obtain ⟨p, vs⟩ := y
      simp only at c0 c1 hsy hvy htk
      have hny := hsy.lenE
      have hkb : (k : Int) < (n : Int) := by omega
      have HTK := Lib.hid htk; have SY := Lib.hid hsy; have HVL := Lib.hid hny.1; have C0 := Lib.hid c0; have C1 := Lib.hid c1; have HKN := Lib.hid hlt
      have hny2 : ny ≤ 10000 := by rw [← hny.1]; exact hvy
      obtain ⟨-, hny1, hny3⟩ := hny
      unfold maxLen at hny3
      obtain ⟨P, hP⟩ : ∃ P, rwAll (l.take k) = P := ⟨_, rfl⟩
      have hpl : P.length ≤ n * 10000 := by rw [← hP]; exact HAL.out k
      rw [hP] at HO HTK
      clear hy htk hvy hsy c0 c1 hP
      go_wp2
      go_loopw [3, 5] (fun v3 i ws => ∃ (j : Nat) (Y : Value) (K : List Nd) (q : Nat), j ≤ ny ∧ i = .int .i64 j ∧ Y = v3 ∧ Hid (K = P ++ (vs.take j).map fun v => (p, v)) ∧ Hid (K.length = q) ∧ Hid (q = P.length + j) ∧ Hid (ws.ownsRow N0 24 2 Y q (ndsC K)) ∧ Hid (Below N0 w ws)) (fun _ i _ => ny - (intOf i).toNat)
      case atStart => exact ⟨0, _, P, _, Nat.zero_le _, rfl, rfl, Lib.hid (by simp), Lib.hid rfl, Lib.hid rfl, HO, HB⟩
      case round =>
        obtain ⟨j, Y, K, q, hj, rfl, rfl, HK, HQ, HQE, HOW, HB6⟩ := hrel
        have hbw : Below w.heap.size w wr := by rw [HN0.out]; exact HB6.out
        have g1 := cell_keep C1.out hbw
        have HNS := Lib.hid (show N0 ≤ wr.heap.size by rw [← HN0.out]; exact hbw.size)
        by_cases hlt2 : j < ny
        · have hjl : j < vs.length := by rw [HVL.out]; exact hlt2
          obtain ⟨bz, oz, rfl, hcz⟩ := SY.out.atT j hjl
          obtain ⟨x, hx⟩ : ∃ x, x = vs.getD j [] := ⟨_, rfl⟩
          rw [← hx] at hcz
          have htj : (vs.take (j + 1)).map (fun v => (p, v)) = (vs.take j).map (fun v => (p, v)) ++ [(p, x)] := by
            rw [List.take_succ_eq_append_getElem hjl, List.map_append, hx, gd_at hjl]; rfl
          obtain ⟨K2, hK2⟩ : ∃ K2, K2 = K ++ [(p, x)] := ⟨_, rfl⟩
          have HTJ := Lib.hid htj; have CX := Lib.hid hcz; have HJN := Lib.hid hlt2; have HK2 := Lib.hid hK2; have HQB := Lib.hid (show q ≤ 100000000 by have := HQE.out; omega)
          have hjb : (j : Int) < (ny : Int) := by omega
          clear hx htj hcz hjl hK2 hbw
          go_upto_region 8 with fail
          clear g1
          refine rol_run (by kernel_rfl) [[], [], [], [1, 2], [1, 2, 3], [1, 2, 3, 4], [], [], [6, 7], [6, 7, 8], [6, 7, 8, 9], [], [6, 7, 8, 9, 10, 11], [6, 7, 8, 9, 10, 11, 12], [1, 2, 3, 4, 5, 6, 7, 8, 9, 10, 11, 12, 13], [1, 2, 3, 4, 5, 6, 7, 8, 9, 10, 11, 12, 13, 14], [0, 1, 2, 3, 4, 5, 6, 7, 8, 9, 10, 11, 12, 13, 14, 15], [0, 1, 2, 3, 4, 5, 6, 7, 8, 9, 10, 11, 12, 13, 14, 15, 16]] (by kernel_rfl) [22, 23, 24, 25, 26, 27, 28, 29, 30, 31, 32, 33, 34, 35, 36, 37, 38, 3] [[19], [], [], [1, 2], [3], [4], [], [], [6, 7], [8], [9], [], [10, 11], [12], [5, 13], [14], [0, 15, 18], [16]] [0, 0, 0, 0, 0, 0, 0, 0, 0, 0, 0, 0, 0, 0, 0, 2, 1, 1, 1, 0] [0, 0, 0, 0, 0, 0, 0, 0, 0, 0, 0, 0, 0, 0, 0, 0, 1, 0] [1000, 1000, 1000, 1000, 1000, 1000, 1000, 1000, 1000, 1000, 1000, 1000, 1000, 1000, 1000, 1000, 1000, 1000, 16, 17] [.val 22 (Y), .val 23 (.slice (some ⟨bl, ol, none⟩) n cl), .val 24 (.int .i64 (k : Int)), .val 25 (.pointer (some ⟨bl, ol + k * 2, none⟩)), .val 26 (.pointer (some ⟨bl, ol + k * 2, none⟩)), .val 27 (.string (mkB p)), .val 28 (.slice (some ⟨bl, ol, none⟩) n cl), .val 29 (.int .i64 (k : Int)), .val 30 (.pointer (some ⟨bl, ol + k * 2, none⟩)), .val 31 (.pointer (some ⟨bl, ol + k * 2 + 1, none⟩)), .val 32 (.slice (some ⟨bz, oz, none⟩) ny cy), .val 33 (.int .i64 (j : Int)), .val 34 (.pointer (some ⟨bz, oz + j, none⟩)), .val 35 (.string (mkB x)), .val 36 (.agg #[.string (mkB p), .string (mkB x)]), .mem 37 (blkG 24 #[.string (mkB p), .string (mkB x)] 1), .mem 38 (rowG N0 24 2 (q + 1) (ndsC K2)), .mem 3 (rowG N0 24 2 (q + 1) (ndsC K2)), .mem 3 (rowX Y N0 24 2 q (ndsC K)), .val 3 Y] (by kernel_rfl) ?_ (N0) (wr.heap.size) rfl HB6.out rfl (fun _ => 1) ?_ ?_ ?_
          · intro j hj
            have hj3 : j < 20 := hj
            have hj2 : j = 0 ∨ j = 1 ∨ j = 2 ∨ j = 3 ∨ j = 4 ∨ j = 5 ∨ j = 6 ∨ j = 7 ∨ j = 8 ∨ j = 9 ∨ j = 10 ∨ j = 11 ∨ j = 12 ∨ j = 13 ∨ j = 14 ∨ j = 15 ∨ j = 16 ∨ j = 17 ∨ j = 18 ∨ j = 19 := by omega
            clear hj hj3
            rcases hj2 with rfl | rfl | rfl | rfl | rfl | rfl | rfl | rfl | rfl | rfl | rfl | rfl | rfl | rfl | rfl | rfl | rfl | rfl | rfl | rfl
            · exact trivial
            · exact trivial
            · exact trivial
            · exact trivial
            · exact trivial
            · exact trivial
            · exact trivial
            · exact trivial
            · exact trivial
            · exact trivial
            · exact trivial
            · exact trivial
            · exact trivial
            · exact trivial
            · exact trivial
            · exact blkG_near
            · exact rowG_near
            · exact rowG_near
            · exact rowX_near
            · exact trivial
          · intro j hj0 hj
            have hj1 : 18 ≤ j := hj0
            have hj3 : j < 20 := hj
            have hj2 : j = 18 ∨ j = 19 := by omega
            clear hj0 hj hj1 hj3
            rcases hj2 with rfl | rfl
            · exact ⟨_, _, rfl, fun b e => ⟨(own_lt HOW.out e).2, rfl⟩, HOW.out, rfl⟩
            · exact rfl
          · intro i hi a wx who hG hF
            have hz : a.tmps.size = 40 := hG.size
            have hi3 : i < 18 := hi
            have hi2 : i = 0 ∨ i = 1 ∨ i = 2 ∨ i = 3 ∨ i = 4 ∨ i = 5 ∨ i = 6 ∨ i = 7 ∨ i = 8 ∨ i = 9 ∨ i = 10 ∨ i = 11 ∨ i = 12 ∨ i = 13 ∨ i = 14 ∨ i = 15 ∨ i = 16 ∨ i = 17 := by omega
            clear hi hi3
            rcases hi2 with rfl | rfl | rfl | rfl | rfl | rfl | rfl | rfl | rfl | rfl | rfl | rfl | rfl | rfl | rfl | rfl | rfl | rfl
            · exact rol_val rfl rfl rfl (by rw [hz]; decide) (ex_move (Or.inl rfl) (eval_slot (hF 19 (by decide)))) hG.below
            · exact rol_val rfl rfl rfl (by rw [hz]; decide) (ex_move (Or.inl rfl) (eval_slot ((hG.slots 0 (by decide)).trans rfl))) hG.below
            · exact rol_val rfl rfl rfl (by rw [hz]; decide) (ex_move (Or.inl rfl) (eval_slot ((hG.slots 4 (by decide)).trans rfl))) hG.below
            · exact rol_val rfl rfl rfl (by rw [hz]; decide) (ex_index rfl (eval_slot (hF 1 (by decide))) (eval_slot (hF 2 (by decide))) (idx_rws HKN.out)) hG.below
            · exact rol_val rfl rfl rfl (by rw [hz]; decide) (ex_field rfl (eval_slot (hF 3 (by decide))) (by go_simp)) hG.below
            · exact rol_val rfl rfl rfl (by rw [hz]; decide) (ex_load rfl (eval_slot (hF 4 (by decide))) (ld_strT (cell_keep C0.out (by rw [HN0.out]; exact hG.below)))) hG.below
            · exact rol_val rfl rfl rfl (by rw [hz]; decide) (ex_move (Or.inl rfl) (eval_slot ((hG.slots 0 (by decide)).trans rfl))) hG.below
            · exact rol_val rfl rfl rfl (by rw [hz]; decide) (ex_move (Or.inl rfl) (eval_slot ((hG.slots 4 (by decide)).trans rfl))) hG.below
            · exact rol_val rfl rfl rfl (by rw [hz]; decide) (ex_index rfl (eval_slot (hF 6 (by decide))) (eval_slot (hF 7 (by decide))) (idx_rws HKN.out)) hG.below
            · exact rol_val rfl rfl rfl (by rw [hz]; decide) (ex_field rfl (eval_slot (hF 8 (by decide))) (by go_simp)) hG.below
            · exact rol_val rfl rfl rfl (by rw [hz]; decide) (ex_load rfl (eval_slot (hF 9 (by decide))) (ld_stsT (cell_keep C1.out (by rw [HN0.out]; exact hG.below)))) hG.below
            · exact rol_val rfl rfl rfl (by rw [hz]; decide) (ex_move (Or.inl rfl) (eval_slot ((hG.slots 5 (by decide)).trans rfl))) hG.below
            · exact rol_val rfl rfl rfl (by rw [hz]; decide) (ex_index rfl (eval_slot (hF 10 (by decide))) (eval_slot (hF 11 (by decide))) (idx_stsT HJN.out)) hG.below
            · exact rol_val rfl rfl rfl (by rw [hz]; decide) (ex_load rfl (eval_slot (hF 12 (by decide))) (ld_strT (cell_keep CX.out (by rw [HN0.out]; exact hG.below)))) hG.below
            · exact rol_val rfl rfl rfl (by rw [hz]; decide) (ex_build rfl (vs := #[(0, .string (mkB p)), (1, .string (mkB x))]) (by simp only [List.map_toArray, List.map_cons, List.map_nil, eval_slot (hF 5 (by decide)), eval_slot (hF 13 (by decide))]) build_ndT) hG.below
            · exact rol_newO rfl rfl rfl (by rw [hz]; decide) (x := .cells #[.string (mkB p), .string (mkB x)] 24) (v := .slice (some ⟨wx.heap.size, 0, none⟩) 1 1) (ex_slice rfl (vs := #[(0, .agg #[.string (mkB p), .string (mkB x)])]) (by simp only [List.map_toArray, List.map_cons, List.map_nil, eval_slot (hF 14 (by decide))]) (by go_simp)) ⟨_, rfl, rfl, heap_alloc_new _ _⟩ hG.below (Nat.le_trans HNS.out hG.new)
            · exact rol_pushN rfl rfl rfl (by rw [hz]; decide) rfl (hF 18 (by decide)) (eval_slot (hF 0 (by decide))) (hF 15 (by decide)) HQB.out hG.below (Nat.le_refl _) (Nat.le_trans HNS.out hG.new) rfl HK2.out
            · exact rol_move rfl rfl rfl (by rw [hz]; decide) (Or.inr rfl) (hF 16 (by decide)) hG.below
          · intro a wx who hG hF
            obtain ⟨v3, ob3, fv3, fo3, fp3⟩ := hF 17 (of_decide_eq_true (by kernel_rfl)) (of_decide_eq_true (by kernel_rfl))
            replace fv3 : a.tmps.getD 3 undef = v3 := eval_slot (s := 3) fv3
            have hbx := hG.below
            have hnx := hG.new
            rw [hG.frame]
            simp only [List.foldl_cons, List.foldl_nil, List.setIfInBounds_toArray, List.set_cons_zero, List.set_cons_succ]
            generalize a.tmps.getD 22 undef = u22
            generalize a.tmps.getD 23 undef = u23
            generalize a.tmps.getD 24 undef = u24
            generalize a.tmps.getD 25 undef = u25
            generalize a.tmps.getD 26 undef = u26
            generalize a.tmps.getD 27 undef = u27
            generalize a.tmps.getD 28 undef = u28
            generalize a.tmps.getD 29 undef = u29
            generalize a.tmps.getD 30 undef = u30
            generalize a.tmps.getD 31 undef = u31
            generalize a.tmps.getD 32 undef = u32
            generalize a.tmps.getD 33 undef = u33
            generalize a.tmps.getD 34 undef = u34
            generalize a.tmps.getD 35 undef = u35
            generalize a.tmps.getD 36 undef = u36
            generalize a.tmps.getD 37 undef = u37
            generalize a.tmps.getD 38 undef = u38
            rw [fv3]
            clear hF hG fv3
            have HBN := Lib.hid hbx; have HRW := Lib.hid fp3.1
            clear fo3 fp3 hbx hnx
            go_wp2
            go_roundw
            case rel => exact ⟨j + 1, _, K2, q + 1, by omega, by go_num, rfl, Lib.hid (by rw [HK2.out, HK.out, HTJ.out, List.append_assoc]), Lib.hid (by rw [HK2.out, List.length_append, HQ.out]; rfl), Lib.hid (by rw [HQE.out]; rfl), HRW, HBN⟩
            case measure => simp [intOf]; omega
        · have e : j = ny := by omega
          subst e
          have hK : K = rwAll (l.take (k + 1)) := by rw [HK.out, HTK.out, List.take_of_length_le (by rw [HVL.out]; exact Nat.le_refl _)]
          have HK2 := Lib.hid hK; clear hK hbw
          go_wp2
          go_roundw
          case rel => exact ⟨k + 1, _, by omega, by go_num, rfl, Lib.hid (by rw [← HK2.out, HQ.out]; exact HOW.out), HB6⟩
          case measure => simp [intOf]; omega
    · have e : k = n := by omega
      subst e
      have hP : rwAll (l.take k) = R := by rw [List.take_of_length_le (by rw [HN.out]; exact Nat.le_refl _)]; exact HR.out
      rw [hP] at HO
      clear hP
      go_wp2
      go_ret
      exact ⟨_, rfl, HO.out, HB.out⟩

/-! ### The last version -/
def stepB (p : List UInt8) (s : List UInt8 × Bool) (r : Rw) : List UInt8 × Bool := if (decide (r.1 = p) && decide (0 < r.2.length)) = true then (lastV r.2, true) else s
def refB (l : List Rw) (p : List UInt8) : List UInt8 × Bool := l.foldl (stepB p) ([], false)
theorem refB_take {l : List Rw} {p : List UInt8} {k : Nat} (h : k < l.length) : refB (l.take (k + 1)) p = stepB p (refB (l.take k) p) (l.getD k zR) := by
  unfold refB; rw [List.take_succ_eq_append_getElem h, List.foldl_append, gd_at h]; rfl
theorem stepB_none {p : List UInt8} : ∀ {l : List Rw} (s : List UInt8 × Bool), (∀ r ∈ l, r.1 ≠ p) → l.foldl (stepB p) s = s
  | [], _, _ => rfl
  | r :: l, s, h => by
    have h1 : stepB p s r = s := by unfold stepB; rw [decide_eq_false (h r List.mem_cons_self)]; rfl
    rw [List.foldl_cons, h1]; exact stepB_none s fun x hx => h x (List.mem_cons_of_mem _ hx)
theorem refB_is {l : List Rw} {p : List UInt8} (ol : okR l = true) : refB l p = if rwVer l p = [] then ([], false) else (lastV (rwVer l p), true) := by
  by_cases h : ∃ r ∈ l, r.1 = p
  · obtain ⟨r, hr, rfl⟩ := h
    obtain ⟨a, b, rfl⟩ := List.append_of_mem hr
    obtain ⟨h1, h2⟩ := okR_iff.1 ol
    obtain ⟨-, q2, q3⟩ := List.pairwise_append.1 h2
    have hne := (fitV_iff.1 (h1 r hr).2).2.2
    have n1 : ∀ x ∈ a, x.1 ≠ r.1 := fun x hx => ltP_ne (q3 x hx r List.mem_cons_self)
    have n2 : ∀ x ∈ b, x.1 ≠ r.1 := fun x hx => (ltP_ne ((List.pairwise_cons.1 q2).1 x hx)).symm
    rw [ver_at ol, if_neg hne]
    unfold refB
    rw [List.foldl_append, List.foldl_cons, stepB_none _ n1, stepB_none _ n2]
    unfold stepB
    rw [decide_eq_true rfl, decide_eq_true (List.length_pos_iff.2 hne)]; rfl
  · have hn : ∀ r ∈ l, r.1 ≠ p := fun r hr e => h ⟨r, hr, e⟩
    rw [ver_none hn, if_pos rfl]
    exact stepB_none _ hn

set_option maxHeartbeats 3200000 in
theorem refbest_any16 (V : Value) (l : List Rw) (p : List UInt8) (w : World) (hV : Rws w V l) (hv : ∀ r ∈ l, r.2.length ≤ 10000) :
    Calls Tryz.prog 30 #[V, .string (mkB p)] w fun e w' => e = .returned (.tuple #[.string (mkB (refB l p).1), .bool (refB l p).2]) ∧ Below w.heap.size w w' := by
  obtain ⟨Al, cl, rfl, hl1, hl2, -, -⟩ := hV.ex
  unfold maxLen at hl2
  obtain ⟨n, hn⟩ : ∃ n, l.length = n := ⟨_, rfl⟩
  rw [hn] at hl1 hV ⊢
  have SV := Lib.hid hV; have HN := Lib.hid hn; have HV := Lib.hid hv
  obtain ⟨E, hE⟩ : ∃ E, refB l p = E := ⟨_, rfl⟩
  rw [hE]
  have HE := Lib.hid hE
  clear hV hn hv hE
  go_enter Tryz.func30, Tryz.ntmps30
  go_wp2
  go_loopw [6, 7, 8] (fun v6 v7 i wr => ∃ (k : Nat) (z : List UInt8) (u : Bool), k ≤ n ∧ v6 = .string (mkB z) ∧ v7 = .bool u ∧ i = .int .i64 k ∧ Hid (refB (l.take k) p = (z, u)) ∧ Hid (Below w.heap.size w wr)) (fun _ _ i _ => n - (intOf i).toNat)
  case atStart => exact ⟨0, [], false, Nat.zero_le _, rfl, rfl, rfl, Lib.hid rfl, Lib.hid (Below.refl _ _)⟩
  case round =>
    obtain ⟨k, z, u, hk, rfl, rfl, rfl, HZ, HB⟩ := hrel
    by_cases hlt : k < n
    · have hkl : k < l.length := by rw [HN.out]; exact hlt
      obtain ⟨bl, ol, ay, ny, cy, rfl, c0, c1, hsy⟩ := (SV.out.below HB.out).at k hkl
      have htk := refB_take (p := p) hkl
      have hvy := HV.out _ (gd_in (z := zR) hkl)
      obtain ⟨y, hy⟩ : ∃ y, y = l.getD k zR := ⟨_, rfl⟩
      rw [← hy] at c0 hsy htk hvy
      obtain ⟨p2, vs⟩ := y
      simp only at c0 c1 hsy hvy htk
      have hny := hsy.lenE
      have hkb : (k : Int) < (n : Int) := by omega
      rw [HZ.out] at htk
      unfold stepB at htk
      simp only [hny.1] at htk
      have hpq := mk_beq p2 p
      obtain ⟨o, ho⟩ : ∃ o, decide (p2 = p) = o := ⟨_, rfl⟩
      rw [ho] at htk hpq
      have hny2 : ny ≤ 10000 := by rw [← hny.1]; exact hvy
      have SY := Lib.hid hsy; have HVL := Lib.hid hny.1; have HKN := Lib.hid hlt
      obtain ⟨-, hny1, hny3⟩ := hny
      unfold maxLen at hny3
      clear hy hvy hsy ho
      cases o with
      | false =>
        have H5 := Lib.hid (show refB (l.take (k + 1)) p = (z, u) by rw [htk]; rfl)
        clear htk
        go_wp2
        go_roundw
        case rel => exact ⟨k + 1, z, u, by omega, rfl, rfl, by go_num, H5, HB⟩
        case measure => simp [intOf]; omega
      | true =>
        by_cases h0 : ny = 0
        · have H5 := Lib.hid (show refB (l.take (k + 1)) p = (z, u) by rw [htk, h0]; rfl)
          have hz : decide (0 < ny) = false := by simp [h0]
          clear htk h0
          go_wp2
          go_roundw
          case rel => exact ⟨k + 1, z, u, by omega, rfl, rfl, by go_num, H5, HB⟩
          case measure => simp [intOf]; omega
        · have hz : decide (0 < ny) = true := by simp; omega
          obtain ⟨m, hm⟩ : ∃ m, ny = m + 1 := ⟨ny - 1, by omega⟩
          obtain ⟨bz, oz, rfl, hcz⟩ := SY.out.atT m (by rw [HVL.out]; omega)
          have hl5 : vs.getD m [] = lastV vs := by unfold lastV; rw [HVL.out, hm]; rfl
          rw [hl5] at hcz
          obtain ⟨x, hx⟩ : ∃ x, lastV vs = x := ⟨_, rfl⟩
          rw [hx] at hcz htk
          have H5 := Lib.hid (show refB (l.take (k + 1)) p = (x, true) by rw [htk, hz]; rfl)
          have HM := Lib.hid hm; have HNB := Lib.hid (show ny ≤ 1000000 by omega); have HMN := Lib.hid (show m < ny by omega); have GX := Lib.hid hcz; have G1 := Lib.hid c1
          clear htk h0 hm hl5 hx hcz
          go_upto_region 6 with fail
          clear c0 c1
          refine rol_run (by kernel_rfl) [[], [], [0, 1], [0, 1, 2], [0, 1, 2, 3], [], [], [5, 6], [5, 6, 7], [5, 6, 7, 8], [5, 6, 7, 8, 9], [5, 6, 7, 8, 9, 10], [0, 1, 2, 3, 4, 5, 6, 7, 8, 9, 10, 11], [0, 1, 2, 3, 4, 5, 6, 7, 8, 9, 10, 11, 12], [0, 1, 2, 3, 4, 5, 6, 7, 8, 9, 10, 11, 12, 13], [0, 1, 2, 3, 4, 5, 6, 7, 8, 9, 10, 11, 12, 13, 14]] (by kernel_rfl) [31, 32, 33, 34, 35, 36, 37, 38, 39, 40, 41, 42, 43, 44, 6, 7] [[], [], [0, 1], [2], [3], [], [], [5, 6], [7], [8], [9], [10], [4, 11], [12], [13], []] [0, 0, 0, 0, 0, 0, 0, 0, 0, 0, 0, 0, 0, 0, 0, 0] [0, 0, 0, 0, 0, 0, 0, 0, 0, 0, 0, 0, 0, 0, 0, 0] [1000, 1000, 1000, 1000, 1000, 1000, 1000, 1000, 1000, 1000, 1000, 1000, 1000, 1000, 1000, 1000] [.val 31 (.slice (some ⟨bl, ol, none⟩) n cl), .val 32 (.int .i64 (k : Int)), .val 33 (.pointer (some ⟨bl, ol + k * 2, none⟩)), .val 34 (.pointer (some ⟨bl, ol + k * 2 + 1, none⟩)), .val 35 (.slice (some ⟨bz, oz, none⟩) ny cy), .val 36 (.slice (some ⟨bl, ol, none⟩) n cl), .val 37 (.int .i64 (k : Int)), .val 38 (.pointer (some ⟨bl, ol + k * 2, none⟩)), .val 39 (.pointer (some ⟨bl, ol + k * 2 + 1, none⟩)), .val 40 (.slice (some ⟨bz, oz, none⟩) ny cy), .val 41 (.int .i64 (ny : Int)), .val 42 (.int .i64 (m : Int)), .val 43 (.pointer (some ⟨bz, oz + m, none⟩)), .val 44 (.string (mkB x)), .val 6 (.string (mkB x)), .val 7 (.bool true)] (by kernel_rfl) ?_ (wr.heap.size) (wr.heap.size) rfl (Below.refl _ _) rfl (fun _ => 0) ?_ ?_ ?_
          · intro j hj
            have hj3 : j < 16 := hj
            have hj2 : j = 0 ∨ j = 1 ∨ j = 2 ∨ j = 3 ∨ j = 4 ∨ j = 5 ∨ j = 6 ∨ j = 7 ∨ j = 8 ∨ j = 9 ∨ j = 10 ∨ j = 11 ∨ j = 12 ∨ j = 13 ∨ j = 14 ∨ j = 15 := by omega
            clear hj hj3
            rcases hj2 with rfl | rfl | rfl | rfl | rfl | rfl | rfl | rfl | rfl | rfl | rfl | rfl | rfl | rfl | rfl | rfl
            · exact trivial
            · exact trivial
            · exact trivial
            · exact trivial
            · exact trivial
            · exact trivial
            · exact trivial
            · exact trivial
            · exact trivial
            · exact trivial
            · exact trivial
            · exact trivial
            · exact trivial
            · exact trivial
            · exact trivial
            · exact trivial
          · intro j hj0 hj
            exact absurd hj (Nat.not_lt.2 hj0)
          · intro i hi a wx who hG hF
            have hz : a.tmps.size = 47 := hG.size
            have hi3 : i < 16 := hi
            have hi2 : i = 0 ∨ i = 1 ∨ i = 2 ∨ i = 3 ∨ i = 4 ∨ i = 5 ∨ i = 6 ∨ i = 7 ∨ i = 8 ∨ i = 9 ∨ i = 10 ∨ i = 11 ∨ i = 12 ∨ i = 13 ∨ i = 14 ∨ i = 15 := by omega
            clear hi hi3
            rcases hi2 with rfl | rfl | rfl | rfl | rfl | rfl | rfl | rfl | rfl | rfl | rfl | rfl | rfl | rfl | rfl | rfl
            · exact rol_val rfl rfl rfl (by rw [hz]; decide) (ex_move (Or.inl rfl) (eval_slot ((hG.slots 0 (by decide)).trans rfl))) hG.below
            · exact rol_val rfl rfl rfl (by rw [hz]; decide) (ex_move (Or.inl rfl) (eval_slot ((hG.slots 8 (by decide)).trans rfl))) hG.below
            · exact rol_val rfl rfl rfl (by rw [hz]; decide) (ex_index rfl (eval_slot (hF 0 (by decide))) (eval_slot (hF 1 (by decide))) (idx_rws HKN.out)) hG.below
            · exact rol_val rfl rfl rfl (by rw [hz]; decide) (ex_field rfl (eval_slot (hF 2 (by decide))) (by go_simp)) hG.below
            · exact rol_val rfl rfl rfl (by rw [hz]; decide) (ex_load rfl (eval_slot (hF 3 (by decide))) (ld_stsT (cell_keep G1.out hG.below))) hG.below
            · exact rol_val rfl rfl rfl (by rw [hz]; decide) (ex_move (Or.inl rfl) (eval_slot ((hG.slots 0 (by decide)).trans rfl))) hG.below
            · exact rol_val rfl rfl rfl (by rw [hz]; decide) (ex_move (Or.inl rfl) (eval_slot ((hG.slots 8 (by decide)).trans rfl))) hG.below
            · exact rol_val rfl rfl rfl (by rw [hz]; decide) (ex_index rfl (eval_slot (hF 5 (by decide))) (eval_slot (hF 6 (by decide))) (idx_rws HKN.out)) hG.below
            · exact rol_val rfl rfl rfl (by rw [hz]; decide) (ex_field rfl (eval_slot (hF 7 (by decide))) (by go_simp)) hG.below
            · exact rol_val rfl rfl rfl (by rw [hz]; decide) (ex_load rfl (eval_slot (hF 8 (by decide))) (ld_stsT (cell_keep G1.out hG.below))) hG.below
            · exact rol_val rfl rfl rfl (by rw [hz]; decide) (ex_len rfl (eval_slot (hF 9 (by decide))) (by go_simp)) hG.below
            · exact rol_val rfl rfl rfl (by rw [hz]; decide) (ex_bin rfl (eval_slot (hF 10 (by decide))) rfl (by go_simp) (bin_sub1 HM.out HNB.out)) hG.below
            · exact rol_val rfl rfl rfl (by rw [hz]; decide) (ex_index rfl (eval_slot (hF 4 (by decide))) (eval_slot (hF 11 (by decide))) (idx_stsT HMN.out)) hG.below
            · exact rol_val rfl rfl rfl (by rw [hz]; decide) (ex_load rfl (eval_slot (hF 12 (by decide))) (ld_strT (cell_keep GX.out hG.below))) hG.below
            · exact rol_val rfl rfl rfl (by rw [hz]; decide) (ex_move (Or.inr rfl) (eval_slot (hF 13 (by decide)))) hG.below
            · exact rol_val rfl rfl rfl (by rw [hz]; decide) (ex_move (Or.inr rfl) rfl) hG.below
          · intro a wx who hG hF
            have fv6 : a.tmps.getD 6 undef = .string (mkB x) := eval_slot (s := 6) (hF 14 (of_decide_eq_true (by kernel_rfl)) (of_decide_eq_true (by kernel_rfl)))
            have fv7 : a.tmps.getD 7 undef = .bool true := eval_slot (s := 7) (hF 15 (of_decide_eq_true (by kernel_rfl)) (of_decide_eq_true (by kernel_rfl)))
            have hbx := hG.below
            have hnx := hG.new
            rw [hG.frame]
            simp only [List.foldl_cons, List.foldl_nil, List.setIfInBounds_toArray, List.set_cons_zero, List.set_cons_succ]
            generalize a.tmps.getD 31 undef = u31
            generalize a.tmps.getD 32 undef = u32
            generalize a.tmps.getD 33 undef = u33
            generalize a.tmps.getD 34 undef = u34
            generalize a.tmps.getD 35 undef = u35
            generalize a.tmps.getD 36 undef = u36
            generalize a.tmps.getD 37 undef = u37
            generalize a.tmps.getD 38 undef = u38
            generalize a.tmps.getD 39 undef = u39
            generalize a.tmps.getD 40 undef = u40
            generalize a.tmps.getD 41 undef = u41
            generalize a.tmps.getD 42 undef = u42
            generalize a.tmps.getD 43 undef = u43
            generalize a.tmps.getD 44 undef = u44
            rw [fv6]
            rw [fv7]
            clear hF hG fv6 fv7
            have HBN := Lib.hid (below_step HB.out hbx)
            clear hbx hnx
            go_wp2
            go_roundw
            case rel => exact ⟨k + 1, x, true, by omega, rfl, rfl, by go_num, H5, HBN⟩
            case measure => simp [intOf]; omega
    · have e : k = n := by omega
      subst e
      have hE : E = (z, u) := by rw [← HE.out, ← HZ.out, List.take_of_length_le (by rw [HN.out]; exact Nat.le_refl _)]
      have HE2 := Lib.hid hE; clear hE
      go_wp2
      go_ret2
      exact ⟨by rw [HE2.out]; rfl, HB.out⟩
end Go.Proofs.YtnngfcjfhhfafaaGreat
