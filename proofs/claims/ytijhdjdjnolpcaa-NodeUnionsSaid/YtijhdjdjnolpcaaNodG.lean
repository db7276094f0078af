/- Two nodes' sameness; whether a node is in a list: of the program and of the document; two lists' sameness. -/
import Derived.Test.YtijhdjdjnolpcaaNodD
import Derived.Deep.QuietTactic
import Derived.BigQuiet
namespace Go.Proofs.Ytijhdjdjnolpcaa
open Go.RowKit
set_option maxRecDepth 100000

theorem Nds.at {w : World} {a : Option Addr} {n c : Nat} {ns : List Nd} (h : Nds w (.slice a n c) ns) (k : Nat) (hk : k < ns.length) :
    ∃ b off, a = some ⟨b, off, none⟩ ∧ b < w.heap.size ∧ w.cell? ⟨b, off + k * 2, none⟩ = some (.string (mkB (ns.getD k ([], [])).1)) ∧ w.cell? ⟨b, off + k * 2 + 1, none⟩ = some (.string (mkB (ns.getD k ([], [])).2)) := by
  obtain ⟨a', c', hv, _, _, _, h3⟩ := h.ex
  injection hv with e1 e2 e3
  subst e1
  obtain ⟨b, off, ha, hlt, hc⟩ := h3 (by omega)
  exact ⟨b, off, ha, hlt, (hc k hk).1, (hc k hk).2⟩
/-- Nodes that are not too long to be looked at. -/
def smallN (n : Nd) : Prop := n.1.length ≤ 1000000000 ∧ n.2.length ≤ 1000000000
theorem nd_fields : Try.prog.underlying 23 = some (.struct (Try.prog.fieldsOf 23)) := by kernel_rfl
theorem nd_held : Try.prog.stoodInHeld 23 = false := by kernel_rfl
theorem eqin_nd (p v p' v' : List UInt8) (w : World) : Sem.run Try.prog (Op.equalIn 10000 23 (.agg #[.string (mkB p), .string (mkB v)]) (.agg #[.string (mkB p'), .string (mkB v')])) w = .ok (decide ((p, v) = (p', v'))) w := by
  have hs := fun a b w => str_eq 9998 a b w
  have ha : ∀ w, Sem.run Try.prog (isAgg 9) w = .ok false w := by intro w; kernel_rfl
  have hz : ∀ w, Sem.run Try.prog (sizeOf 9) w = .ok 1 w := by intro w; kernel_rfl
  rw [show (10000 : Nat) = 9999 + 1 from rfl, run_equalIn_agg w 9999 23 _ _ nd_fields nd_held]
  simp only [Program.fieldsOf, Try.underlying23]
  go_simp
  simp only [mkB_beq]
  by_cases h1 : p = p' <;> by_cases h2 : v = v' <;> simp [h1, h2]
theorem eq_nd (p v p' v' : List UInt8) (w : World) : Sem.run Try.prog (binOp .eql 23 (.agg #[.string (mkB p), .string (mkB v)]) (.agg #[.string (mkB p'), .string (mkB v')])) w = .ok (.bool (decide ((p, v) = (p', v')))) w := by
  rw [run_eql_struct, eqin_nd]; rfl
theorem neq_nd (p v p' v' : List UInt8) (w : World) : Sem.run Try.prog (binOp .neq 23 (.agg #[.string (mkB p), .string (mkB v)]) (.agg #[.string (mkB p'), .string (mkB v')])) w = .ok (.bool (!decide ((p, v) = (p', v')))) w := by
  rw [run_neq_struct, eqin_nd]; rfl
theorem guard_nd (op : BinOp) (a b : Operand) (xs ys : Array Value) (w : World) : Sem.run Try.prog (eqGuard op 23 a b (.agg xs) (.agg ys)) w = .ok () w := run_eqGuard_agg w op _ a b xs ys (by kernel_rfl)

theorem hasN_drop (ns : List Nd) (k : Nat) (x : Nd) (h : k < ns.length) : hasN (ns.drop k) x = (decide (x = ns.getD k ([], [])) || hasN (ns.drop (k + 1)) x) := by
  unfold hasN
  rw [nd_getD h, List.drop_eq_getElem_cons h]
  simp only [List.mem_cons]
  by_cases hx : x = ns[k] <;> simp [hx]
theorem hasN_end (ns : List Nd) (k : Nat) (x : Nd) (h : ns.length ≤ k) : hasN (ns.drop k) x = false := by
  unfold hasN; rw [List.drop_eq_nil_of_le h]; simp

set_option maxHeartbeats 1600000 in
theorem nindex_any (V : Value) (ns : List Nd) (p v : List UInt8) (w : World) (h : Nds w V ns) :
    Calls Try.prog 68 #[V, .agg #[.string (mkB p), .string (mkB v)]] w fun e w' => (∃ i : Int, e = .returned (.int .i64 i) ∧ decide (0 ≤ i) = hasN ns (p, v)) ∧ Below w.heap.size w w' := by
  obtain ⟨a, c, rfl, h1, h2, -, -⟩ := h.ex
  unfold maxLen at h2
  obtain ⟨n, hn⟩ : ∃ n, ns.length = n := ⟨_, rfl⟩
  rw [hn] at h1 h ⊢
  obtain ⟨R, hR⟩ : ∃ R, hasN ns (p, v) = R := ⟨_, rfl⟩
  rw [hR]
  have HN := Lib.hid hn; have ST := Lib.hid h; have HR := Lib.hid hR
  clear h hn hR
  obtain ⟨W, g, hW, hg, d0, d1, hb⟩ := boxB1 w (.string (mkB p)) (.string (mkB v)) 23
  have HW := Lib.hid hW; have HG := Lib.hid hg; have B := Lib.hid hb; have D0 := Lib.hid d0; have D1 := Lib.hid d1
  clear hW hg hb d0 d1
  go_enter Try.func68, Try.ntmps68
  go_upto_region 1 with fail
  rw [HW.out, HG.out]
  go_wp2
  go_loopw [8] (fun i wr => ∃ k q : Nat, k ≤ n ∧ i = .int .i64 k ∧ wr = W.drewN q ∧ Hid (hasN (ns.drop k) (p, v) = R)) (fun i _ => n - (intOf i).toNat)
  case atStart => exact ⟨0, 0, Nat.zero_le _, rfl, rfl, Lib.hid (by simpa using HR.out)⟩
  case round =>
    obtain ⟨k, q, hk, rfl, rfl, H⟩ := hrel
    by_cases hlt : k < n
    · have hkl : k < ns.length := by rw [HN.out]; exact hlt
      obtain ⟨Wq, hWq⟩ : ∃ Wq, W.drewN q = Wq := ⟨_, rfl⟩
      have hbq : Below W.heap.size W Wq := by rw [← hWq]; exact below_q ⟨q, rfl⟩
      obtain ⟨b, off, rfl, -, hc0, hc1⟩ := ((ST.out.below B.out).below hbq).at k hkl
      have d0 := cell_keep D0.out hbq
      have d1 := cell_keep D1.out hbq
      have hd := hasN_drop ns k (p, v) hkl
      obtain ⟨y, hy⟩ : ∃ y, y = ns.getD k ([], []) := ⟨_, rfl⟩
      rw [← hy] at hc0 hc1 hd
      obtain ⟨y1, y2⟩ := y
      simp only at hc0 hc1
      rw [hWq]
      have HWq := Lib.hid hWq; have HD := Lib.hid hd; clear hy hd hbq hWq
      have hgd := guard_nd
      have heq := eq_nd p v y1 y2
      obtain ⟨o, ho⟩ : ∃ o, decide ((p, v) = (y1, y2)) = o := ⟨_, rfl⟩
      rw [ho] at heq
      have HO := Lib.hid ho; clear ho
      have hkb : (k : Int) < (n : Int) := by omega
      cases o
      · go_wp2_with fail
        go_quiet (fail)
        go_wp2
        have H5 : Hid (hasN (ns.drop (k + 1)) (p, v) = R) := Lib.hid (by rw [← H.out, HD.out, HO.out]; rfl)
        go_roundw
        case rel => exact ⟨k + 1, q + nq, by omega, by go_num, by rw [← HWq.out, World.drewN_drewN], H5⟩
        case measure => simp [intOf]; omega
      · go_wp2_with fail
        go_quiet (fail)
        go_wp2
        go_ret
        exact ⟨⟨k, rfl, by rw [← H.out, HD.out, HO.out]; simp⟩, below_step (below_step B.out (below_q ⟨q, HWq.out.symm⟩)) (below_q ⟨nq, rfl⟩)⟩
    · go_wp2
      go_ret
      refine ⟨⟨-1, rfl, ?_⟩, below_step B.out (below_q ⟨q, rfl⟩)⟩
      rw [← H.out, hasN_end ns k _ (by rw [HN.out]; omega)]; rfl

set_option maxHeartbeats 400000 in
theorem ncontains_any (V : Value) (ns : List Nd) (p v : List UInt8) (w : World) (h : Nds w V ns) :
    Calls Try.prog 53 #[V, .agg #[.string (mkB p), .string (mkB v)]] w fun e w' => e = .returned (.bool (hasN ns (p, v))) ∧ Below w.heap.size w w' := by
  obtain ⟨R, hR⟩ : ∃ R, hasN ns (p, v) = R := ⟨_, rfl⟩
  rw [hR]
  have HR := Lib.hid hR; have ST := Lib.hid h
  clear h hR
  obtain ⟨W, g, hW, hg, d0, d1, hb⟩ := boxB1 w (.string (mkB p)) (.string (mkB v)) 23
  have HW := Lib.hid hW; have HG := Lib.hid hg; have B := Lib.hid hb
  clear hW hg hb
  go_enter Try.func53, Try.ntmps53
  go_upto_region 1 with fail
  rw [HW.out, HG.out]
  go_wp2_with (go_at_call 68; refine (nindex_any _ ns p v _ (ST.out.below B.out)).mono ?_; rintro e w1 ⟨⟨i, rfl, hi⟩, hb1⟩; rw [HR.out] at hi; have HI := Lib.hid hi; replace B := Lib.hid (below_step B.out hb1); clear hb1 hi)
  go_ret
  exact ⟨by rw [← HI.out]; rfl, B.out⟩
set_option maxHeartbeats 400000 in
theorem nhas_any (V : Value) (ns : List Nd) (p v : List UInt8) (w : World) (h : Nds w V ns) :
    Calls Try.prog 37 #[V, .agg #[.string (mkB p), .string (mkB v)]] w fun e w' => e = .returned (.bool (hasN ns (p, v))) ∧ Below w.heap.size w w' := by
  obtain ⟨R, hR⟩ : ∃ R, hasN ns (p, v) = R := ⟨_, rfl⟩
  rw [hR]
  have HR := Lib.hid hR; have ST := Lib.hid h
  clear h hR
  obtain ⟨W, g, hW, hg, d0, d1, hb⟩ := boxB1 w (.string (mkB p)) (.string (mkB v)) 23
  have HW := Lib.hid hW; have HG := Lib.hid hg; have B := Lib.hid hb
  clear hW hg hb
  go_enter Try.func37, Try.ntmps37
  go_upto_region 1 with fail
  rw [HW.out, HG.out]
  go_wp2_with (go_at_call 53; refine (ncontains_any _ ns p v _ (ST.out.below B.out)).mono ?_; rintro e w1 ⟨rfl, hb1⟩; rw [HR.out]; replace B := Lib.hid (below_step B.out hb1); clear hb1)
  go_ret
  exact ⟨rfl, B.out⟩
end Go.Proofs.Ytijhdjdjnolpcaa
