/- THE TEXTS OF NodE NodH: The keys of a map of nodes, one by one, whatever their order, and what collects them. Lists of nodes that a call makes: those of one that are not in another one; a node, and nodes, as many as are looked at; two lists' sameness; whether a node is in one: of the document. -/
import Derived.Test.YtdefphacdcbljaaNodC
import Derived.RangeFuncNested
import Derived.RangeFuncBox
import Derived.RangeFuncBound
import Derived.RangeFuncCalls
import Derived.Sort.MapsRangeIn
import Derived.Shelf.Abstract
import Derived.Shelf.AbstractIn
import Derived.WalkKit
import Derived.OwnWalkIn
import Derived.TacticsInMore
import Derived.RegionIn
import Derived.LoopNIn
import Derived.LoopIn
import Derived.Maps.AppendAt
import Derived.Test.YtdefphacdcbljaaNodG
import Derived.StillTailTactics
namespace Go.Proofs.Ytdefphacdcbljaa
open Go.RowKit Go.Maps Go.Sort Go.Shelf
set_option maxRecDepth 100000

def mkKey (n : Nd) : Value := .agg #[.string (mkB n.1), .string (mkB n.2)]
def mkUnit (_ : Unit) : Value := .agg #[]
theorem inv_key (key : Value) (kl : Lit) (h : keyOf Try.prog 24 key = some kl) : ∃ x : Nd, key = mkKey x := by
  obtain ⟨n, rfl, _⟩ := key_inv h; exact ⟨n, rfl⟩
theorem inv_unit (v : Value) (y : DataW Unit × List MemPlace) (h : unitElem v = some y) : ∃ c, v = mkUnit c := ⟨(), (unitElem_inv h).1⟩

theorem Try.info_node : (Try.prog.info? 24).map (fun i => (i.zero, i.size, i.bytes)) = some (some (.agg #[.string ByteArray.empty, .string ByteArray.empty]), 2, 32) := by kernel_rfl
def ndsC (ns : List Nd) : List Value := ns.flatMap fun n => [.string (mkB n.1), .string (mkB n.2)]
theorem ndsC_len (ns : List Nd) : (ndsC ns).length = ns.length * 2 := by
  induction ns with
  | nil => rfl
  | cons x l ih => simp only [ndsC, List.flatMap_cons, List.length_append, List.length_cons, List.length_nil] at ih ⊢; omega
theorem ndsC_snoc (ns : List Nd) (x : Nd) : ndsC (ns ++ [x]) = ndsC ns ++ [.string (mkB x.1), .string (mkB x.2)] := by simp [ndsC]

theorem cells_new_l (W : World) (xs : List Value) (t : TypeId) : ∀ (j : Nat) (u : Value), xs[j]? = some u → (W.alloc (.cells xs.toArray t)).cell? ((⟨W.heap.size, 0, none⟩ : Addr).add j) = some u := by
  intro j u hj
  have hadd : (⟨W.heap.size, 0, none⟩ : Addr).add j = ⟨W.heap.size, j, none⟩ := by unfold Addr.add; split <;> simp_all
  rw [hadd]
  have hh : (W.alloc (.cells xs.toArray t)).heap[W.heap.size]? = some (.cells xs.toArray t) := World.alloc_heap_new _ _
  unfold World.cell?
  rw [hh]
  simpa using hj
/-- The loop variable's own cells. -/
def AxN (w : World) (g : Nat) (lb : Array Value) (x : Nd) (a' : Act) (W : World) : Prop :=
  ∃ Bx, w.heap.size + 1 ≤ Bx ∧ W.heap[Bx]? = some (.cells #[.string (mkB x.1), .string (mkB x.2)] 24 (0, 0)) ∧
    a' = { tmps := #[.slice none 0 0, .func (.func g) #[] lb, .pointer (some ⟨w.heap.size, 0, none⟩), undef, .slice none 0 0, .pointer (some ⟨Bx, 0, none⟩), .func (.func g) #[] lb, .agg #[.string (mkB x.1), .string (mkB x.2)], undef, undef, undef, undef, undef], defers := [] }
theorem axn_own (w : World) (g : Nat) (lb : Array Value) (x : Nd) (a' : Act) (B : Nat) : OwnFrom B (fun (_ : Unit) W => AxN w g lb x a' W) := by
  rintro _ X Y row ⟨Bx, h1, h2, h3⟩ hg hr
  exact ⟨Bx, h1, (grownBy_keeps_cells hg (fun r e => (hr r e).2) h2 rfl).trans h2, h3⟩

attribute [local go_sem] Oper.semAt_some
end Go.Proofs.Ytdefphacdcbljaa

namespace Go.Proofs.Ytdefphacdcbljaa
open Go.RowKit
set_option maxRecDepth 100000

theorem ndsC_at (ns : List Nd) : ∀ j, j < ns.length → (ndsC ns)[j * 2]? = some (.string (mkB (ns.getD j ([], [])).1)) ∧ (ndsC ns)[j * 2 + 1]? = some (.string (mkB (ns.getD j ([], [])).2)) := by
  induction ns with
  | nil => intro j hj; exact absurd hj (Nat.not_lt_zero j)
  | cons x l ih =>
    intro j hj
    have e : ndsC (x :: l) = .string (mkB x.1) :: .string (mkB x.2) :: ndsC l := rfl
    rw [e]
    cases j with
    | zero => exact ⟨rfl, rfl⟩
    | succ j =>
      have := ih j (by simpa using hj)
      rw [show (j + 1) * 2 = j * 2 + 1 + 1 by omega, show j * 2 + 1 + 1 + 1 = (j * 2 + 1) + 1 + 1 by omega]
      simpa using this
theorem Nds.owned {w : World} {base : Nat} {e : TypeId} {v : Value} {ns : List Nd} (h : w.ownsRow base e 2 v ns.length (ndsC ns)) : Nds w v ns := by
  rcases Joins.ownsRow_forms h with ⟨rfl, h0⟩ | ⟨g, cap, rfl⟩
  · have : ns = [] := List.eq_nil_of_length_eq_zero h0
    subst this
    exact ⟨none, 0, rfl, Nat.le_refl _, by unfold maxLen; omega, fun _ => rfl, fun h => absurd h (by simp)⟩
  · have hlt := h.lt g rfl
    have hcap : ns.length ≤ cap ∧ cap ≤ maxLen := by
      obtain ⟨_, h | ⟨g', cap', cur, hv, _, _, h1, h2, _⟩⟩ := h
      · cases h.1
      · injection hv with _ _ hc; subst hc; exact ⟨h1, h2⟩
    refine ⟨some ⟨g, 0, none⟩, cap, rfl, hcap.1, hcap.2, (fun h => by cases h), fun _ => ⟨g, 0, rfl, hlt.2, fun j hj => ?_⟩⟩
    have := ndsC_at ns j hj
    rw [Nat.zero_add, h.cellAt (j * 2) (by omega), h.cellAt (j * 2 + 1) (by omega)]
    exact this
theorem ndsO {w : World} {base : Nat} {e : TypeId} {v : Value} {ns : List Nd} (h : w.ownsRow base e 2 v ns.length (ndsC ns)) : ∃ a c, v = .slice a ns.length c ∧ Nds w (.slice a ns.length c) ns := by
  have hst := Nds.owned h
  obtain ⟨a, c, rfl, _⟩ := hst.ex
  exact ⟨a, c, rfl, hst⟩
theorem nds_none (w : World) : Nds w (.slice none 0 0) [] := ⟨none, 0, rfl, Nat.le_refl _, by unfold maxLen; omega, fun _ => rfl, fun h => absurd h (by simp)⟩

/-! ### Is a node in a list -/
set_option maxHeartbeats 1600000 in
theorem refnhas_any (V : Value) (ns : List Nd) (p v : List UInt8) (w : World) (h : Nds w V ns) :
    Calls Try.prog 11 #[V, .agg #[.string (mkB p), .string (mkB v)]] w fun e w' => e = .returned (.bool (hasN ns (p, v))) ∧ Below w.heap.size w w' := by
  obtain ⟨a, c, rfl, h1, h2, -, -⟩ := h.ex
  unfold maxLen at h2
  obtain ⟨n, hn⟩ : ∃ n, ns.length = n := ⟨_, rfl⟩
  rw [hn] at h1 h ⊢
  obtain ⟨R, hR⟩ : ∃ R, hasN ns (p, v) = R := ⟨_, rfl⟩
  rw [hR]
  have HN := Lib.hid hn; have ST := Lib.hid h; have HR := Lib.hid hR
  clear h hn hR
  obtain ⟨W, g, hW, hg, d0, d1, hb⟩ := boxB1 w (.string (mkB p)) (.string (mkB v)) 24
  have HW := Lib.hid hW; have HG := Lib.hid hg; have B := Lib.hid hb; have D0 := Lib.hid d0; have D1 := Lib.hid d1
  clear hW hg hb d0 d1
  go_enter Try.func11, Try.ntmps11
  go_upto_region 1 with fail
  rw [HW.out, HG.out]
  go_wp2
  go_loopw [5] (fun i wr => ∃ k q : Nat, k ≤ n ∧ i = .int .i64 k ∧ wr = W.drewN q ∧ Hid (hasN (ns.drop k) (p, v) = R)) (fun i _ => n - (intOf i).toNat)
  case atStart => exact ⟨0, 0, Nat.zero_le _, rfl, rfl, Lib.hid (by simpa using HR.out)⟩
  case round =>
    obtain ⟨k, q, hk, rfl, rfl, H⟩ := hrel
    by_cases hlt : k < n
    · have hkl : k < ns.length := by rw [HN.out]; exact hlt
      obtain ⟨Wq, hWq⟩ : ∃ Wq, W.drewN q = Wq := ⟨_, rfl⟩
      have hbq : Below W.heap.size W Wq := by rw [← hWq]; exact below_q ⟨q, rfl⟩
      obtain ⟨b, off, rfl, -, hc0, hc1⟩ := ((ST.out.below B.out).below hbq).at k hkl
      have d0 := cell_keep D0.out hbq
      have d1 := cell_keep D1.out hbq
      have hd := hasN_drop ns k (p, v) hkl
      obtain ⟨y, hy⟩ : ∃ y, y = ns.getD k ([], []) := ⟨_, rfl⟩
      rw [← hy] at hc0 hc1 hd
      obtain ⟨y1, y2⟩ := y
      simp only at hc0 hc1
      rw [hWq]
      have HWq := Lib.hid hWq; have HD := Lib.hid hd; clear hy hd hbq hWq
      have hgd := guard_nd
      have heq := eq_nd y1 y2 p v
      obtain ⟨o, ho⟩ : ∃ o, decide ((y1, y2) = (p, v)) = o := ⟨_, rfl⟩
      rw [ho] at heq
      have ho' : decide ((p, v) = (y1, y2)) = o := by rw [← ho]; exact decide_eq_decide.2 eq_comm
      have HO := Lib.hid ho'; clear ho ho'
      have hkb : (k : Int) < (n : Int) := by omega
      cases o
      · go_wp2_with fail
        go_quiet (fail)
        go_wp2
        have H5 : Hid (hasN (ns.drop (k + 1)) (p, v) = R) := Lib.hid (by rw [← H.out, HD.out, HO.out]; rfl)
        go_roundw
        case rel => exact ⟨k + 1, q + nq, by omega, by go_num, by rw [← HWq.out, World.drewN_drewN], H5⟩
        case measure => simp [intOf]; omega
      · go_wp2_with fail
        go_quiet (fail)
        go_wp2
        go_ret
        exact ⟨by rw [← H.out, HD.out, HO.out]; rfl, below_step (below_step B.out (below_q ⟨q, HWq.out.symm⟩)) (below_q ⟨nq, rfl⟩)⟩
    · go_wp2
      go_ret
      refine ⟨?_, below_step B.out (below_q ⟨q, rfl⟩)⟩
      rw [← H.out, hasN_end ns k _ (by rw [HN.out]; omega)]; rfl

/-! ### Are two lists the same -/
set_option maxHeartbeats 1600000 in
theorem nsame_any (U V : Value) (ns ms : List Nd) (w : World) (hu : Nds w U ns) (hv : Nds w V ms) :
    Calls Try.prog 12 #[U, V] w fun e w' => e = .returned (.bool (decide (ns = ms))) ∧ Below w.heap.size w w' := by
  obtain ⟨a, c, rfl, h1, h2, -, -⟩ := hu.ex
  obtain ⟨a', c', rfl, h1', h2', -, -⟩ := hv.ex
  unfold maxLen at h2 h2'
  obtain ⟨n, hn⟩ : ∃ n, ns.length = n := ⟨_, rfl⟩
  obtain ⟨m, hm⟩ : ∃ m, ms.length = m := ⟨_, rfl⟩
  rw [hn] at h1 hu ⊢
  rw [hm] at h1' hv ⊢
  obtain ⟨R, hR⟩ : ∃ R, decide (ns = ms) = R := ⟨_, rfl⟩
  rw [hR]
  have HN := Lib.hid hn; have HM := Lib.hid hm; have SU := Lib.hid hu; have SV := Lib.hid hv; have HR := Lib.hid hR
  clear hu hv hn hm hR
  by_cases hl : n = m
  · subst hl
    have h0 : ((n : Int) != (n : Int)) = false := by simp
    go_enter Try.func12, Try.ntmps12
    go_wp2
    go_loopw [5] (fun i wr => ∃ k q : Nat, k ≤ n ∧ i = .int .i64 k ∧ wr = w.drewN q ∧ Hid (ns.take k = ms.take k)) (fun i _ => n - (intOf i).toNat)
    case atStart => exact ⟨0, 0, Nat.zero_le _, rfl, rfl, Lib.hid (by simp)⟩
    case round =>
      obtain ⟨k, q, hk, rfl, rfl, H⟩ := hrel
      by_cases hlt : k < n
      · have hkl : k < ns.length := by rw [HN.out]; exact hlt
        have hkm : k < ms.length := by rw [HM.out]; exact hlt
        obtain ⟨Wq, hWq⟩ : ∃ Wq, w.drewN q = Wq := ⟨_, rfl⟩
        have hbq : Below w.heap.size w Wq := by rw [← hWq]; exact below_q ⟨q, rfl⟩
        obtain ⟨b, off, rfl, -, hc0, hc1⟩ := (SU.out.below hbq).at k hkl
        obtain ⟨b', off', rfl, -, hd0, hd1⟩ := (SV.out.below hbq).at k hkm
        obtain ⟨x, hx⟩ : ∃ x, x = ns.getD k ([], []) := ⟨_, rfl⟩
        obtain ⟨y, hy⟩ : ∃ y, y = ms.getD k ([], []) := ⟨_, rfl⟩
        rw [← hx] at hc0 hc1
        rw [← hy] at hd0 hd1
        have e1 : ns.take (k + 1) = ns.take k ++ [x] := by rw [List.take_succ_eq_append_getElem hkl, hx, nd_getD hkl]
        have e2 : ms.take (k + 1) = ms.take k ++ [y] := by rw [List.take_succ_eq_append_getElem hkm, hy, nd_getD hkm]
        obtain ⟨x1, x2⟩ := x
        obtain ⟨y1, y2⟩ := y
        simp only at hc0 hc1 hd0 hd1
        rw [hWq]
        have HWq := Lib.hid hWq; have E1 := Lib.hid e1; have E2 := Lib.hid e2; clear hx hy hbq hWq e1 e2
        have hgd := guard_nd
        have heq := neq_nd x1 x2 y1 y2
        obtain ⟨o, ho⟩ : ∃ o, decide ((x1, x2) = (y1, y2)) = o := ⟨_, rfl⟩
        rw [ho] at heq
        have HO := Lib.hid ho; clear ho
        have hkb : (k : Int) < (n : Int) := by omega
        cases o
        · simp only [Bool.not_false] at heq
          go_wp2_with fail
          go_quiet (fail)
          go_wp2
          go_ret
          refine ⟨?_, below_step (below_q ⟨q, HWq.out.symm⟩) (below_q ⟨nq, rfl⟩)⟩
          rw [← HR.out, decide_eq_false fun e => ?_]
          · rfl
          · have h5 := E1.out
            rw [e, E2.out] at h5
            have h6 := List.append_inj_right' h5 rfl
            simp only [List.cons.injEq, and_true] at h6
            have := of_decide_eq_false HO.out
            exact this h6.symm
        · simp only [Bool.not_true] at heq
          go_wp2_with fail
          go_quiet (fail)
          go_wp2
          have H5 : Hid (ns.take (k + 1) = ms.take (k + 1)) := Lib.hid (by rw [E1.out, E2.out, H.out, of_decide_eq_true HO.out])
          go_roundw
          case rel => exact ⟨k + 1, q + nq, by omega, by go_num, by rw [← HWq.out, World.drewN_drewN], H5⟩
          case measure => simp [intOf]; omega
      · go_wp2
        go_ret
        refine ⟨?_, below_q ⟨q, rfl⟩⟩
        have e : k = n := by omega
        subst e
        have h5 := H.out
        rw [List.take_of_length_le (by rw [HN.out]; exact Nat.le_refl _), List.take_of_length_le (by rw [HM.out]; exact Nat.le_refl _)] at h5
        rw [← HR.out, decide_eq_true h5]; rfl
  · have h0 : ((n : Int) != (m : Int)) = true := by simp; omega
    have HL := Lib.hid hl; clear hl
    go_enter Try.func12, Try.ntmps12
    go_wp2
    go_ret
    refine ⟨?_, Below.refl _ _⟩
    rw [← HR.out, decide_eq_false fun e => HL.out (by rw [← HN.out, ← HM.out, e])]; rfl
end Go.Proofs.Ytdefphacdcbljaa
