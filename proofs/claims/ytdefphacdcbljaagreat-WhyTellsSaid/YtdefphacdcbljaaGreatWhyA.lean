/- How far nodes are (a node and a number), in memory: slices of them, rows of the call's own, what operations on them come to. -/
import Derived.Test.YtdefphacdcbljaaGreatWhyM
import Derived.Test.YtdefphacdcbljaaGreatRolM
import Derived.Test.YtdefphacdcbljaaGreatNodY
import Derived.Test.YtdefphacdcbljaaGreatNodR
import Derived.Laws.StructEq
import Derived.Deep.SlicePairs
import Derived.Deep.QuietTactic
import Derived.Deep.RegionLaw
import Derived.BigQuiet
namespace Go.Proofs.YtdefphacdcbljaaGreat
open Go.RowKit Go.ChangeShapes Go.WideShapes
set_option linter.unusedVariables false
set_option maxRecDepth 100000

abbrev zDp : Dp := (([], []), 0)
/-- A slice of depths, in memory: nil, empty, or cells that hold them, three each. -/
structure Dps (w : World) (v : Value) (es : List Dp) : Prop where
  ex : ∃ a c, v = .slice a es.length c ∧ es.length ≤ c ∧ c ≤ maxLen ∧ (a = none → c = 0) ∧ (0 < es.length → ∃ b off, a = some ⟨b, off, none⟩ ∧ b < w.heap.size ∧ ∀ j, j < es.length →
    w.cell? ⟨b, off + j * 3, none⟩ = some (.string (mkB (es.getD j zDp).1.1)) ∧ w.cell? ⟨b, off + j * 3 + 1, none⟩ = some (.string (mkB (es.getD j zDp).1.2)) ∧ w.cell? ⟨b, off + j * 3 + 2, none⟩ = some (.int .i64 (es.getD j zDp).2))
theorem Dps.below {w w' : World} {v : Value} {zs : List Dp} (h : Dps w v zs) (hb : Below w.heap.size w w') : Dps w' v zs := by
  obtain ⟨a, c, hv, h1, h2, hn, h3⟩ := h.ex
  refine ⟨a, c, hv, h1, h2, hn, fun hp => ?_⟩
  obtain ⟨b, off, ha, hlt, hc⟩ := h3 hp
  exact ⟨b, off, ha, Nat.lt_of_lt_of_le hlt hb.size, fun j hj => by rw [hb.cell (by exact hlt), hb.cell (by exact hlt), hb.cell (by exact hlt)]; exact hc j hj⟩
theorem Dps.at {w : World} {a : Option Addr} {n c : Nat} {es : List Dp} (h : Dps w (.slice a n c) es) (k : Nat) (hk : k < es.length) :
    ∃ b off, a = some ⟨b, off, none⟩ ∧ b < w.heap.size ∧ w.cell? ⟨b, off + k * 3, none⟩ = some (.string (mkB (es.getD k zDp).1.1)) ∧ w.cell? ⟨b, off + k * 3 + 1, none⟩ = some (.string (mkB (es.getD k zDp).1.2)) ∧ w.cell? ⟨b, off + k * 3 + 2, none⟩ = some (.int .i64 (es.getD k zDp).2) := by
  obtain ⟨a', c', hv, _, _, _, h3⟩ := h.ex
  injection hv with e1 e2 e3
  subst e1
  obtain ⟨b, off, ha, hlt, hc⟩ := h3 (by omega)
  exact ⟨b, off, ha, hlt, hc k hk⟩
theorem dps_none (w : World) : Dps w (.slice none 0 0) [] := ⟨none, 0, rfl, Nat.le_refl _, by unfold maxLen; omega, fun _ => rfl, fun h => absurd h (by simp)⟩
theorem Dps.nil {w : World} {n c : Nat} {l : List Dp} {a : Option Addr} (h : Dps w (.slice a n c) l) (ha : a = none) : n = 0 ∧ c = 0 := by
  obtain ⟨a', c', hv, h1, h2, h3, -⟩ := h.ex
  injection hv with e1 e2 e3
  subst e1 e2 e3
  have := h3 ha
  omega
theorem Dps.lenE {w : World} {A : Option Addr} {n c : Nat} {l : List Dp} (h : Dps w (.slice A n c) l) : l.length = n ∧ n ≤ c ∧ c ≤ maxLen := by
  obtain ⟨_, _, hv, h1, h2, _⟩ := h.ex
  injection hv with e1 e2 e3
  subst e2 e3; exact ⟨rfl, h1, h2⟩
/-- The ones from the i-th on. -/
theorem Dps.cut {w : World} {a : Option Addr} {n c : Nat} {l : List Dp} (h : Dps w (.slice a n c) l) {i : Nat} (hi : i ≤ l.length) : Dps w (sliced a i n c 3) (l.drop i) := by
  obtain ⟨a', c', hv, h1, h2, h3, h4⟩ := h.ex
  injection hv with e1 e2 e3
  subst e1 e2 e3
  unfold sliced
  refine ⟨_, _, by rw [List.length_drop], by rw [List.length_drop]; omega, by omega, fun hn => ?_, fun hp => ?_⟩
  · by_cases hc : c = i
    · omega
    · rw [if_neg hc] at hn
      have : a = none := by cases a <;> simp_all
      have := h3 this; omega
  · rw [List.length_drop] at hp
    obtain ⟨b, off, rfl, hb, hc⟩ := h4 (by omega)
    refine ⟨b, off + i * 3, ?_, hb, fun j hj => ?_⟩
    · rw [if_neg (by omega)]; simp [addr_add]
    · rw [List.length_drop] at hj
      have := hc (i + j) (by omega)
      have hg : (l.drop i).getD j zDp = l.getD (i + j) zDp := by simp [List.getD_eq_getElem?_getD, List.getElem?_drop]
      rw [hg, show off + i * 3 + j * 3 = off + (i + j) * 3 by omega]
      exact this
theorem dp_getD {l : List Dp} {j : Nat} (h : j < l.length) : l.getD j zDp = l[j] := by
  rw [List.getD_eq_getElem?_getD, List.getElem?_eq_getElem h]; rfl
theorem dp_mem {l : List Dp} {j : Nat} (h : j < l.length) : l.getD j zDp ∈ l := by rw [dp_getD h]; exact List.getElem_mem h

/-! ### Depths as cells -/
abbrev dpV (e : Dp) : Value := .agg #[.string (mkB e.1.1), .string (mkB e.1.2), .int .i64 e.2]
abbrev dpC1 (e : Dp) : List Value := [.string (mkB e.1.1), .string (mkB e.1.2), .int .i64 e.2]
def dpC (es : List Dp) : List Value := es.flatMap dpC1
theorem dpC_len (es : List Dp) : (dpC es).length = es.length * 3 := by
  induction es with
  | nil => rfl
  | cons x l ih => simp only [dpC, List.flatMap_cons, List.length_append, List.length_cons, List.length_nil] at ih ⊢; omega
theorem dpC_snoc (es : List Dp) (x : Dp) : dpC (es ++ [x]) = dpC es ++ dpC1 x := by simp [dpC]
theorem dpC_app (l m : List Dp) : dpC (l ++ m) = dpC l ++ dpC m := by simp [dpC]
theorem dpC_one (l : List Dp) : ((dpC l).all fun u => u.oneCell') = true := by
  induction l with
  | nil => rfl
  | cons x l ih =>
    have e : dpC (x :: l) = .string (mkB x.1.1) :: .string (mkB x.1.2) :: .int .i64 x.2 :: dpC l := rfl
    rw [e, List.all_cons, List.all_cons, List.all_cons, ih]; rfl
theorem dpC_at (es : List Dp) : ∀ j, j < es.length → (dpC es)[j * 3]? = some (.string (mkB (es.getD j zDp).1.1)) ∧ (dpC es)[j * 3 + 1]? = some (.string (mkB (es.getD j zDp).1.2)) ∧ (dpC es)[j * 3 + 2]? = some (.int .i64 (es.getD j zDp).2) := by
  induction es with
  | nil => intro j hj; exact absurd hj (Nat.not_lt_zero j)
  | cons x l ih =>
    intro j hj
    have e : dpC (x :: l) = .string (mkB x.1.1) :: .string (mkB x.1.2) :: .int .i64 x.2 :: dpC l := rfl
    rw [e]
    cases j with
    | zero => exact ⟨rfl, rfl, rfl⟩
    | succ j =>
      have := ih j (by simpa using hj)
      rw [show (j + 1) * 3 = j * 3 + 1 + 1 + 1 by omega, show j * 3 + 1 + 1 + 1 + 1 = (j * 3 + 1) + 1 + 1 + 1 by omega, show j * 3 + 1 + 1 + 1 + 2 = (j * 3 + 2) + 1 + 1 + 1 by omega]
      simpa using this
abbrev zDpV : Value := .agg #[.string ByteArray.empty, .string ByteArray.empty, .int .i64 0]
theorem Tryz.info_dp : (Tryz.prog.info? 46).map (fun i => (i.zero, i.size, i.bytes)) = some (some zDpV, 3, 40) := by kernel_rfl
theorem Dps.owned {w : World} {base : Nat} {e : TypeId} {v : Value} {es : List Dp} (h : w.ownsRow base e 3 v es.length (dpC es)) : Dps w v es := by
  rcases Joins.ownsRow_forms h with ⟨rfl, h0⟩ | ⟨g, cap, rfl⟩
  · have : es = [] := List.eq_nil_of_length_eq_zero h0
    subst this
    exact dps_none w
  · have hlt := h.lt g rfl
    have hcap : es.length ≤ cap ∧ cap ≤ maxLen := by
      obtain ⟨_, h | ⟨g', cap', cur, hv, _, _, h1, h2, _⟩⟩ := h
      · cases h.1
      · injection hv with _ _ hc; subst hc; exact ⟨h1, h2⟩
    refine ⟨some ⟨g, 0, none⟩, cap, rfl, hcap.1, hcap.2, (fun h => by cases h), fun _ => ⟨g, 0, rfl, hlt.2, fun j hj => ?_⟩⟩
    have := dpC_at es j hj
    rw [Nat.zero_add, h.cellAt (j * 3) (by omega), h.cellAt (j * 3 + 1) (by omega), h.cellAt (j * 3 + 2) (by omega)]
    exact this
theorem dpsO {w : World} {base : Nat} {e : TypeId} {v : Value} {es : List Dp} (h : w.ownsRow base e 3 v es.length (dpC es)) : ∃ a c, v = .slice a es.length c ∧ Dps w (.slice a es.length c) es := by
  have hst := Dps.owned h
  obtain ⟨a, c, rfl, _⟩ := hst.ex
  exact ⟨a, c, rfl, hst⟩
theorem Dps.cells {w : World} {ad : Addr} {n c : Nat} {l : List Dp} (h : Dps w (.slice (some ad) n c) l) : ∀ j u, (dpC l)[j]? = some u → w.cell? (ad.add j) = some u := by
  intro j u hj
  have hlt : j < (dpC l).length := (List.getElem?_eq_some_iff.1 hj).1
  rw [dpC_len] at hlt
  obtain ⟨k, hk⟩ : ∃ k, j = k * 3 ∨ j = k * 3 + 1 ∨ j = k * 3 + 2 := ⟨j / 3, by omega⟩
  have hkl : k < l.length := by omega
  obtain ⟨b, off, ha, -, c0, c1, c2⟩ := h.at k hkl
  obtain ⟨d0, d1, d2⟩ := dpC_at l k hkl
  cases ha
  rw [addr_add]
  rcases hk with rfl | rfl | rfl
  · rw [d0] at hj; cases hj; exact c0
  · rw [d1] at hj; cases hj; exact c1
  · rw [d2] at hj; cases hj; exact c2
theorem Dps.src {w : World} {A : Option Addr} {n c : Nat} {l : List Dp} (h : Dps w (.slice A n c) l) : ∀ ad, A = some ad → ∀ j u, (dpC l)[j]? = some u → w.cell? (ad.add j) = some u := fun _ e => by subst e; exact h.cells
theorem row3p {w : World} {g : Nat} {x0 x1 x2 : Value} {t : TypeId} (h : w.heap[g]? = some (.cells #[x0, x1, x2] t (0, 0))) :
    w.cell? ⟨g, 0, none⟩ = some x0 ∧ w.cell? ⟨g, 1, none⟩ = some x1 ∧ w.cell? ⟨g, 2, none⟩ = some x2 ∧ w.frozen? ⟨g, 0, none⟩ = false ∧ w.frozen? ⟨g, 1, none⟩ = false ∧ w.frozen? ⟨g, 2, none⟩ = false := by
  simp [World.cell?, World.frozen?, h]
/-- A parameter's own cells, just laid; the world named. -/
theorem boxDp (w : World) (x y z : Value) (t : TypeId) : ∃ W p, w.alloc (.cells #[x, y, z] t) = W ∧ w.heap.size = p ∧ W.cell? ⟨p, 0, none⟩ = some x ∧ W.cell? ⟨p, 1, none⟩ = some y ∧ W.cell? ⟨p, 2, none⟩ = some z ∧ Below w.heap.size w W :=
  ⟨_, _, rfl, rfl, cell_new rfl rfl, cell_new rfl rfl, cell_new rfl rfl, (Below.refl _ _).alloc (Nat.le_refl _) _⟩

/-! ### Two depths' sameness -/
theorem dp_fields : Tryz.prog.underlying 46 = some (.struct (Tryz.prog.fieldsOf 46)) := by kernel_rfl
theorem dp_held : Tryz.prog.stoodInHeld 46 = false := by kernel_rfl
theorem int_eqP (d : Nat) (a b : Int) (w : World) : Sem.run Tryz.prog (Op.equalIn (d + 1) 3 (.int .i64 a) (.int .i64 b)) w = .ok (a == b) w := by
  unfold Op.equalIn
  simp
theorem eqin_ndP (d : Nat) (p v p' v' : List UInt8) (w : World) : Sem.run Tryz.prog (Op.equalIn (d + 1 + 1) 24 (.agg #[.string (mkB p), .string (mkB v)]) (.agg #[.string (mkB p'), .string (mkB v')])) w = .ok (decide ((p, v) = (p', v'))) w := by
  have hs := fun a b w => str_eq d a b w
  have ha : ∀ w, Sem.run Tryz.prog (isAgg 9) w = .ok false w := by intro w; kernel_rfl
  have hz : ∀ w, Sem.run Tryz.prog (sizeOf 9) w = .ok 1 w := by intro w; kernel_rfl
  rw [run_equalIn_agg w (d + 1) 24 _ _ nd_fields nd_held]
  simp only [Program.fieldsOf, Tryz.underlying24]
  go_simp
  simp only [mkB_beq]
  by_cases h1 : p = p' <;> by_cases h2 : v = v' <;> simp [h1, h2]
theorem eqin_dp (p v p' v' : List UInt8) (z z' : Int) (w : World) : Sem.run Tryz.prog (Op.equalIn 10000 46 (dpV ((p, v), z)) (dpV ((p', v'), z'))) w = .ok (decide (((p, v), z) = ((p', v'), z'))) w := by
  have hs := fun p v p' v' w => eqin_ndP 9997 p v p' v' w
  have hi := fun a b w => int_eqP 9998 a b w
  have ha : ∀ w, Sem.run Tryz.prog (isAgg 3) w = .ok false w := by intro w; kernel_rfl
  have hz : ∀ w, Sem.run Tryz.prog (sizeOf 3) w = .ok 1 w := by intro w; kernel_rfl
  have hb : ∀ w, Sem.run Tryz.prog (isAgg 24) w = .ok true w := by intro w; kernel_rfl
  have hy : ∀ w, Sem.run Tryz.prog (sizeOf 24) w = .ok 2 w := by intro w; kernel_rfl
  rw [show (10000 : Nat) = 9999 + 1 from rfl, run_equalIn_agg w 9999 46 _ _ dp_fields dp_held]
  simp only [Program.fieldsOf, Tryz.underlying46]
  go_simp
  by_cases h1 : p = p' <;> by_cases h2 : v = v' <;> by_cases h3 : z = z' <;> simp [h1, h2, h3]
theorem eq_dp (p v p' v' : List UInt8) (z z' : Int) (w : World) : Sem.run Tryz.prog (binOp .eql 46 (dpV ((p, v), z)) (dpV ((p', v'), z'))) w = .ok (.bool (decide (((p, v), z) = ((p', v'), z')))) w := by
  rw [run_eql_struct, eqin_dp]; rfl
theorem neq_dp (p v p' v' : List UInt8) (z z' : Int) (w : World) : Sem.run Tryz.prog (binOp .neq 46 (dpV ((p, v), z)) (dpV ((p', v'), z'))) w = .ok (.bool (!decide (((p, v), z) = ((p', v'), z')))) w := by
  rw [run_neq_struct, eqin_dp]; rfl
theorem guard_dp (op : BinOp) (a b : Operand) (xs ys : Array Value) (w : World) : Sem.run Tryz.prog (eqGuard op 46 a b (.agg xs) (.agg ys)) w = .ok () w := run_eqGuard_agg w op _ a b xs ys (by kernel_rfl)


/-! ### Operations on them -/
theorem idx_dp {w : World} {b off n c k : Nat} (h : k < n) : (Instr.indexAt 27 (.slice (some ⟨b, off, none⟩) n c) (.int .i64 (k : Int))).run Tryz.prog w = .ok (.pointer (some ⟨b, off + k * 3, none⟩)) w := by
  have h1 : (0 : Int) ≤ (k : Int) := by omega
  have h3 : (k : Int) < (n : Int) := by omega
  go_simp
theorem idx0_dp {w : World} {b off n c : Nat} (h : 0 < n) : (Instr.indexAt 27 (.slice (some ⟨b, off, none⟩) n c) (.int .i64 0)).run Tryz.prog w = .ok (.pointer (some ⟨b, off, none⟩)) w := by
  have h3 : (0 : Int) < (n : Int) := by omega
  go_simp
theorem fld_dp {w : World} {b off : Nat} : Sem.run Tryz.prog (Instr.fieldAt 46 (.pointer (some ⟨b, off, none⟩)) 0) w = .ok (.pointer (some ⟨b, off, none⟩)) w := by go_simp
theorem fld2_dp {w : World} {b off : Nat} : Sem.run Tryz.prog (Instr.fieldAt 46 (.pointer (some ⟨b, off, none⟩)) 1) w = .ok (.pointer (some ⟨b, off + 2, none⟩)) w := by go_simp
theorem ld_dp {w : World} {g i : Nat} {p v : List UInt8} {z : Int} (h : w.cell? ⟨g, i, none⟩ = some (.string (mkB p))) (h' : w.cell? ⟨g, i + 1, none⟩ = some (.string (mkB v))) (h2 : w.cell? ⟨g, i + 2, none⟩ = some (.int .i64 z)) : Sem.run Tryz.prog (Instr.loadAt 46 (.pointer (some ⟨g, i, none⟩))) w = .ok (.agg #[.string (mkB p), .string (mkB v), .int .i64 z]) w := by
  go_simp
theorem ld_numP {w : World} {g i : Nat} {z : Int} (h : w.cell? ⟨g, i, none⟩ = some (.int .i64 z)) : Sem.run Tryz.prog (Instr.loadAt 3 (.pointer (some ⟨g, i, none⟩))) w = .ok (.int .i64 z) w := by
  go_simp
theorem build_dp {w : World} {p v : List UInt8} {z : Int} : Sem.run Tryz.prog (Instr.build 46 #[(0, .agg #[.string (mkB p), .string (mkB v)]), (1, .int .i64 z)]) w = .ok (.agg #[.string (mkB p), .string (mkB v), .int .i64 z]) w := by go_simp
theorem tail_dp (w : World) (A : Option Addr) (n c : Nat) (h : 1 ≤ n) (hc : n ≤ c) : (Instr.sliceAt 27 (.slice A n c) (some (.int .i64 1)) none none).run Tryz.prog w = .ok (sliced A 1 n c 3) w := by
  have h1 : (1 : Int) ≤ (n : Int) := by omega
  have h2 : (n : Int) ≤ (c : Int) := by omega
  go_simp
theorem Dps.first {w : World} {A : Option Addr} {n c : Nat} {p v : List UInt8} {z : Int} {t : List Dp} (h : Dps w (.slice A n c) (((p, v), z) :: t)) : ∃ b off, A = some ⟨b, off, none⟩ ∧ b < w.heap.size ∧ w.cell? ⟨b, off, none⟩ = some (.string (mkB p)) ∧ w.cell? ⟨b, off + 1, none⟩ = some (.string (mkB v)) ∧ w.cell? ⟨b, off + 2, none⟩ = some (.int .i64 z) := by
  obtain ⟨b, off, h1, h2, h3, h4, h5⟩ := h.at 0 (by simp)
  exact ⟨b, off, h1, h2, by simpa using h3, by simpa using h4, by simpa using h5⟩
theorem Dps.rest {w : World} {A : Option Addr} {n c : Nat} {x : Dp} {t : List Dp} (h : Dps w (.slice A n c) (x :: t)) : ∃ A' m d, (∀ w, (Instr.sliceAt 27 (.slice A n c) (some (.int .i64 1)) none none).run Tryz.prog w = .ok (.slice A' m d) w) ∧ n = m + 1 ∧ Dps w (.slice A' m d) t := by
  obtain ⟨h1, h2, h3⟩ := h.lenE
  have h4 := h.cut (i := 1) (by simp)
  simp only [List.length_cons] at h1
  refine ⟨_, n - 1, c - 1, fun w => tail_dp w A n c (by omega) h2, by omega, h4⟩
theorem blkG.dps {w : World} {b : Nat} {p v : List UInt8} {z : Int} (h : w.heap[b]? = some (.cells #[.string (mkB p), .string (mkB v), .int .i64 z] 46 (0, 0))) : Dps w (.slice (some ⟨b, 0, none⟩) 1 1) [((p, v), z)] := by
  obtain ⟨d0, d1, d2, -⟩ := row3p h
  refine ⟨some ⟨b, 0, none⟩, 1, rfl, Nat.le_refl _, by unfold maxLen; omega, (fun h => by cases h), fun _ => ⟨b, 0, rfl, (Array.getElem?_eq_some_iff.1 h).1, fun j hj => ?_⟩⟩
  have hj2 : j = 0 := by simp at hj; omega
  subst hj2
  exact ⟨d0, d1, d2⟩

theorem run_app_dp {w : World} {base n : Nat} {v : Value} {K : List Dp} (hown : w.ownsRow base 46 3 v n (dpC K)) {a0 : Option Addr} {m c : Nat} {L : List Dp} (hN : Dps w (.slice a0 m c) L) (hlen : n + m ≤ 2000000) (hbase : base ≤ w.heap.size) (t : TypeId) :
    ∃ v' w', (Builtin.append_ #[27, 27] t #[v, .slice a0 m c]).run Tryz.prog w = .ok v' w' ∧ w'.ownsRow base 46 3 v' (n + m) (dpC (K ++ L)) ∧ w.grownBy w' v.ownBlock ∧ (v'.ownBlock = v.ownBlock ∨ v'.ownBlock = some w.heap.size ∧ w.heap.size < w'.heap.size) := by
  obtain ⟨i, hi, hz, hsize, hby⟩ := info_parts Tryz.info_dp
  have hm : m = L.length := hN.lenE.1.symm
  cases a0 with
  | none =>
    obtain ⟨rfl, rfl⟩ := hN.nil rfl
    have hL : L = [] := List.eq_nil_of_length_eq_zero hm.symm
    subst hL
    have hr := run_append_owned_none (P := Tryz.prog) (w := w) base 27 t 46 i 3 Tryz.underlying27 hi v n _ hown
    exact ⟨v, w, hr, by simpa using hown, ⟨rfl, rfl, rfl, Nat.le_refl _, fun _ _ _ => rfl⟩, .inl rfl⟩
  | some ad =>
    obtain ⟨v', w', hr, h2, h3, _, h5⟩ := run_append_own_at (P := Tryz.prog) w base 27 t 46 i zDpV 3 40 Tryz.underlying27 hi hz hsize hby rfl (by decide) v n _ hown ad m c (dpC L) (by rw [dpC_len, hm]) (hN.src ad rfl) (fun u hu => List.all_eq_true.1 (dpC_one L) u hu) (by unfold maxLen; omega) (by omega) hbase
    rw [← dpC_app] at h2
    refine ⟨v', w', hr, h2, h3, h5.imp id fun e => ⟨e, ?_⟩⟩
    exact (h2.lt _ e).2
section
variable {ops : Array Oper} {Q : Exit → Act → World → Prop} {a : Act} {w w0 : World} {who : Nat → Nat} {i B r ro : Nat} {o : Oper}
/-- 'append(row, l...)', the row one that a box's field holds. -/
theorem rol_app_dp (ho : ops[i]? = some o) (hw : Region.wanted o (yielded ops a.tmps) = true) {s : Nat} (hd : o.dst = some s) (hs : s < a.tmps.size) {y x : Operand} (hop : o.op = .call { callee := .builtin .append, args := #[y, x], argTypes := #[27, 27] })
    {N n t : Nat} {K : List Dp} {X : Value} (h : (RLeaf.mem t (rowX X N 46 3 n (dpC K))).holds r a w who) (hy : a.eval y = X) {a0 : Option Addr} {m c : Nat} (hx : a.eval x = .slice a0 m c) {L : List Dp} (hN : Dps w (.slice a0 m c) L) (hlen : n + m ≤ 2000000) (hb : Below B w0 w) (hB : B ≤ N) (hNw : N ≤ w.heap.size) {n' : Nat} {K' : List Dp} (hn : n' = n + m) (hK : K' = K ++ L) :
    wpOp Tryz.prog ops Q i (RPost ops i r r (.mem s (rowG N 46 3 n' (dpC K'))) B w0 a w who) a w := by
  subst hn hK
  obtain ⟨v, ob, hv, hob, hrow, rfl⟩ := h
  obtain ⟨v', w', hr, h2, h3, h5⟩ := run_app_dp hrow hN hlen hNw o.type
  exact rol_grow ho hw hd hs (ex_append hop hy hx hr) h3 hob h5 ⟨h2, rfl⟩ hb (Nat.le_trans hB hNw) (fun b e => Nat.le_trans hB (own_lt hrow e).1)
end
section
variable {wr : World} {ops : Array Oper} {rest : List Oper} {o : Oper} {a : Act} {Q : Exit → Act → World → Prop}
/-- 'l = append(l, x)', l the call's own: x has just been laid in a block of its own. -/
theorem wpList_push_dp (hgd : o.guard = none) (s x : Operand) (ho : o.op = .call { callee := .builtin .append, args := #[s, x], argTypes := #[27, 27] })
    (base : Nat) (V : Value) (K : List Dp) (n : Nat) (hn : K.length = n) (hs : a.eval s = V) (hown : wr.ownsRow base 46 3 V n (dpC K)) (p v : List UInt8) (z : Int) (N : Nat) (hN : wr.heap.size = N) (hx : a.eval x = .slice (some ⟨N, 0, none⟩) 1 1) (hlen : n ≤ 1000000) (hbase : base ≤ wr.heap.size)
    (h : ∀ a' c' w', w'.ownsRow base 46 3 (.slice a' (n + 1) c') (n + 1) (dpC (K ++ [((p, v), z)])) → wr.grownBy w' V.ownBlock → wpList Tryz.prog ops Q rest (a.put o.dst (.slice a' (n + 1) c')) w') :
    wpList Tryz.prog ops Q (o :: rest) a (wr.alloc (.cells #[.string (mkB p), .string (mkB v), .int .i64 z] 46)) := by
  subst hN
  refine wpList_plain hgd fun K' hK' => ?_
  obtain ⟨v', w', hr, h2, h3, -⟩ := run_app_dp (hown.alloc (.cells #[.string (mkB p), .string (mkB v), .int .i64 z] 46)) (blkG.dps (heap_alloc_new wr (.cells #[.string (mkB p), .string (mkB v), .int .i64 z] 46))) (m := 1) (c := 1) (by omega) (by simp; omega) o.type
  have ho2 : w'.ownsRow base 46 3 v' (K ++ [((p, v), z)]).length (dpC (K ++ [((p, v), z)])) := by rw [List.length_append, hn]; exact h2
  obtain ⟨a', c', hv, _⟩ := dpsO ho2
  rw [List.length_append, hn, List.length_singleton] at hv
  subst hv
  have hk := h a' c' w' h2 ((World.grownBy_alloc wr _ _).trans h3)
  unfold Oper.wp
  simp [execOp, ho, resolve, invoke, builtin, hs, hx, hr, Result.andThen]
  exact hK' _ _ hk
end

end Go.Proofs.YtdefphacdcbljaaGreat
