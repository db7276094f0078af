/- A node no longer than is looked at, and some nodes of a list. -/
import Derived.Test.YtdefphacdcbljaaRolL
import Derived.Test.YtdefphacdcbljaaNodH
import Derived.Deep.RegionHeld3
import Derived.StillTailTactics
namespace Go.Proofs.Ytdefphacdcbljaa
open Go.RowKit
set_option maxRecDepth 100000

def oneN (n : Nd) : Nd := (fewL n.1, fewL n.2)
theorem fewL_len (l : List UInt8) : (fewL l).length ≤ 400 := by unfold fewL; rw [List.length_take]; omega
theorem less_cb : ∀ a b : List UInt8, Op.bytesLess a b = decide (Lib.compareBytes a b < 0)
  | [], [] => rfl
  | [], _ :: _ => rfl
  | _ :: _, [] => rfl
  | x :: a, y :: b => by
    rw [Op.bytesLess, Lib.compareBytes, less_cb a b]
    by_cases h1 : x < y
    · simp [h1]
    · by_cases h2 : y < x
      · have h3 : ¬ x = y := fun e => h1 (by rw [e]; rw [e] at h2; exact h2)
        simp [h1, h2, h3]
      · have h3 : x = y := UInt8.le_antisymm (UInt8.not_lt.1 h2) (UInt8.not_lt.1 h1)
        subst h3
        simp [h1]
theorem oneN_small (n : Nd) : smallN (oneN n) := ⟨Nat.le_trans (fewL_len _) (by decide), Nat.le_trans (fewL_len _) (by decide)⟩

set_option maxHeartbeats 1600000 in
theorem one_any (p v : List UInt8) (w : World) (hp : p.length ≤ maxLen) (hv : v.length ≤ maxLen) :
    Calls Try.prog 7 #[.agg #[.string (mkB p), .string (mkB v)]] w fun e w' => e = .returned (.agg #[.string (mkB (fewL p)), .string (mkB (fewL v))]) ∧ Below w.heap.size w w' := by
  obtain ⟨W, g, g', hW, hg, hg', c0, c1, r2, hb⟩ : ∃ W g g', (w.alloc (.cells #[.string (mkB p), .string (mkB v)] 24)).alloc (.cells zeroN 24) = W ∧ w.heap.size = g ∧ w.heap.size + 1 = g' ∧ W.cell? ⟨g, 0, none⟩ = some (.string (mkB p)) ∧ W.cell? ⟨g, 1, none⟩ = some (.string (mkB v)) ∧ W.heap[g']? = some (.cells zeroN 24 (0, 0)) ∧ Below w.heap.size w W :=
    ⟨_, _, _, rfl, rfl, rfl, cell_alloc (cell_new rfl rfl) _, cell_alloc (cell_new rfl rfl) _, by have := heap_alloc_new (w.alloc (.cells #[.string (mkB p), .string (mkB v)] 24)) (.cells zeroN 24); simpa using this, ((Below.refl _ _).alloc (Nat.le_refl _) _).alloc (by simp) _⟩
  have HW := Lib.hid hW; have HG := Lib.hid hg; have HG' := Lib.hid hg'; have B := Lib.hid hb; have R := Lib.hid r2
  clear hW hg hg' hb r2
  obtain ⟨d0, d1, f0, f1⟩ := row2 R.out
  go_enter Try.func7, Try.ntmps7
  go_upto_region 1 with fail
  change Code.wp _ _ _ _ ((w.alloc (.cells #[.string (mkB p), .string (mkB v)] 24)).alloc (.cells zeroN 24))
  rw [HW.out, HG'.out, HG.out]
  go_still_tail 7, (by kernel_rfl)
  still_call (few_s p _ hp)
  repeat still_step
  still_call (few_s v _ hv)
  repeat still_step
  refine wpStill_nil ?_
  go_wp2
  try simp only [Exit.inBlock, Exit.then]
  refine bodyPost_ret (v := .agg #[.string (mkB (fewL p)), .string (mkB (fewL v))]) (results_cell_row (fn := Try.f7) (p := 2) (ty := 24) rfl _ _ g' 24 #[.string (mkB (fewL p)), .string (mkB (fewL v))] (0, 0) _ rfl (row2_set R.out _ _) Try.underlying24 rfl (by kernel_rfl)) rfl ?_
  have hgg : w.heap.size ≤ g' := by rw [← HG'.out]; omega
  exact ⟨rfl, ((B.out.setCell (p := ⟨g', 0, none⟩) hgg _).setCell (p := ⟨g', 1, none⟩) hgg _).drew⟩

/-! ### Some nodes of a list -/
def fewNs (l : List Nd) : List Nd := (l.take 24).map oneN
theorem fewNs_len (l : List Nd) : (fewNs l).length ≤ 24 := by unfold fewNs; rw [List.length_map, List.length_take]; omega
theorem fewNs_small (l : List Nd) : ∀ n ∈ fewNs l, smallN n := fun n h => by
  obtain ⟨m, _, rfl⟩ := List.mem_map.1 h; exact oneN_small m
theorem fewNs_succ {l : List Nd} {k : Nat} (h : k < l.length) : (l.take (k + 1)).map oneN = (l.take k).map oneN ++ [oneN (l.getD k ([], []))] := by
  rw [List.take_succ_eq_append_getElem h, List.map_append, nd_getD h]; rfl

end Go.Proofs.Ytdefphacdcbljaa
