/- word's table of rests, a package-level variable: what its cells are, from the row's condition, and that it stays. -/
import Derived.Test.YtjlnajokkhdhnaaDoorWorB
import Derived.LaidMore
import Derived.LaidLaws
import Derived.MakeChecks
import Derived.Stop.Joined
import Derived.Lib.LaidTab
namespace Go.Proofs.YtjlnajokkhdhnaaDoor
open Go.ChangeShapes Go.WideShapes Go.ChangeAt Go.RowKit
set_option maxRecDepth 100000

def restsFlat : List (List UInt8) := (List.range 42).map fun i => restO (i / 14) (i % 14)
theorem restsFlat_len : restsFlat.length = 42 := by decide +kernel
/-- The variable holds the rests. -/
def RestIs (w : World) : Prop := w.var? Tryd.prog "graftwood/word.rests" = some (restsFlat.map strV).toArray

theorem strs_of_trod {H : Type} {enc : TypeId × Value → H} {P : Program} {w : World} {base : Nat} {sp : Nat → Bool} {held : Bool} {fuel : Nat} {t e : TypeId} {n : Nat} {cs : List Value} {ls : List (List UInt8)} {p : List MemPlace}
    (ht : P.underlying t = some (.array n e)) (he : P.underlying e = some .string) (hce : P.cellsOf e = 1) (hct : P.cellsOf t = n)
    (h : DataW.trod enc P w base sp held fuel t cs = some (.agg (ls.map fun l => .lit (.string l)), p)) : cs = ls.map strV := by
  cases fuel with
  | zero => simp [DataW.trod] at h
  | succ fuel =>
    simp only [DataW.trod, ht, hce, hct, Nat.mul_one] at h
    split at h
    · rename_i hl
      obtain ⟨xs, hm, hx⟩ := Option.map_eq_some_iff.1 h
      have hxs : xs.map (·.1) = ls.map fun l => (DataW.lit (.string l) : DataW H) := by
        have := congrArg Prod.fst hx
        simpa using this
      have hxl : xs.length = n := by simpa using Lib.mapM_length hm
      have hzl : ls.length = n := by
        have := congrArg List.length hxs
        simp at this
        omega
      apply List.ext_getElem?
      intro i
      by_cases hi : i < n
      · obtain ⟨b, hb, hf⟩ := Lib.mapM_at hm i i (by simp [hi])
        obtain ⟨z, hc, rfl, _⟩ := DataW.trod_string he hf
        have h1 : cs[i]? = some (.string z) := by
          have := congrArg (·[0]?) hc
          simpa [List.getElem?_take, List.getElem?_drop] using this
        have h2 : (xs.map (·.1))[i]? = some (DataW.lit (.string z.data.toList) : DataW H) := by simp [hb]
        rw [hxs] at h2
        simp only [List.getElem?_map, Option.map_eq_some_iff, DataW.lit.injEq, Lit.string.injEq] at h2
        obtain ⟨z', hz', e'⟩ := h2
        simp only [h1, List.getElem?_map, hz', Option.map_some, strV_all, e']
      · rw [List.getElem?_eq_none (by omega), List.getElem?_eq_none (by simp; omega)]
    · cases h

/-- An array of arrays of texts: its cells are the rows', one behind the other. -/
theorem strs_of_trod2 {H : Type} {enc : TypeId × Value → H} {P : Program} {w : World} {base : Nat} {sp : Nat → Bool} {held : Bool} {fuel : Nat} {t u e : TypeId} {cs : List Value} {a b c : List (List UInt8)} {p : List MemPlace}
    (ht : P.underlying t = some (.array 3 u)) (hu : P.underlying u = some (.array 14 e)) (he : P.underlying e = some .string) (hce : P.cellsOf e = 1) (hcu : P.cellsOf u = 14) (hct : P.cellsOf t = 42)
    (h : DataW.trod enc P w base sp held fuel t cs = some (.agg [.agg (a.map fun l => .lit (.string l)), .agg (b.map fun l => .lit (.string l)), .agg (c.map fun l => .lit (.string l))], p)) :
    cs = a.map strV ++ (b.map strV ++ c.map strV) := by
  cases fuel with
  | zero => simp [DataW.trod] at h
  | succ fuel =>
    simp only [DataW.trod, ht, hcu, hct] at h
    split at h
    · rename_i hl
      obtain ⟨xs, hm, hx⟩ := Option.map_eq_some_iff.1 h
      have hxs : xs.map (·.1) = [.agg (a.map fun l => .lit (.string l)), .agg (b.map fun l => .lit (.string l)), .agg (c.map fun l => .lit (.string l))] := by
        have := congrArg Prod.fst hx
        simpa using this
      have row : ∀ (i : Nat) (ls : List (List UInt8)), i < 3 → (xs.map (·.1))[i]? = some (.agg (ls.map fun l => .lit (.string l))) → (cs.drop (i * 14)).take 14 = ls.map strV := by
        intro i ls hi hr
        obtain ⟨y, hy, hf⟩ := Lib.mapM_at hm i i (by simp [hi])
        have e1 : y.1 = .agg (ls.map fun l => .lit (.string l)) := by
          rw [List.getElem?_map, hy] at hr
          simpa using hr
        obtain ⟨y1, y2⟩ := y
        simp only at e1
        subst e1
        exact strs_of_trod hu he hce hcu hf
      have r0 := row 0 a (by omega) (by rw [hxs]; rfl)
      have r1 := row 1 b (by omega) (by rw [hxs]; rfl)
      have r2 := row 2 c (by omega) (by rw [hxs]; rfl)
      rw [← r0, ← r1, ← r2]
      have e2 : (cs.drop (2 * 14)).take 14 = cs.drop 28 := List.take_of_length_le (by simp; omega)
      have e1 : (cs.drop (1 * 14)).take 14 ++ cs.drop 28 = cs.drop 14 := by
        have := List.take_append_drop 14 (cs.drop 14)
        rwa [List.drop_drop] at this
      have e0 : (cs.drop (0 * 14)).take 14 ++ cs.drop 14 = cs := List.take_append_drop 14 cs
      rw [e2, e1, e0]
    · cases h

theorem laid_met (os : Os) (args : Array Value) : laidMetH Tryd.prog Rows.wordTellsRow.laid ((World.doorLaid Tryd.prog 400 os).forCall (fun _ _ => 0) ⟨#[], args, []⟩).memory := by
  rw [MakeChecks.laidMetH_plain _ _ _ (by kernel_rfl)]
  exact laidMet_of_run' 8 (by kernel_rfl) (by kernel_rfl)

theorem tab_of {W : World} (h : laidMetH Tryd.prog Rows.wordTellsRow.laid W) : RestIs W := by
  rw [MakeChecks.laidMetH_plain _ _ _ (by kernel_rfl)] at h
  obtain ⟨ps, ⟨g0, t0, cs0, f0, p0, q0, hg0, ht0, hv0, hd0, _, _⟩, _⟩ := h
  have hg : Tryd.prog.globalNamed "graftwood/word.rests" = some 0 := by kernel_rfl
  have hty : (Tryd.prog.globals[0]?).map (·.type) = some 43 := by kernel_rfl
  obtain rfl := Option.some.inj (hg.symm.trans hg0)
  obtain rfl := Option.some.inj (hty.symm.trans ht0)
  have hc := strs_of_trod2 (a := (List.range 14).map (restO 0)) (b := (List.range 14).map (restO 1)) (c := (List.range 14).map (restO 2)) Tryd.underlying43 Tryd.underlying42 Tryd.underlying9 (by kernel_rfl) (by kernel_rfl) (by kernel_rfl) hd0
  unfold RestIs
  rw [hv0]
  congr 1
  have e : restsFlat.map strV = ((List.range 14).map (restO 0)).map strV ++ (((List.range 14).map (restO 1)).map strV ++ ((List.range 14).map (restO 2)).map strV) := by
    rw [← List.map_append, ← List.map_append]
    congr 1
  rw [e, ← hc]

theorem RestIs.below {w w' : World} (h : RestIs w) (hb : Below w.heap.size w w') : RestIs w' := by
  unfold RestIs World.var? at *
  cases hg : Tryd.prog.globalNamed "graftwood/word.rests" with
  | none => simp [hg] at h
  | some g =>
    simp only [hg, Option.bind_some] at h ⊢
    have hlt : g < w.heap.size := by
      rcases Nat.lt_or_ge g w.heap.size with h' | h'
      · exact h'
      · rw [Array.getElem?_eq_none h'] at h; simp at h
    rw [hb.block g hlt]
    exact h
theorem RestIs.cell {w : World} (h : RestIs w) (k a : Nat) (hk : k < 3) (ha : a < 14) : w.cell? ⟨0, k * 14 + a, none⟩ = some (.string (mkB (restO k a))) := by
  have hg : Tryd.prog.globalNamed "graftwood/word.rests" = some 0 := by kernel_rfl
  have := World.var?_cell hg h (k * 14 + a)
  rw [this, List.getElem?_toArray, List.getElem?_map]
  unfold restsFlat
  rw [List.getElem?_map, List.getElem?_range (by omega)]
  have e1 : (k * 14 + a) / 14 = k := by omega
  have e2 : (k * 14 + a) % 14 = a := by omega
  simp only [Option.map_some, e1, e2]
  rfl
end Go.Proofs.YtjlnajokkhdhnaaDoor
