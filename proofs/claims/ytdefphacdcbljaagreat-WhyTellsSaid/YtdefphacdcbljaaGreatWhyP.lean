/- THE TEXTS OF DifB WhyP: Maps from nodes to numbers: how often each is there. Rows of nodes, each the call's own, in a row of the call's own that grows, and one of which grows; maps from nodes to places, and to numbers: what is asked of them. -/
import Derived.Test.YtdefphacdcbljaaGreatWhyO
import Derived.Test.YtdefphacdcbljaaGreatWhyB
import Derived.Maps.OwnOps
import Derived.Maps.OwnSet
import Derived.Maps.RangeWalk
import Derived.WideKeyEntry
import Derived.Test.YtdefphacdcbljaaGreatLakB
import Derived.Laws.MakeOwn
namespace Go.Proofs.YtdefphacdcbljaaGreat
open Go.RowKit Go.Maps
open Go.ChangeMaps (setBlock heap_setBlock_same heap_setBlock_other)
open Go.WideMaps (KeyLaw)
set_option linter.unusedVariables false
set_option maxRecDepth 100000

theorem node_law : KeyLaw Tryz.prog 24 := ⟨fun h => by obtain ⟨n, _, rfl, _⟩ := key_inv h; exact ⟨_, rfl⟩, node_keyed.inj, node_keyed.check, node_keyed.find, node_keyed.stays⟩
/-- Block b is a map of at most nn entries: its keys are the nodes of K, and f tells the number of each (of all others it is 0). -/
structure CMap (w : World) (b nn : Nat) (K : List Nd) (f : Nd → Int) : Prop where
  fits : ∀ n ∈ K, fitsN n
  zero : ∀ n, n ∉ K → f n = 0
  ex : ∃ D : DataW Unit, w.ownsMap Tryz.prog 24 (plainElem Tryz.prog 3) b nn D ∧ ∀ n, fitsN n → has D (litN n) = hasN K n ∧ (hasN K n = true → D.atKey (litN n) (.lit (.int .i64 0)) = .lit (.int .i64 (f n)))
theorem CMap.made (w : World) : CMap (w.alloc (.map #[] 0)) w.heap.size 0 [] fun _ => 0 :=
  ⟨(fun n hn => by cases hn), (fun _ _ => rfl), _, World.ownsMap_made w _ _ _, fun n _ => ⟨by simp [has, hasN], fun h => by simp [hasN] at h⟩⟩
theorem CMap.kept {w w' : World} {b nn : Nat} {K : List Nd} {f : Nd → Int} {row : Option Nat} (h : CMap w b nn K f) (hg : w.grownBy w' row) (hne : some b ≠ row) : CMap w' b nn K f := by
  obtain ⟨hf, hz, D, ho, hD⟩ := h
  exact ⟨hf, hz, D, ho.kept hg hne, hD⟩
theorem CMap.alloc {w : World} {b nn : Nat} {K : List Nd} {f : Nd → Int} (h : CMap w b nn K f) (o : Obj) : CMap (w.alloc o) b nn K f := h.kept (World.grownBy_alloc w o none) (by simp)
theorem CMap.lt {w : World} {b nn : Nat} {K : List Nd} {f : Nd → Int} (h : CMap w b nn K f) : b < w.heap.size := by obtain ⟨_, _, D, ho, _⟩ := h; exact ho.lt
theorem CMap.near {w w' : World} {b nn : Nat} {K : List Nd} {f : Nd → Int} (h : CMap w b nn K f) (hb : w'.heap[b]? = w.heap[b]?) : CMap w' b nn K f := by
  obtain ⟨hf, hz, D, ⟨es, clock, he, rest⟩, hD⟩ := h
  exact ⟨hf, hz, D, ⟨es, clock, hb.trans he, rest⟩, hD⟩
theorem CMap.below {w w' : World} {b nn : Nat} {K : List Nd} {f : Nd → Int} (h : CMap w b nn K f) (hb : Below w.heap.size w w') : CMap w' b nn K f := h.near (hb.block b h.lt)
theorem CMap.congr {w : World} {b nn : Nat} {K : List Nd} {f g : Nd → Int} (h : CMap w b nn K f) (e : ∀ n, f n = g n) : CMap w b nn K g := by
  have : f = g := funext e
  rw [← this]; exact h
theorem CMap.mono {w : World} {b nn m : Nat} {K : List Nd} {f : Nd → Int} (h : CMap w b nn K f) (e : nn ≤ m) : CMap w b m K f := by
  obtain ⟨hf, hz, D, ho, hD⟩ := h
  exact ⟨hf, hz, D, ho.mono e, hD⟩
/-- A map from nodes to numbers, made. -/
theorem make_cmap (w : World) : (Instr.makeMap 52 none).run Tryz.prog w = .ok (.map (some w.heap.size)) (w.alloc (.map #[] 0)) := by
  simp [Instr.makeMap, Result.andThen]
theorem look_cmap {w : World} {b nn : Nat} {K : List Nd} {f : Nd → Int} {p v : List UInt8} (h : CMap w b nn K f) (hf : fitsN (p, v)) :
    Sem.run Tryz.prog (Instr.lookup 52 (.map (some b)) (.agg #[.string (mkB p), .string (mkB v)]) false) w = .ok (.int .i64 (f (p, v))) w := by
  obtain ⟨_, hz, D, hown, hD⟩ := h
  obtain ⟨h1, h2⟩ := hD _ hf
  obtain ⟨c, hr, hat, _⟩ := hown.lookup_int node_keyed Tryz.underlying52 Tryz.underlying3 (Tryz.zeroValue3 w) (key_n (p, v) hf.1 hf.2)
  have he : c = f (p, v) := by
    cases O : hasN K (p, v)
    · rw [O] at h1
      rw [atKey_of_not_has h1] at hat
      have : (0 : Int) = c := by simpa using hat
      rw [← this, hz _ (hasN_not.1 O)]
    · rw [h2 O] at hat
      have : f (p, v) = c := by simpa using hat
      exact this.symm
  subst he
  exact hr
/-- A store, as the map reads then. -/
theorem cmap_put {D : DataW Unit} {K : List Nd} {f : Nd → Int} {n : Nd} {z : Int} (hi : IsMap D) (hn : fitsN n)
    (hD : ∀ n, fitsN n → has D (litN n) = hasN K n ∧ (hasN K n = true → D.atKey (litN n) (.lit (.int .i64 0)) = .lit (.int .i64 (f n)))) :
    ∀ m, fitsN m → has (D.put (litN n) (.lit (.int .i64 z))) (litN m) = hasN (K ++ [n]) m ∧
      (hasN (K ++ [n]) m = true → (D.put (litN n) (.lit (.int .i64 z))).atKey (litN m) (.lit (.int .i64 0)) = .lit (.int .i64 (if m = n then z else f m))) := by
  have hk : WideAt.IsKeyLit (litN n) := node_keyed.key (key_n n hn.1 hn.2)
  intro m hm
  by_cases e : m = n
  · subst e
    have h1 : hasN (K ++ [m]) m = true := hasN_iff.2 (by simp)
    rw [has_put_same hi hk, h1, atKey_put_same hi hk, if_pos rfl]
    exact ⟨rfl, fun _ => rfl⟩
  · have hne : litN m ≠ litN n := fun h => e (litN_inj hm hn h)
    have h1 : hasN (K ++ [n]) m = hasN K m := by
      rw [Bool.eq_iff_iff, hasN_iff, hasN_iff]; simp [e]
    rw [has_put_other hne, h1, atKey_put_other hne, if_neg e]
    exact hD m hm
theorem CMap.stored {w w' : World} {b nn : Nat} {K : List Nd} {f : Nd → Int} {n : Nd} {z : Int} (h : CMap w b nn K f) (hn : fitsN n) (hz : fitI z) (hnn : nn < maxLen)
    (hr : (Instr.mapUpdate 52 (.map (some b)) (ndV n) (.int .i64 z)).run Tryz.prog w = .ok () w') : CMap w' b (nn + 1) (K ++ [n]) (fun m => if m = n then z else f m) ∧ w.grownBy w' (some b) := by
  obtain ⟨hf, h0, D, hown, hD⟩ := h
  have hwf : (Lit.int .i64 z).wf = true := by
    show (decide (IntKind.i64.min ≤ z) && decide (z ≤ IntKind.i64.max)) = true
    rw [Bool.and_eq_true, decide_eq_true_eq, decide_eq_true_eq]
    exact hz
  obtain ⟨w2, hrun, hown2, hturn⟩ := hown.store node_keyed Tryz.underlying52 hnn (key_n n hn.1 hn.2) (plainElem_int Tryz.underlying3 hwf)
  rw [hr] at hrun
  have e : w' = w2 := by injection hrun
  subst e
  refine ⟨⟨fits_step hf hn, fun m hm => ?_, _, hown2, cmap_put hown.isMap hn hD⟩, hturn.grown⟩
  have h1 : m ∉ K ∧ m ≠ n := by
    rw [List.mem_append, not_or] at hm
    exact ⟨hm.1, fun e => hm.2 (by rw [e]; simp)⟩
  rw [if_neg h1.2, h0 m h1.1]
theorem block_self {w : World} {b : Nat} {o : Obj} (h : w.heap[b]? = some o) : setBlock w b o = w := by
  have e : w.heap.setIfInBounds b o = w.heap := by
    apply Array.ext_getElem?
    intro i
    by_cases hi : i = b
    · subst hi
      rw [Array.getElem?_setIfInBounds_self_of_lt (Array.getElem?_eq_some_iff.1 h).1, h]
    · rw [Array.getElem?_setIfInBounds_ne (Ne.symm hi)]
  unfold setBlock
  rw [e]
theorem hasN_app_self (K : List Nd) {n : Nd} (h : n ∈ K) (m : Nd) : hasN (K ++ [n]) m = hasN K m := by
  rw [Bool.eq_iff_iff, hasN_iff, hasN_iff, List.mem_append]
  exact ⟨fun k => k.elim id fun k => by rw [List.mem_singleton.1 k]; exact h, .inl⟩
/-- 'm[n] op= x': the entry first (n has one from then on), then what is stored. -/
theorem entry_cmap {w : World} {b nn : Nat} {K : List Nd} {f : Nd → Int} {p v : List UInt8} (h : CMap w b nn K f) (hf : fitsN (p, v)) (hnn : nn < maxLen) :
    ∃ (st : Nat) (w1 : World), (Instr.mapEntry 52 (.map (some b)) (.agg #[.string (mkB p), .string (mkB v)])).run Tryz.prog w = .ok (.tuple #[.int .i64 (f (p, v)), .int .i64 (st : Int)]) w1 ∧
      CMap w1 b (nn + 1) (K ++ [(p, v)]) f ∧ w.grownBy w1 (some b) ∧
      ∀ z, fitI z → ∃ w2, (Instr.entryStore 52 (.map (some b)) (.int .i64 (st : Int)) (.int .i64 z)).run Tryz.prog w1 = .ok () w2 ∧ CMap w2 b (nn + 1) (K ++ [(p, v)]) (fun m => if m = (p, v) then z else f m) ∧ w.grownBy w2 (some b) := by
  have hz0 : ∀ u : World, (zeroValue 3).run Tryz.prog u = .ok (.int .i64 0) u := Tryz.zeroValue3
  have hlook := look_cmap h hf
  have hkey : keyOf Tryz.prog 24 (.agg #[.string (mkB p), .string (mkB v)]) = some (litN (p, v)) := key_n (p, v) hf.1 hf.2
  have ht := Tryz.underlying52
  have hC := h
  obtain ⟨_, h0, D, hown, hD⟩ := h
  obtain ⟨es, clock, hb, F, hs, rfl⟩ := hown
  obtain ⟨v0, st, es1, clock1, hE, -, hS⟩ := WideElems.entry_then_store node_law ht hz0 hb F hkey
  have hb1 : (setBlock w b (.map es1 clock1)).heap[b]? = some (.map es1 clock1) := heap_setBlock_same hb _
  have hfst : ∀ z, fitI z → ∃ w2, (Instr.entryStore 52 (.map (some b)) (.int .i64 (st : Int)) (.int .i64 z)).run Tryz.prog (setBlock w b (.map es1 clock1)) = .ok () w2 ∧ CMap w2 b (nn + 1) (K ++ [(p, v)]) (fun m => if m = (p, v) then z else f m) ∧ w.grownBy w2 (some b) := by
    intro z hz
    obtain ⟨es', clock', hr1, hr2⟩ := hS _ (.int .i64 z) hb1
    have e : setBlock (setBlock w b (.map es1 clock1)) b (.map es' clock') = setBlock w b (.map es' clock') := by simp [setBlock]
    rw [e] at hr1
    obtain ⟨k1, k2⟩ := hC.stored (n := (p, v)) hf hz hnn hr2
    exact ⟨_, hr1, k1, k2⟩
  have hgr : w.grownBy (setBlock w b (.map es1 clock1)) (some b) := ⟨rfl, rfl, rfl, by simp [setBlock], fun i _ hi => heap_setBlock_other hb _ (fun e => hi (by rw [e]))⟩
  rcases node_keyed.find w hkey es.toList F.keys with ⟨f1, f2⟩ | ⟨j, e0, f1, f2, f3⟩
  · have hrun : (Instr.mapEntry 52 (.map (some b)) (.agg #[.string (mkB p), .string (mkB v)])).run Tryz.prog w = .ok (.tuple #[.int .i64 0, .int .i64 (clock : Int)]) (setBlock w b (.map (es.push ⟨.agg #[.string (mkB p), .string (mkB v)], .int .i64 0, clock⟩) (clock + 1))) := by
      simp [Instr.mapEntry, run_underlying ht, MapKept.run_getObj_map hb, node_keyed.check w false hkey, f1, hz0, MapKept.run_setObj_map _ hb, Result.andThen, setBlock, goInt]
    have hup : (Instr.mapUpdate 52 (.map (some b)) (ndV (p, v)) (.int .i64 0)).run Tryz.prog w = .ok () (setBlock w b (.map (es.push ⟨.agg #[.string (mkB p), .string (mkB v)], .int .i64 0, clock⟩) (clock + 1))) := by
      have : ndV (p, v) = .agg #[.string (mkB p), .string (mkB v)] := rfl
      rw [this]
      simp [Instr.mapUpdate, run_underlying ht, MapKept.run_getObj_map hb, node_keyed.check w false hkey, f1, MapKept.run_setObj_map _ hb, Result.andThen, setBlock]
    have hl2 : (Instr.lookup 52 (.map (some b)) (.agg #[.string (mkB p), .string (mkB v)]) false).run Tryz.prog w = .ok (.int .i64 0) w := by
      simp [Instr.lookup, run_underlying ht, MapKept.run_getObj_map hb, node_keyed.check w _ hkey, f1, hz0, Result.andThen]
    have ef : f (p, v) = 0 := by
      have h2 := hlook.symm.trans hl2
      injection h2 with h3
      injection h3
    obtain ⟨k1, _⟩ := hC.stored (n := (p, v)) hf (show fitI 0 by unfold fitI; omega) hnn hup
    rw [hrun] at hE
    injection hE with e1 e2
    injection e1 with e1
    have e3 : ((clock : Nat) : Int) = (st : Int) := by
      have h4 : #[Value.int .i64 0, Value.int .i64 (clock : Int)] = #[v0, goInt st] := e1
      have h5 := congrArg (fun x : Array Value => x[1]?) h4
      simpa [goInt] using h5
    rw [e2] at hrun k1
    refine ⟨st, _, by rw [ef, ← e3]; exact hrun, k1.congr fun m => ?_, hgr, hfst⟩
    by_cases hm : m = (p, v)
    · rw [if_pos hm, hm, ef]
    · rw [if_neg hm]
  · have hj : es[j]? = some e0 := by simpa using f2
    have hsame : es.modify j (fun e => { e with key := (.agg #[.string (mkB p), .string (mkB v)]) }) = es := by
      apply Array.ext'
      rw [Array.toList_modify, ChangeMaps.modify_eq_set _ _ _ _ f2]
      have : ({ e0 with key := (.agg #[.string (mkB p), .string (mkB v)]) } : MapEntry) = e0 := by rw [← f3]
      rw [this]
      exact WideElems.set_self _ _ _ f2
    have hrun : (Instr.mapEntry 52 (.map (some b)) (.agg #[.string (mkB p), .string (mkB v)])).run Tryz.prog w = .ok (.tuple #[e0.val, .int .i64 (e0.born : Int)]) (setBlock w b (.map es clock)) := by
      simp [Instr.mapEntry, run_underlying ht, MapKept.run_getObj_map hb, node_keyed.check w false hkey, f1, hj, f3, node_keyed.stays w hkey, hsame, MapKept.run_setObj_map _ hb, Result.andThen, setBlock, goInt]
    have hl2 : (Instr.lookup 52 (.map (some b)) (.agg #[.string (mkB p), .string (mkB v)]) false).run Tryz.prog w = .ok e0.val w := by
      simp [Instr.lookup, run_underlying ht, MapKept.run_getObj_map hb, node_keyed.check w _ hkey, f1, Result.andThen]
    have ef : e0.val = .int .i64 (f (p, v)) := by
      have h2 := hl2.symm.trans hlook
      injection h2
    have hin : (p, v) ∈ K := by
      rw [← hasN_iff, ← (hD _ hf).1]
      rcases Maps.fit_look false node_keyed ht (hz0 w) hb F hkey with ⟨_, g2, _⟩ | ⟨e1, y, _, _, _, _, g6, _⟩
      · exact absurd f3 (g2 e0 (List.mem_of_getElem? f2))
      · exact Maps.has_true_of_atKey g6
    rw [hrun] at hE
    injection hE with e1 e2
    injection e1 with e1
    have e3 : ((e0.born : Nat) : Int) = (st : Int) := by
      have h4 : #[e0.val, Value.int .i64 (e0.born : Int)] = #[v0, goInt st] := e1
      have h5 := congrArg (fun x : Array Value => x[1]?) h4
      simpa [goInt] using h5
    have hw : setBlock w b (.map es1 clock1) = w := by rw [← e2]; exact block_self hb
    rw [e2] at hrun
    refine ⟨st, _, by rw [← ef, ← e3]; exact hrun, ?_, hgr, hfst⟩
    rw [hw]
    obtain ⟨c1, c2, D', c3, c4⟩ := hC
    refine ⟨fits_step c1 hf, fun m hm => c2 m fun k => hm (List.mem_append_left _ k), D', c3.mono (Nat.le_succ _), fun m hm => ?_⟩
    rw [hasN_app_self K hin]
    exact c4 m hm
end Go.Proofs.YtdefphacdcbljaaGreat

namespace Go.Proofs.YtdefphacdcbljaaGreat
open Go.RowKit Go.Maps Go.ChangeShapes Go.WideShapes
set_option linter.unusedVariables false
set_option maxRecDepth 100000

structure BesN (w : World) (lo : Nat) (V : Value) (vs : List Value) (ls : List (List Nd)) : Prop where
  row : w.ownsRow lo 31 1 V ls.length vs
  len : vs.length = ls.length
  own : ∀ j, j < ls.length → w.ownsRow lo 24 2 (vs.getD j undef) (ls.getD j []).length (ndsC (ls.getD j []))
  apart : ∀ i j, i < ls.length → j < ls.length → i ≠ j → ∀ b, (vs.getD i undef).ownBlock = some b → (vs.getD j undef).ownBlock ≠ some b
theorem BesN.nil (w : World) (lo : Nat) : BesN w lo (.slice none 0 0) [] [] := ⟨World.ownsRow_nil _ _ _ _, rfl, fun j hj => absurd hj (by simp), fun i j hi => absurd hi (by simp)⟩
theorem BesN.below {w w' : World} {lo : Nat} {V : Value} {vs : List Value} {ls : List (List Nd)} (h : BesN w lo V vs ls) (hb : Below w.heap.size w w') : BesN w' lo V vs ls :=
  ⟨ownsRow_belowB h.row hb, h.len, fun j hj => ownsRow_belowB (h.own j hj) hb, h.apart⟩
theorem own_form19 {w : World} {base : Nat} {e : TypeId} {size : Nat} {v : Value} {n : Nat} {xs : List Value} (h : w.ownsRow base e size v n xs) : ∃ a c, v = .slice a n c := by
  rcases h.2 with ⟨rfl, h0⟩ | ⟨g, cap, cur, rfl, _⟩
  · exact ⟨none, 0, by rw [h0]⟩
  · exact ⟨_, _, rfl⟩
theorem getD_snoc {α : Type} (l : List α) (x z : α) (j : Nat) : (l ++ [x]).getD j z = if j < l.length then l.getD j z else if j = l.length then x else z := by
  rw [List.getD_eq_getElem?_getD, List.getD_eq_getElem?_getD]
  by_cases h : j < l.length
  · rw [if_pos h, List.getElem?_append_left h]
  · rw [if_neg h, List.getElem?_append_right (by omega)]
    by_cases e : j = l.length
    · subst e; simp
    · rw [if_neg e, List.getElem?_eq_none (by simp; omega)]; rfl
theorem set_getD19 {α : Type} {l : List α} {k j : Nat} {x z : α} (hj : j < l.length) : (l.set k x).getD j z = if j = k then x else l.getD j z := by
  rw [List.getD_eq_getElem?_getD, List.getElem?_set, List.getD_eq_getElem?_getD]
  by_cases e : k = j
  · subst e; rw [if_pos rfl, if_pos rfl, if_pos hj]; rfl
  · rw [if_neg e, if_neg (fun h => e h.symm)]
/-- A nil row more. -/
theorem BesN.push {w w' : World} {lo : Nat} {V V' : Value} {vs : List Value} {ls : List (List Nd)} (h : BesN w lo V vs ls) (hV : w'.ownsRow lo 31 1 V' (ls.length + 1) (vs ++ [.slice none 0 0])) (hg : w.grownBy w' V.ownBlock) : BesN w' lo V' (vs ++ [.slice none 0 0]) (ls ++ [[]]) := by
  refine ⟨by rw [List.length_append]; exact hV, by rw [List.length_append, List.length_append, h.len]; rfl, fun j hj => ?_, fun i j hi hj hne b e q => ?_⟩
  · rw [getD_snoc, getD_snoc, h.len]
    by_cases hlt : j < ls.length
    · rw [if_pos hlt, if_pos hlt]
      exact row_heap (h.own j hlt) fun b e => hg.block b (own_lt (h.own j hlt) e).2 fun q => own_apart h.row (h.own j hlt) (by decide) b q.symm e
    · rw [List.length_append, List.length_singleton] at hj
      rw [if_neg hlt, if_neg hlt, if_pos (by omega), if_pos (by omega)]
      exact World.ownsRow_nil _ _ _ _
  · rw [List.length_append, List.length_singleton] at hi hj
    rw [getD_snoc, h.len] at e q
    by_cases hi2 : i < ls.length
    · rw [if_pos hi2] at e
      by_cases hj2 : j < ls.length
      · rw [if_pos hj2] at q
        exact h.apart i j hi2 hj2 hne b e q
      · rw [if_neg hj2, if_pos (by omega)] at q
        cases q
    · rw [if_neg hi2, if_pos (by omega)] at e
      cases e
/-- The row of rows, as a block. -/
theorem BesN.open {w : World} {lo : Nat} {V : Value} {vs : List Value} {ls : List (List Nd)} (h : BesN w lo V vs ls) (hp : 0 < ls.length) : ∃ g c cur, V = .slice (some ⟨g, 0, none⟩) ls.length c ∧ lo ≤ g ∧ w.heap[g]? = some (.cells cur 31 (0, 0)) ∧ ls.length ≤ c ∧ c ≤ maxLen ∧ cur.size = c ∧ cur.toList.take ls.length = vs := by
  rcases h.row.2 with ⟨_, h0⟩ | ⟨g, c, cur, h1, h2, h3, h4, h5, h6, h7⟩
  · omega
  · exact ⟨g, c, cur, h1, h2, h3, h4, h5, by rw [h6, Nat.mul_one], by rw [Nat.mul_one] at h7; exact h7⟩
/-- One of them has grown. -/
theorem BesN.grow {w w' : World} {lo g c k : Nat} {cur : Array Value} {vs : List Value} {ls : List (List Nd)} (h : BesN w lo (.slice (some ⟨g, 0, none⟩) ls.length c) vs ls) (hlo : lo ≤ g) (h4 : ls.length ≤ c) (h5 : c ≤ maxLen) (h6 : cur.size = c) (h7 : cur.toList.take ls.length = vs) (hk : k < ls.length) {v : Value} {L : List Nd}
    (hr : w'.heap[g]? = some (.cells (cur.setIfInBounds k v) 31 (0, 0)))
    (hv : w'.ownsRow lo 24 2 v L.length (ndsC L)) (ho : ∀ j, j < ls.length → j ≠ k → w'.ownsRow lo 24 2 (vs.getD j undef) (ls.getD j []).length (ndsC (ls.getD j []))) (ha : ∀ j, j < ls.length → j ≠ k → ∀ b, (vs.getD j undef).ownBlock = some b → v.ownBlock ≠ some b) : BesN w' lo (.slice (some ⟨g, 0, none⟩) (ls.set k L).length c) (vs.set k v) (ls.set k L) := by
  rw [List.length_set]
  refine ⟨?_, by rw [List.length_set, List.length_set, h.len], fun j hj => ?_, fun i j hi hj hne b e q => ?_⟩
  · rw [List.length_set]
    refine ⟨by rw [List.length_set, h.len, Nat.mul_one], .inr ⟨g, c, _, rfl, hlo, hr, h4, h5, by rw [Array.size_setIfInBounds, h6, Nat.mul_one], ?_⟩⟩
    rw [Nat.mul_one, Array.toList_setIfInBounds, List.take_set, h7]
  · rw [List.length_set] at hj
    rw [set_getD19 (by rw [h.len]; exact hj), set_getD19 hj]
    by_cases e : j = k
    · rw [if_pos e, if_pos e]; exact hv
    · rw [if_neg e, if_neg e]; exact ho j hj e
  · rw [List.length_set] at hi hj
    rw [set_getD19 (by rw [h.len]; exact hi)] at e
    rw [set_getD19 (by rw [h.len]; exact hj)] at q
    by_cases ei : i = k
    · rw [if_pos ei] at e
      rw [if_neg (fun x => hne (ei.trans x.symm))] at q
      exact ha j hj (fun x => hne (ei.trans x.symm)) b q e
    · rw [if_neg ei] at e
      by_cases ej : j = k
      · rw [if_pos ej] at q
        exact ha i hi ei b e q
      · rw [if_neg ej] at q
        exact h.apart i j hi hj hne b e q
/-- The row of rows, a row put into it. -/
def besP (g : Nat) (cur : Array Value) (k : Nat) : World → Value → Option Nat → Prop := fun w v ob => ob = some g ∧ w.heap[g]? = some (.cells (cur.setIfInBounds k v) 31 (0, 0))
theorem besP_near {g : Nat} {cur : Array Value} {k : Nat} : ∀ (w w' : World) (v : Value) (ob : Option Nat), (∀ b, ob = some b → w'.heap[b]? = w.heap[b]?) → besP g cur k w v ob → besP g cur k w' v ob := by
  rintro w w' v ob hb ⟨rfl, h⟩
  exact ⟨rfl, (hb g rfl).trans h⟩
/-- The other rows. -/
def besO (lo k : Nat) (vs : List Value) (ls : List (List Nd)) : World → Value → (Nat → Prop) → Prop := fun w _ bs => ∀ j, j < ls.length → j ≠ k → w.ownsRow lo 24 2 (vs.getD j undef) (ls.getD j []).length (ndsC (ls.getD j [])) ∧ ∀ b, (vs.getD j undef).ownBlock = some b → bs b
theorem besO_near {lo k : Nat} {vs : List Value} {ls : List (List Nd)} : ∀ (w w' : World) (v : Value) (bs : Nat → Prop), (∀ b, bs b → w'.heap[b]? = w.heap[b]?) → besO lo k vs ls w v bs → besO lo k vs ls w' v bs := by
  rintro w w' v bs hb h j hj hk
  obtain ⟨h1, h2⟩ := h j hj hk
  exact ⟨row_heap h1 fun b e => hb b (h2 b e), h2⟩
theorem st_ndl {w : World} {g i n c : Nat} {A : Option Addr} {u : Value} (h : w.cell? ⟨g, i, none⟩ = some u) (hf : w.frozen? ⟨g, i, none⟩ = false) : Sem.run Tryz.prog (Instr.storeAt 31 (.pointer (some ⟨g, i, none⟩)) (.slice A n c)) w = .ok () (w.setCell ⟨g, i, none⟩ (.slice A n c)) := by
  go_simp
theorem ld_ndll {w : World} {g i n c : Nat} {a : Option Addr} (h : w.cell? ⟨g, i, none⟩ = some (.slice a n c)) : Sem.run Tryz.prog (Instr.loadAt 39 (.pointer (some ⟨g, i, none⟩))) w = .ok (.slice a n c) w := by
  go_simp
section
variable {ops : Array Oper} {Q : Exit → Act → World → Prop} {a : Act} {w w0 : World} {who : Nat → Nat} {i B r ro : Nat} {o : Oper}
theorem rol_setP (ho : ops[i]? = some o) (hw : Region.wanted o (yielded ops a.tmps) = true) (hd : o.dst = none) {x : Operand} {t g k : Nat} (hop : o.op = .store 31 x (.tmp t)) (hx : a.eval x = .pointer (some ⟨g, k, none⟩)) {N n : Nat} {xs : List Value} {r2 : Nat} (h : (RLeaf.mem t (rowG N 24 2 n xs)).holds r2 a w who)
    {cur : Array Value} (hg : (RLeaf.box g (.cells cur 31)).holds r a w who) (hk : k < cur.size) (hb : Below B w0 w) (hB : B ≤ g) : wpOp Tryz.prog ops Q i (RPost ops i r r (.mem t (besP g cur k)) B w0 a w who) a w := by
  obtain ⟨v, ob, hv, -, hrow, rfl⟩ := h
  obtain ⟨h1, h2⟩ := hg
  obtain ⟨av, cv, rfl⟩ := own_form19 hrow
  have hc : w.cell? ⟨g, k, none⟩ = some cur[k] := by simp [World.cell?, h1, hk]
  have hf : w.frozen? ⟨g, k, none⟩ = false := by unfold World.frozen?; simp only [h1]; simp
  refine rol_wp ho hw ?_
  unfold Oper.wp
  rw [ex_store hop hx (eval_slot hv) (st_ndl hc hf), Oper.upon_skip, hd]
  have hlt : g < w.heap.size := (Array.getElem?_eq_some_iff.1 h1).1
  refine ⟨⟨undef, by rw [dst_of ho, hd]⟩, hb.setCell hB _, who, ⟨fun j _ hj => ?_, fun _ _ => rfl, by simp [World.setCell]⟩, _, some g, hv, fun b e => ?_, rfl, ?_⟩
  · exact Below.heap_setCell _ ⟨g, k, none⟩ _ j (fun e => hj (by rw [e]; exact h2))
  · cases e
    exact ⟨by simp [World.setCell]; exact hlt, h2⟩
  · simp [World.setCell, Array.getElem?_modify, h1]
end

/-! ### Maps -/
theorem make_cmap19 (w : World) : (Instr.makeMap 52 none).run Tryz.prog w = .ok (.map (some w.heap.size)) (w.alloc (.map #[] 0)) := by
  simp [Instr.makeMap, Result.andThen]
/-- The place of a node that there is, or none. -/
theorem lookN_imap {w : World} {b n : Nat} {L : List Nd} {p v : List UInt8} (h : IMap w b n L) (hf : fitsN (p, v)) {O : Bool} (ho : hasN L (p, v) = O) {k : Nat} (hk : (if O = true then laN L (p, v) else 0) = k) :
    Sem.run Tryz.prog (Instr.lookup 52 (.map (some b)) (.agg #[.string (mkB p), .string (mkB v)]) true) w = .ok (.tuple #[.int .i64 (k : Int), .bool O]) w := by
  obtain ⟨_, D, hown, _, hD⟩ := h
  obtain ⟨h1, h2⟩ := hD _ hf
  obtain ⟨u, ps, hr, hv⟩ := hown.look_ok node_keyed Tryz.underlying52 (Tryz.zeroValue3 w) (plainElem_int Tryz.underlying3 (by decide)) (key_n (p, v) hf.1 hf.2)
  obtain ⟨c, rfl, hc, _⟩ := plainElem_int_inv Tryz.underlying3 hv
  have hc1 : D.atKey (litN (p, v)) (.lit (.int .i64 0)) = .lit (.int .i64 c) := congrArg Prod.fst hc
  have he : c = (k : Int) := by
    cases O
    · rw [ho] at h1
      rw [atKey_of_not_has h1] at hc1
      have : (0 : Int) = c := by simpa using hc1
      rw [← this, ← hk]; rfl
    · rw [h2 ho] at hc1
      have : ((laN L (p, v) : Nat) : Int) = c := by simpa using hc1
      rw [← this, ← hk]; rfl
  subst he
  rw [h1, ho] at hr
  exact hr
/-- The number of a node, and whether there is one. -/
theorem lookC_cmap {w : World} {b nn : Nat} {K : List Nd} {f : Nd → Int} {p v : List UInt8} (h : CMap w b nn K f) (hf : fitsN (p, v)) {O : Bool} (ho : hasN K (p, v) = O) {z : Int} (hz : f (p, v) = z) :
    Sem.run Tryz.prog (Instr.lookup 52 (.map (some b)) (.agg #[.string (mkB p), .string (mkB v)]) true) w = .ok (.tuple #[.int .i64 z, .bool O]) w := by
  obtain ⟨_, h0, D, hown, hD⟩ := h
  obtain ⟨h1, h2⟩ := hD _ hf
  obtain ⟨u, ps, hr, hv⟩ := hown.look_ok node_keyed Tryz.underlying52 (Tryz.zeroValue3 w) (plainElem_int Tryz.underlying3 (by decide)) (key_n (p, v) hf.1 hf.2)
  obtain ⟨c, rfl, hc, _⟩ := plainElem_int_inv Tryz.underlying3 hv
  have hc1 : D.atKey (litN (p, v)) (.lit (.int .i64 0)) = .lit (.int .i64 c) := congrArg Prod.fst hc
  have he : c = z := by
    cases O
    · rw [ho] at h1
      rw [atKey_of_not_has h1] at hc1
      have : (0 : Int) = c := by simpa using hc1
      rw [← this, ← hz, h0 _ (hasN_not.1 ho)]
    · rw [h2 ho] at hc1
      have : f (p, v) = c := by simpa using hc1
      rw [← this, ← hz]
  subst he
  rw [h1, ho] at hr
  exact hr
/-- A closure that is asked at nodes. -/
def AnsW (F : Nat) (lb : Array Value) (q : Nd → List Nd) (B : Nat) (w : World) : Prop :=
  ∀ w', Below B w w' → ∀ p v : List UInt8, fitsN (p, v) → Calls Tryz.prog F (#[.agg #[.string (mkB p), .string (mkB v)]] ++ lb) w' fun e w'' => ∃ a c, e = .returned (.slice a (q (p, v)).length c) ∧ Nds w'' (.slice a (q (p, v)).length c) (q (p, v)) ∧ Below w'.heap.size w' w''
theorem AnsW.below {F : Nat} {lb : Array Value} {q : Nd → List Nd} {B : Nat} {w w1 : World} (h : AnsW F lb q B w) (hb : Below B w w1) : AnsW F lb q B w1 := fun w' hw => h w' (hb.trans hw)
/-- A closure that tells a need's ends. -/
def EndsW (F : Nat) (lb : Array Value) (f g : Ne → Nd) : Prop :=
  ∀ w' (d : Ne), Calls Tryz.prog F (#[neV d] ++ lb) w' fun e w'' => e = .returned (.tuple #[.agg #[.string (mkB (f d).1), .string (mkB (f d).2)], .agg #[.string (mkB (g d).1), .string (mkB (g d).2)]]) ∧ Below w'.heap.size w' w''
end Go.Proofs.YtdefphacdcbljaaGreat
