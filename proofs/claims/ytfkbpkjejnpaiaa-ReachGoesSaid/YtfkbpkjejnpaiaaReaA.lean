/- A set of numbers: a map whose keys they are: put, has, setOf, lacks. -/
import Derived.Test.YtfkbpkjejnpaiaaEdgH
import Derived.Test.YtfkbpkjejnpaiaaReaM
import Derived.Maps.OwnIn
namespace Go.Proofs.Ytfkbpkjejnpaiaa
open Go.RowKit Go.Maps
set_option linter.unusedVariables false
set_option maxRecDepth 100000

theorem grown_step {a b c : World} {row : Option Nat} (h : a.grownBy b row) (k : b.grownBy c row) : a.grownBy c row :=
  ⟨k.os.trans h.os, k.tape.trans h.tape, k.output.trans h.output, Nat.le_trans h.size k.size, fun i hi hn => (k.block i (Nat.lt_of_lt_of_le hi h.size) hn).trans (h.block i hi hn)⟩
theorem grown_below {a b : World} {row : Option Nat} (h : Below a.heap.size a b) : a.grownBy b row := ⟨h.os, h.tape, h.output, h.size, fun k hk _ => h.block k hk⟩
theorem ZMap.grown {w w' : World} {b nn : Nat} {S : List Int} {row : Option Nat} (h : ZMap w b nn S) (hg : w.grownBy w' row) (hr : row ≠ some b) : ZMap w' b nn S := by
  have hlt := h.lt
  obtain ⟨hf, D, ⟨es, clock, he, rest⟩, hD⟩ := h
  exact ⟨hf, D, ⟨es, clock, (hg.block b hlt fun e => hr e.symm).trans he, rest⟩, hD⟩
theorem ZMap.mono {w : World} {b nn mm : Nat} {S : List Int} (h : ZMap w b nn S) (hn : nn ≤ mm) : ZMap w b mm S := by
  obtain ⟨hf, D, ho, hD⟩ := h
  exact ⟨hf, D, ho.mono hn, hD⟩
/-- The set of some, as they are told. -/
def setI (l : List Int) : List Int := l.foldl addI []
theorem setI_snoc (l : List Int) (z : Int) : setI (l ++ [z]) = addI (setI l) z := by unfold setI; rw [List.foldl_append]; rfl
theorem foldl_mem (l : List Int) : ∀ (m : List Int) (z : Int), z ∈ l.foldl addI m ↔ z ∈ m ∨ z ∈ l := by
  induction l with
  | nil => intro m z; simp
  | cons x l ih => intro m z; rw [List.foldl_cons, ih, addI_mem, List.mem_cons, or_assoc]
theorem setI_mem {l : List Int} {z : Int} : z ∈ setI l ↔ z ∈ l := by unfold setI; rw [foldl_mem]; simp
theorem int_take {l : List Int} {k : Nat} (h : k < l.length) : l.take (k + 1) = l.take k ++ [l.getD k 0] := by rw [List.take_succ_eq_append_getElem h]; simp [List.getD_eq_getElem?_getD, List.getElem?_eq_getElem h]
theorem int_mem {l : List Int} {k : Nat} (h : k < l.length) : l.getD k 0 ∈ l := by simp [List.getD_eq_getElem?_getD, List.getElem?_eq_getElem h]

theorem minus_snoc (l S : List Int) (z : Int) : minusI (l ++ [z]) S = minusI l S ++ (if hasB S z then [] else [z]) := by
  unfold minusI; rw [List.filter_append]; congr 1; cases h : hasB S z <;> simp [h]
theorem make_set (n : Int) (w : World) : (Instr.makeMap 56 (some (.int .i64 n))).run Try.prog w = .ok (.map (some w.heap.size)) (w.alloc (.map #[] 0)) := by
  simp [Instr.makeMap, run_underlying Try.underlying56, asInt, asIntOf, Result.andThen]
section
variable {wr : World} {ops : Array Oper} {rest : List Oper} {o : Oper} {a : Act} {Q : Exit → Act → World → Prop}
/-- 's[z] = struct{}{}'. -/
theorem wpList_put_set (hgd : o.guard = none) (m x y : Operand) (ho : o.op = .mapUpdate 56 m x y) {b n : Nat} {S : List Int} (hm : a.eval m = .map (some b)) (h : ZMap wr b n S) {z : Int} (hz : fitI z) (hx : a.eval x = .int .i64 z) (hy : a.eval y = .agg #[]) (hn : n ≤ 3000000)
    (hK : ∀ w', ZMap w' b (n + 1) (addI S z) → wr.grownBy w' (some b) → wpList Try.prog ops Q rest (a.put o.dst undef) w') : wpList Try.prog ops Q (o :: rest) a wr := by
  obtain ⟨hnd, D, hown, hs, hD⟩ := h
  refine wpList_mapUpdate_own _ hgd m x y 56 ho 3 78 int_key Try.underlying56 unitElem b n D hm hown (by unfold maxLen; omega) _ _ (.int .i64 z) hx hy (keyz hz) (.agg []) [] unitElem_mk ?_
  intro w1 hown1 hgrow1
  exact hK w1 (zmap_put hnd (hown.tidy int_key) hs hD hz hown1) hgrow1
/-- 'delete(s, z)'. -/
theorem wpList_del_set (hgd : o.guard = none) (m x : Operand) (ho : o.op = .call { callee := .builtin .delete, args := #[m, x], argTypes := #[56, 3] }) {b n : Nat} {S : List Int} (hm : a.eval m = .map (some b)) (h : ZMap wr b n S) {z : Int} (hz : fitI z) (hx : a.eval x = .int .i64 z)
    (hK : ∀ w', ZMap w' b n (S.erase z) → wr.grownBy w' (some b) → wpList Try.prog ops Q rest (a.put o.dst (.tuple #[])) w') : wpList Try.prog ops Q (o :: rest) a wr := by
  obtain ⟨hnd, D, hown, hs, hD⟩ := h
  refine wpList_delete_own _ hgd m x 56 3 ho 78 int_key Try.underlying56 unitElem b n D hm hown _ (.int .i64 z) hx (keyz hz) ?_
  intro w1 hown1 hturn1
  exact hK w1 (zmap_del hnd (hown.tidy int_key) hs hD hz hown1) hturn1.grown
/-- '_, in := s[z]'. -/
theorem wpList_has_set (hgd : o.guard = none) (m x : Operand) (ho : o.op = .lookup 56 m x true) {b n : Nat} {S : List Int} (hm : a.eval m = .map (some b)) (h : ZMap wr b n S) {z : Int} (hz : fitI z) (hx : a.eval x = .int .i64 z)
    (hK : wpList Try.prog ops Q rest (a.put o.dst (.tuple #[.agg #[], .bool (hasB S z)])) wr) : wpList Try.prog ops Q (o :: rest) a wr := by
  obtain ⟨hnd, D, hown, hs, hD⟩ := h
  refine wpList_lookup_own_unit _ hgd m x 56 ho 3 78 int_key Try.underlying56 (Try.zeroValue78 _) b n D hm hown _ (.int .i64 z) hx (keyz hz) ?_
  rw [hD z hz]
  exact hK
end

set_option maxHeartbeats 400000 in
theorem put_any (b nn : Nat) (S : List Int) (z : Int) (w : World) (h : ZMap w b nn S) (hz : fitI z) (hn : nn ≤ 3000000) :
    Calls Try.prog 49 #[.map (some b), .int .i64 z] w fun e w' => e = .returned (.tuple #[]) ∧ ZMap w' b (nn + 1) (addI S z) ∧ w.grownBy w' (some b) := by
  have H := Lib.hid h
  clear h
  go_enter Try.func49, Try.ntmps49
  go_wp2_with (at_mapUpdate; refine wpList_put_set rfl _ _ _ rfl rfl H.out hz rfl rfl hn ?_; intro w1 h1 hg1; have H1 := Lib.hid h1; have G1 := Lib.hid hg1; clear h1 hg1)
  go_end0
  exact ⟨rfl, H1.out, G1.out⟩
set_option maxHeartbeats 400000 in
theorem has_any (b nn : Nat) (S : List Int) (z : Int) (w : World) (h : ZMap w b nn S) (hz : fitI z) :
    Calls Try.prog 43 #[.map (some b), .int .i64 z] w fun e w' => e = .returned (.bool (hasB S z)) ∧ Below w.heap.size w w' := by
  have H := Lib.hid h
  clear h
  go_enter Try.func43, Try.ntmps43
  go_wp2_with (at_lookup; refine wpList_has_set rfl _ _ rfl rfl H.out hz rfl ?_)
  go_ret
  exact ⟨rfl, (Below.refl _ _).alloc (Nat.le_refl _) _⟩

set_option maxHeartbeats 1600000 in
theorem setof_any (V : Value) (zs : List Int) (w : World) (h : Ints w V zs) (hl : zs.length ≤ 1000000) (hf : ∀ z ∈ zs, fitI z) :
    Calls Try.prog 30 #[V] w fun e w' => ∃ b, e = .returned (.map (some b)) ∧ w.heap.size ≤ b ∧ ZMap w' b zs.length (setI zs) ∧ Below w.heap.size w w' := by
  obtain ⟨a, c, rfl, -⟩ := h.ex
  obtain ⟨n, hn⟩ : ∃ n, zs.length = n := ⟨_, rfl⟩
  rw [hn] at h hl ⊢
  have hmm := make_set
  have ST := Lib.hid h; have HN := Lib.hid hn; have HF := Lib.hid hf
  clear h hn hf
  go_enter Try.func30, Try.ntmps30
  go_wp2
  obtain ⟨W, hW⟩ : ∃ W, w.alloc (.map #[] 0) = W := ⟨_, rfl⟩
  have M0 := Lib.hid (ZMap.made w)
  have B0 := Lib.hid ((Below.refl w.heap.size w).alloc (Nat.le_refl _) (.map #[] 0))
  rw [hW] at M0 B0 ⊢
  obtain ⟨g, hg⟩ : ∃ g, w.heap.size = g := ⟨_, rfl⟩
  have HG := Lib.hid hg
  rw [hg] at M0 B0 ⊢
  clear hW hg hmm
  go_loopw [11] (fun i wr => ∃ k : Nat, k ≤ n ∧ i = .int .i64 k ∧ Hid (ZMap wr g k (setI (zs.take k))) ∧ Hid (Below g w wr)) (fun i _ => n - (intOf i).toNat)
  case atStart => exact ⟨0, Nat.zero_le _, rfl, M0, B0⟩
  case round =>
    obtain ⟨k, hk, rfl, HM, HB⟩ := hrel
    by_cases hlt : k < n
    · have hkl : k < zs.length := by rw [HN.out]; exact hlt
      obtain ⟨b, off, rfl⟩ := ST.out.some (by omega)
      have hcell := (ST.out.belowB (by rw [HG.out]; exact HB.out)).cell k hlt
      have hs : setI (zs.take (k + 1)) = addI (setI (zs.take k)) (zs.getD k 0) := by rw [int_take hkl, setI_snoc]
      have hfit := HF.out _ (int_mem hkl)
      obtain ⟨y, hy⟩ : ∃ y, y = zs.getD k 0 := ⟨_, rfl⟩
      rw [← hy] at hcell hs hfit
      have HS := Lib.hid hs; have HFIT := Lib.hid hfit
      clear hy hs hfit
      have hkb : (k : Int) < (n : Int) := by omega
      go_wp2_with (go_at_call 49; refine (put_any g k _ y wr HM.out HFIT.out (by omega)).mono ?_; rintro e w3 ⟨rfl, hm3, hg3⟩; have HM3 := Lib.hid hm3; have HB3 := Lib.hid (HB.out.grown hg3 (by have := HB.out.size; rw [HG.out] at this; exact this) (fun j e => by cases e; exact Nat.le_refl _)); clear hm3 hg3)
      go_roundw
      case rel => exact ⟨k + 1, by omega, by go_num, Lib.hid (by rw [HS.out]; exact HM3.out), HB3⟩
      case measure => simp [intOf]; omega
    · have e : k = n := by omega
      subst e
      have hM := HM.out
      rw [List.take_of_length_le (by rw [HN.out]; exact Nat.le_refl _)] at hM
      replace HM := Lib.hid hM
      clear hM
      go_wp2
      go_ret
      exact ⟨g, rfl, by rw [HG.out]; exact Nat.le_refl _, HM.out, by rw [HG.out]; exact HB.out⟩

set_option maxHeartbeats 1600000 in
theorem lacks_any (b nn : Nat) (S : List Int) (V : Value) (zs : List Int) (w : World) (hm : ZMap w b nn S) (h : Ints w V zs) (hl : zs.length ≤ 1000000) (hf : ∀ z ∈ zs, fitI z) :
    Calls Try.prog 44 #[.map (some b), V] w fun e w' => ∃ v, e = .returned v ∧ w'.ownsRow w.heap.size 3 1 v (minusI zs S).length (intZ (minusI zs S)) ∧ Below w.heap.size w w' := by
  obtain ⟨a, c, rfl, -⟩ := h.ex
  obtain ⟨n, hn⟩ : ∃ n, zs.length = n := ⟨_, rfl⟩
  rw [hn] at h hl ⊢
  obtain ⟨M, hM⟩ : ∃ M, minusI zs S = M := ⟨_, rfl⟩
  rw [hM]
  have ST := Lib.hid h; have HN := Lib.hid hn; have HF := Lib.hid hf; have HZ := Lib.hid hm; have HMS := Lib.hid hM
  clear h hn hf hm hM
  go_enter Try.func44, Try.ntmps44
  go_wp2
  go_loopw [5, 10] (fun v i wr => ∃ (k : Nat) (acc : List Int), k ≤ n ∧ i = .int .i64 k ∧ acc.length ≤ k ∧ Hid (acc = minusI (zs.take k) S) ∧ Hid (wr.ownsRow w.heap.size 3 1 v acc.length (intZ acc)) ∧ Hid (Below w.heap.size w wr)) (fun _ i _ => n - (intOf i).toNat)
  case atStart => exact ⟨0, [], Nat.zero_le _, rfl, Nat.le_refl _, Lib.hid rfl, Lib.hid (World.ownsRow_nil _ _ _ _), Lib.hid (Below.refl _ _)⟩
  case round =>
    obtain ⟨k, acc, hk, rfl, hac, HA, HO, HB⟩ := hrel
    by_cases hlt : k < n
    · have hkl : k < zs.length := by rw [HN.out]; exact hlt
      obtain ⟨b0, off, rfl⟩ := ST.out.some (by omega)
      have hcell := (ST.out.belowB HB.out).cell k hlt
      have hfit := HF.out _ (int_mem hkl)
      have hs : minusI (zs.take (k + 1)) S = minusI (zs.take k) S ++ (if hasB S (zs.getD k 0) then [] else [zs.getD k 0]) := by
        rw [int_take hkl, minus_snoc]
      obtain ⟨y, hy⟩ : ∃ y, y = zs.getD k 0 := ⟨_, rfl⟩
      rw [← hy] at hcell hs hfit
      have hhas := fun w h => has_any b nn S y w h hfit
      obtain ⟨o, ho⟩ : ∃ o, hasB S y = o := ⟨_, rfl⟩
      rw [ho] at hs hhas
      rw [← HA.out] at hs
      have HS := Lib.hid hs
      clear hy hs hfit ho
      have hkb : (k : Int) < (n : Int) := by omega
      cases o
      · go_wp2_with (first
          | (go_at_call 43; refine (hhas _ (HZ.out.below HB.out)).mono ?_; rintro e w3 ⟨rfl, hb3⟩; have HO3 := Lib.hid (ownsRow_belowB HO.out hb3); have HB3 := Lib.hid (below_step HB.out hb3); clear hb3 hhas)
          | (at_builtin; refine wpList_append_new rfl _ _ 23 rfl w.heap.size 3 (.int .i64 0) 1 8 Try.underlying23 Try.info_int rfl (by decide) _ acc.length _ rfl HO3.out [.int .i64 y] rfl rfl rfl (by omega) (by unfold maxLen; omega) HB3.out.size ?_; intro v4 w4 hown4 hb4; have HO4 := Lib.hid hown4; have HB4 := Lib.hid (HB3.out.trans hb4.toBelow); clear hown4 hb4))
        go_roundw
        case rel => exact ⟨k + 1, acc ++ [y], by omega, by go_num, by simp; omega, Lib.hid (by rw [HS.out]; rfl), Lib.hid (by rw [intZ_snoc]; simpa using HO4.out), HB4⟩
        case measure => simp [intOf]; omega
      · go_wp2_with (go_at_call 43; refine (hhas _ (HZ.out.below HB.out)).mono ?_; rintro e w3 ⟨rfl, hb3⟩; have HO3 := Lib.hid (ownsRow_belowB HO.out hb3); have HB3 := Lib.hid (below_step HB.out hb3); clear hb3 hhas)
        go_roundw
        case rel => exact ⟨k + 1, acc, by omega, by go_num, by omega, Lib.hid (by rw [HS.out]; simp), HO3, HB3⟩
        case measure => simp [intOf]; omega
    · go_wp2
      go_ret
      have e : k = n := by omega
      subst e
      have h4 := HA.out
      rw [List.take_of_length_le (by rw [HN.out]; exact Nat.le_refl _), HMS.out] at h4
      have h5 := HO.out
      rw [h4] at h5
      exact ⟨_, rfl, h5, HB.out⟩
end Go.Proofs.Ytfkbpkjejnpaiaa
