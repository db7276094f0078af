/- THE TEXTS OF LakD WhyQ WhyR: A copy of needs; needs without those that are not wanted, in place. May needs be; the closures that tell a need's ends. Needs gone through once, so that they may be asked at each node. -/
import Derived.Test.YtdefphacdcbljaaGreatLakB
import Derived.Laws.MakeOwn
import Derived.Laws.CopyRow
import Derived.Laws.CopyOwn
import Derived.Test.YtdefphacdcbljaaGreatWhyP
import Derived.Laws.Rows
namespace Go.Proofs.YtdefphacdcbljaaGreat
open Go.RowKit
set_option linter.unusedVariables false
set_option maxRecDepth 100000

set_option maxHeartbeats 800000 in
theorem lclone_any (U : Value) (l : List Ne) (w : World) (hU : Nes w U l) (hl : l.length ≤ 1000000) :
    Calls Tryz.prog 50 #[U] w fun e w' => ∃ v, e = .returned v ∧ w'.ownsRow w.heap.size 49 4 v l.length (neC l) ∧ Below w.heap.size w w' := by
  obtain ⟨a, c, rfl, h1, h2, h3, h4⟩ := hU.ex
  have q : ∀ (w : World) (a : Option Addr) (n c n' c' : Nat), (binOp .eql 22 (.slice a n c) (.slice none n' c')).run Tryz.prog w = .ok (.bool a.isNone) w := fun w a n c n' c' => Lib.run_eql_slice_nil w _ _ a n c n' c' Tryz.underlying22
  cases a with
  | none =>
    have hc : c = 0 := h3 rfl
    subst hc
    have : l = [] := List.eq_nil_of_length_eq_zero (by omega)
    subst this
    go_enter Tryz.func50, Tryz.ntmps50
    go_wp2
    go_ret
    exact ⟨_, rfl, World.ownsRow_nil _ _ _ _, Below.refl _ _⟩
  | some ad =>
    obtain ⟨n, hn⟩ : ∃ n, l.length = n := ⟨_, rfl⟩
    have hcl := neC_len l
    rw [hn] at hU hl hcl ⊢
    have SU := Lib.hid hU
    clear hU h1 h2 h3 h4 hn
    go_enter Tryz.func50, Tryz.ntmps50
    go_wp2_with (at_builtin; refine wpList_append_src rfl _ _ 22 rfl w.heap.size 49 zNeV 4 64 Tryz.underlying22 Tryz.info_ne rfl (by decide) _ 0 [] rfl (World.ownsRow_made w #[] 0 (Nat.le_refl _) (by unfold maxLen; omega) rfl) (some ad) n c (neC l) rfl hcl (fun h => by cases h) (fun ad' e => by cases e; exact (SU.out.below ((Below.refl _ _).alloc (Nat.le_refl _) _)).cells) (neC_one l) (by omega) (by unfold maxLen; omega) (by simp) ?_)
    intro v' w' hown hb
    have hown2 : w'.ownsRow w.heap.size 49 4 v' l.length (neC l) := by
      rw [show l.length = n by have := neC_len l; omega]; first | exact hown | simpa using hown
    have hnl : l.length = n := by have := neC_len l; omega
    rw [hnl] at hown2
    have HN := Lib.hid hown2; have HB := Lib.hid (((Below.refl w.heap.size w).alloc (Nat.le_refl _) _).trans hb.toBelow)
    clear hown hown2 hb hnl hcl
    go_wp2
    go_ret
    exact ⟨_, rfl, HN.out, HB.out⟩

/-! ### One of them written over; those behind cleared -/
theorem neC_take : ∀ (l : List Ne) (i : Nat), neC (l.take i) = (neC l).take (i * 4)
  | [], i => by simp [neC]
  | x :: l, 0 => by simp [neC]
  | x :: l, i + 1 => by
    have e : ∀ (x : Ne) (l : List Ne), neC (x :: l) = .string (mkB x.1.1) :: .string (mkB x.1.2) :: .string (mkB x.2.1) :: .string (mkB x.2.2) :: neC l := fun _ _ => rfl
    rw [List.take_succ_cons, e, e, neC_take l i, show (i + 1) * 4 = i * 4 + 1 + 1 + 1 + 1 by omega, List.take_succ_cons, List.take_succ_cons, List.take_succ_cons, List.take_succ_cons]
theorem neC_set : ∀ (l : List Ne) (i : Nat) (d : Ne), i < l.length → neC (l.set i d) = (neC l).take (i * 4) ++ neC1 d ++ (neC l).drop (i * 4 + 4)
  | [], i, _, h => absurd h (Nat.not_lt_zero i)
  | x :: l, 0, d, _ => rfl
  | x :: l, i + 1, d, h => by
    have e : ∀ (x : Ne) (l : List Ne), neC (x :: l) = .string (mkB x.1.1) :: .string (mkB x.1.2) :: .string (mkB x.2.1) :: .string (mkB x.2.2) :: neC l := fun _ _ => rfl
    rw [List.set_cons_succ, e, e, neC_set l i d (by simpa using h), show (i + 1) * 4 = i * 4 + 1 + 1 + 1 + 1 by omega, List.take_succ_cons, List.take_succ_cons, List.take_succ_cons, List.take_succ_cons, show i * 4 + 1 + 1 + 1 + 1 + 4 = (i * 4 + 4) + 1 + 1 + 1 + 1 by omega, List.drop_succ_cons, List.drop_succ_cons, List.drop_succ_cons, List.drop_succ_cons]
    rfl
theorem mid_take {α : Type} (C vs : List α) (A N : Nat) (h : A + vs.length ≤ N) (hC : N ≤ C.length) : (C.take A ++ vs ++ C.drop (A + vs.length)).take N = (C.take N).take A ++ vs ++ (C.take N).drop (A + vs.length) := by
  have h1 : (C.take A ++ vs).length = A + vs.length := by rw [List.length_append, List.length_take]; omega
  rw [List.take_append, h1, List.take_of_length_le (by rw [h1]; exact h), List.take_take, Nat.min_eq_left (by omega), List.drop_take]
section
variable {w : World} {B g n c : Nat} {L : List Ne}
theorem own_cur (h : w.ownsRow B 49 4 (.slice (some ⟨g, 0, none⟩) n c) n (neC L)) : ∃ cur, w.heap[g]? = some (.cells cur 49 (0, 0)) ∧ B ≤ g ∧ n ≤ c ∧ c ≤ maxLen ∧ cur.size = c * 4 ∧ cur.toList.take (n * 4) = neC L ∧ L.length = n := by
  obtain ⟨h1, h2⟩ := h
  rw [neC_len] at h1
  rcases h2 with ⟨hv, _⟩ | ⟨g', cap, cur, hv, hb, hh, h3, h4, h5, h6⟩
  · cases hv
  · injection hv with e1 e2 e3
    injection e1 with e1
    injection e1 with e1
    subst e1 e3
    exact ⟨cur, hh, hb, h3, h4, h5, h6, by omega⟩
theorem own_of {cur : Array Value} {n' : Nat} {L' : List Ne} (hh : w.heap[g]? = some (.cells cur 49 (0, 0))) (hb : B ≤ g) (h3 : n' ≤ c) (h4 : c ≤ maxLen) (h5 : cur.size = c * 4) (h6 : cur.toList.take (n' * 4) = neC L') (hl : L'.length = n') : w.ownsRow B 49 4 (.slice (some ⟨g, 0, none⟩) n' c) n' (neC L') :=
  ⟨by rw [neC_len, hl], .inr ⟨g, c, cur, rfl, hb, hh, h3, h4, h5, h6⟩⟩
theorem zero_oneNe (k : Nat) : (zNeV.cells[k % zNeV.cells.size]!).oneCell' = true := by
  have h : k % 4 < 4 := Nat.mod_lt _ (by decide)
  show ((#[.string ByteArray.empty, .string ByteArray.empty, .string ByteArray.empty, .string ByteArray.empty] : Array Value)[k % 4]!).oneCell' = true
  obtain ⟨m, hm⟩ : ∃ m, k % 4 = m := ⟨_, rfl⟩
  rw [hm] at h ⊢
  have h2 : m = 0 ∨ m = 1 ∨ m = 2 ∨ m = 3 := by omega
  rcases h2 with rfl | rfl | rfl | rfl <;> rfl
theorem put_ne (h : w.ownsRow B 49 4 (.slice (some ⟨g, 0, none⟩) n c) n (neC L)) {i : Nat} (hi : i < n) (d : Ne) :
    ∃ w', (Instr.storeAt 49 (.pointer (some ⟨g, i * 4, none⟩)) (neV d)).run Tryz.prog w = .ok () w' ∧ w'.ownsRow B 49 4 (.slice (some ⟨g, 0, none⟩) n c) n (neC (L.set i d)) ∧ Below B w w' := by
  obtain ⟨cur, hh, hb, h3, h4, h5, h6, hl⟩ := own_cur h
  obtain ⟨inf, hi1, hz, hsize, hby⟩ := info_parts Tryz.info_ne
  have hcl : cur.toList.length = c * 4 := by rw [Array.length_toList, h5]
  obtain ⟨A, hA⟩ : ∃ A, A = (cur.toList.take (i * 4) ++ neC1 d ++ cur.toList.drop (i * 4 + 4)).toArray := ⟨_, rfl⟩
  have hst : (storeCells ⟨g, i * 4, none⟩ (neC1 d)).run Tryz.prog w = .ok () (w.setRow g A) := by
    have h := run_storeCells_at Tryz.prog g (i * 4) 49 (neC1 d) 0 cur w hh (by simp only [List.length_cons, List.length_nil]; omega) (fun v hv => by
      simp only [List.mem_cons, List.not_mem_nil, or_false] at hv
      rcases hv with rfl | rfl | rfl | rfl <;> rfl)
    rw [Nat.add_zero] at h
    rw [hA]; exact h
  refine ⟨w.setRow g A, ?_, own_of (setRow_heap w g _ _ _ _ hh) hb h3 h4 ?_ ?_ (by rw [List.length_set, hl]), below_setRow (Below.refl _ _) hb _⟩
  · simp only [Instr.storeAt, Instr.sureAddr, Sem.run_bind, Sem.run_pure, Result.andThen_ok]
    simp [storeVar, sizeOf, typeInfo, hi1, hsize, Value.cells, hst]
  · rw [hA]
    simp only [List.size_toArray, List.length_append, List.length_take, List.length_drop, List.length_cons, List.length_nil, hcl]
    omega
  · have e : (neC1 d).length = 4 := rfl
    have hm := mid_take cur.toList (neC1 d) (i * 4) (n * 4) (by rw [e]; omega) (by rw [hcl]; omega)
    rw [e, h6] at hm
    rw [hA, List.toList_toArray, hm, neC_set L i d (by omega)]
theorem clear_ne (h : w.ownsRow B 49 4 (.slice (some ⟨g, 0, none⟩) n c) n (neC L)) {i : Nat} (hi : i ≤ n) :
    ∃ A m k w', (∀ w, (Instr.sliceAt 22 (.slice (some ⟨g, 0, none⟩) n c) (some (.int .i64 (i : Int))) none none).run Tryz.prog w = .ok (.slice A m k) w) ∧ (∀ ty, (Builtin.clear_ #[22] ty #[.slice A m k]).run Tryz.prog w = .ok (.tuple #[]) w') ∧
      w'.ownsRow B 49 4 (.slice (some ⟨g, 0, none⟩) i c) i (neC (L.take i)) ∧ Below B w w' := by
  obtain ⟨cur, hh, hb, h3, h4, h5, h6, hl⟩ := own_cur h
  have hcl : cur.toList.length = c * 4 := by rw [Array.length_toList, h5]
  have hz : ∀ w, (zeroValue 49).run Tryz.prog w = .ok zNeV w := fun w => Tryz.zeroValue49 w
  have hsl : ∀ w, (Instr.sliceAt 22 (.slice (some ⟨g, 0, none⟩) n c) (some (.int .i64 (i : Int))) none none).run Tryz.prog w = .ok (sliced (some ⟨g, 0, none⟩) i n c 4) w := by
    intro w
    have h1 : (0 : Int) ≤ (i : Int) := by omega
    have h2 : (i : Int) ≤ (n : Int) := by omega
    have h3 : (n : Int) ≤ (c : Int) := by omega
    go_simp
  by_cases hin : i = n
  · subst hin
    obtain ⟨A, hA⟩ : ∃ A, sliced (some ⟨g, 0, none⟩) i i c 4 = .slice A 0 (c - i) := ⟨_, by unfold sliced; rw [Nat.sub_self]⟩
    rw [hA] at hsl
    refine ⟨A, 0, c - i, w, hsl, fun ty => ?_, ?_, Below.refl _ _⟩
    · cases A <;> simp [Builtin.clear_, run_underlying Tryz.underlying22, Result.andThen]
    · rw [List.take_of_length_le (by rw [hl]; exact Nat.le_refl _)]; exact h
  · have hci : ¬ c = i := by omega
    unfold sliced at hsl
    rw [if_neg hci] at hsl
    obtain ⟨Z, hZ⟩ : ∃ Z, Z = (Builtin.zeroCells zNeV.cells (n - i)).toList := ⟨_, rfl⟩
    have hzl : Z.length = (n - i) * 4 := by rw [hZ, Array.length_toList, size_zeroCells]; rfl
    have hz1 : ∀ v ∈ Z, v.oneCell' = true := by
      intro v hv
      rw [hZ, Array.mem_toList_iff] at hv
      obtain ⟨q, hq, rfl⟩ := Array.getElem_of_mem hv
      simp only [Builtin.zeroCells, Array.getElem_map, Array.getElem_range]
      exact zero_oneNe _
    obtain ⟨X, hX⟩ : ∃ X, X = (cur.toList.take (i * 4) ++ Z ++ cur.toList.drop (i * 4 + Z.length)).toArray := ⟨_, rfl⟩
    have hst : (storeCells ⟨g, i * 4, none⟩ Z).run Tryz.prog w = .ok () (w.setRow g X) := by
      have h := run_storeCells_at Tryz.prog g (i * 4) 49 Z 0 cur w hh (by rw [hzl]; omega) hz1
      rw [Nat.add_zero] at h
      rw [hX]; exact h
    refine ⟨_, _, _, w.setRow g X, hsl, fun ty => ?_, own_of (setRow_heap w g _ _ _ _ hh) hb (by omega) h4 ?_ ?_ (by rw [List.length_take]; omega), below_setRow (Below.refl _ _) hb _⟩
    · obtain ⟨m, hmm⟩ : ∃ m, n - i = m + 1 := ⟨n - i - 1, by omega⟩
      rw [hmm] at hZ ⊢
      simp only [Option.map_some, addr_add, Nat.zero_add]
      simp [Builtin.clear_, run_underlying Tryz.underlying22, hz, Result.andThen, ← hZ, hst]
    · rw [hX]
      simp only [List.size_toArray, List.length_append, List.length_take, List.length_drop, hzl, hcl]
      omega
    · rw [hX, List.toList_toArray, List.append_assoc, List.take_append_of_le_length (by rw [List.length_take]; omega), List.take_take, Nat.min_self, neC_take, ← h6, List.take_take, Nat.min_eq_left (by omega)]
theorem ne_front (w : World) (A : Option Addr) (n c i : Nat) (h : i ≤ c) : (Instr.sliceAt 22 (.slice A n c) none (some (.int .i64 i)) none).run Tryz.prog w = .ok (sliced A 0 i c 4) w := by
  have h1 : (0 : Int) ≤ (i : Int) := by omega
  have h2 : (i : Int) ≤ (c : Int) := by omega
  go_simp
end
section
variable {ops : Array Oper} {rest : List Oper} {o : Oper} {a : Act} {w : World} {Q : Exit → Act → World → Prop}
theorem wpList_store_ne (hgd : o.guard = none) (x y : Operand) (ho : o.op = .store 49 x y) {B g n c i I : Nat} {L : List Ne} (d : Ne) (hx : a.eval x = .pointer (some ⟨g, I, none⟩)) (hI : I = i * 4) (hy : a.eval y = neV d)
    (hown : w.ownsRow B 49 4 (.slice (some ⟨g, 0, none⟩) n c) n (neC L)) (hi : i < n)
    (hK : ∀ w', w'.ownsRow B 49 4 (.slice (some ⟨g, 0, none⟩) n c) n (neC (L.set i d)) → Below B w w' → wpList Tryz.prog ops Q rest (a.put o.dst undef) w') : wpList Tryz.prog ops Q (o :: rest) a w := by
  subst hI
  obtain ⟨w', hr, h1, h2⟩ := put_ne hown hi d
  refine wpList_plain hgd fun K' hK' => ?_
  unfold Oper.wp
  simp only [execOp, ho, hx, hy, hr, Sem.run_bind, Sem.run_pure, Result.andThen_ok]
  exact hK' _ _ (hK w' h1 h2)
end

/-! ### What is kept so far -/
structure KeepK (p : Ne → Bool) (l : List Ne) (i j : Nat) (L : List Ne) : Prop where
  len : L.length = l.length
  lt : i < j
  done : L.take i = (l.take j).filter fun d => !p d
  rest : L.drop j = l.drop j
theorem KeepK.start {p : Ne → Bool} {l : List Ne} {k : Nat} (hk : k < l.length) (hp : p (l.getD k zNe) = true) (ha : ∀ d ∈ l.take k, p d = false) : KeepK p l k (k + 1) l := by
  refine ⟨rfl, Nat.lt_succ_self _, ?_, rfl⟩
  rw [ne_take hk, List.filter_append, List.filter_eq_self.2 (fun d hd => by rw [ha d hd]; rfl), List.filter_cons, hp]
  simp
theorem KeepK.at {p : Ne → Bool} {l L : List Ne} {i j : Nat} (h : KeepK p l i j L) (hj : j < l.length) : L.getD j zNe = l.getD j zNe := by
  have e := congrArg List.head? h.rest
  rw [List.head?_drop, List.head?_drop] at e
  rw [List.getD_eq_getElem?_getD, List.getD_eq_getElem?_getD, e]
theorem KeepK.skip {p : Ne → Bool} {l L : List Ne} {i j : Nat} (h : KeepK p l i j L) (hj : j < l.length) (hp : p (l.getD j zNe) = true) : KeepK p l i (j + 1) L := by
  refine ⟨h.len, by have := h.lt; omega, ?_, ?_⟩
  · rw [h.done, ne_take hj, List.filter_append, List.filter_cons, hp]; simp
  · rw [← List.drop_drop, h.rest, List.drop_drop]
theorem KeepK.keep {p : Ne → Bool} {l L : List Ne} {i j : Nat} (h : KeepK p l i j L) (hj : j < l.length) (hp : p (l.getD j zNe) = false) : KeepK p l (i + 1) (j + 1) (L.set i (l.getD j zNe)) := by
  have hlt := h.lt
  have hl := h.len
  refine ⟨by rw [List.length_set, hl], by omega, ?_, ?_⟩
  · rw [List.take_succ_eq_append_getElem (by rw [List.length_set]; omega), List.getElem_set_self, List.take_set_of_le (Nat.le_refl _), h.done, ne_take hj, List.filter_append, List.filter_cons, hp]; simp
  · rw [List.drop_set_of_lt (by omega), ← List.drop_drop, h.rest, List.drop_drop]
theorem KeepK.all {p : Ne → Bool} {l L : List Ne} {i : Nat} (h : KeepK p l i l.length L) : L.take i = l.filter fun d => !p d := by rw [h.done, List.take_length]

set_option maxHeartbeats 3200000 in
theorem ldel_any (F : Nat) (lb : Array Value) (eg : ∀ args w, (callFunc F args).run Tryz.prog w = .ok (.enter F args) w) (p : Ne → Bool) (V : Value) (l : List Ne) (w : World) (B : Nat) (hB : B ≤ w.heap.size) (hown : w.ownsRow B 49 4 V l.length (neC l)) (hp : AsksK F lb p B w l) (hl : l.length ≤ 1000000) :
    Calls Tryz.prog 49 #[V, .func (.func F) #[] lb] w fun e w' => ∃ a c, e = .returned (.slice a (l.filter fun d => !p d).length c) ∧ Nes w' (.slice a (l.filter fun d => !p d).length c) (l.filter fun d => !p d) ∧ Below B w w' := by
  have K := lindex_any F lb eg p V l w B hB (Nes.owned hown) hp
  rcases fixK_spec p l 0 with ⟨e1, hall⟩ | ⟨k, hk, e1, hpk, hall⟩
  · rw [e1] at K
    have e2 : (l.filter fun d => !p d) = l := List.filter_eq_self.2 fun d hd => by rw [hall d hd]; rfl
    rw [e2]
    obtain ⟨a, c, rfl, hnes⟩ := nesO hown
    obtain ⟨n, hn⟩ : ∃ n, l.length = n := ⟨_, rfl⟩
    rw [hn] at hnes K ⊢
    have SN := Lib.hid hnes; have HB := Lib.hid hB; have KK := Lib.hid K
    clear hnes hown hp e1 e2 hall hl hB hn K
    go_enter Tryz.func49, Tryz.ntmps49
    go_wp2_with (go_at_call 66; refine KK.out.mono ?_; rintro e w1 ⟨rfl, hb1⟩; have B1 := Lib.hid hb1; clear hb1)
    go_ret
    exact ⟨a, c, rfl, SN.out.below B1.out, B1.out.mono HB.out⟩
  · rw [e1, Nat.zero_add] at K
    rcases hown with ⟨hx, ⟨rfl, h0⟩ | ⟨g, c, cur, rfl, hbg, hh, h3, h4, h5, h6⟩⟩
    · exact absurd hk (by omega)
    · have ho : w.ownsRow B 49 4 (.slice (some ⟨g, 0, none⟩) l.length c) l.length (neC l) := own_of hh hbg h3 h4 h5 h6 rfl
      have KI := Lib.hid (KeepK.start hk hpk hall)
      obtain ⟨R, hR⟩ : ∃ R, (l.filter fun d => !p d) = R := ⟨_, rfl⟩
      rw [hR]
      obtain ⟨n, hn⟩ : ∃ n, l.length = n := ⟨_, rfl⟩
      rw [hn] at ho hk K hl ⊢
      have HO := Lib.hid ho; have HN := Lib.hid hn; have HP := Lib.hid hp; have HR := Lib.hid hR; have HBB := Lib.hid hB; have KK := Lib.hid K
      unfold maxLen at h4
      rw [hn] at h3
      clear ho hn hp hR hx hbg hh h5 h6 e1 hpk hall cur hB K
      have hne1 : ((k : Int) == -1) = false := beq_eq_false_iff_ne.2 (by omega)
      go_enter Tryz.func49, Tryz.ntmps49
      go_wp2_with (go_at_call 66; refine KK.out.mono ?_; rintro e w1 ⟨rfl, hb1⟩; have HO1 := Lib.hid (ownsRow_belowB HO.out hb1); have B1 := Lib.hid (hb1.mono HBB.out); clear hb1)
      go_loopw [5, 6] (fun si sj wr => ∃ (i j : Nat) (L : List Ne), si = .int .i64 i ∧ sj = .int .i64 j ∧ i < j ∧ j ≤ n ∧ Hid (KeepK p l i j L) ∧ Hid (wr.ownsRow B 49 4 (.slice (some ⟨g, 0, none⟩) n c) n (neC L)) ∧ Hid (Below B w wr)) (fun _ sj _ => n - (intOf sj).toNat)
      case atStart => exact ⟨k, k + 1, l, rfl, by go_num, by omega, by omega, KI, HO1, B1⟩
      case round =>
        obtain ⟨i, j, L, rfl, rfl, hij, hjn, HK, HOW, HB⟩ := hrel
        by_cases hlt : j < n
        · have hjl : j < l.length := by rw [HN.out]; exact hlt
          have hLj : j < L.length := by rw [HK.out.len, HN.out]; exact hlt
          obtain ⟨b, off, hab, -, hc0, hc1, hc2, hc3⟩ := ((by have h := Nes.owned (es := L) (v := .slice (some ⟨g, 0, none⟩) n c) (by rw [HK.out.len, HN.out]; exact HOW.out); exact h) : Nes wr (.slice (some ⟨g, 0, none⟩) n c) L).at j hLj
          injection hab with hab
          injection hab with e1 e2
          subst e1 e2
          rw [HK.out.at hjl] at hc0 hc1 hc2 hc3
          rw [Nat.zero_add] at hc0 hc1 hc2 hc3
          have hsk := HK.out.skip hjl
          have hke := HK.out.keep hjl
          have hcall := fun w1 (hb : Below B w w1) => HP.out w1 hb _ (ne_mem hjl)
          obtain ⟨y, hy⟩ : ∃ y, y = l.getD j zNe := ⟨_, rfl⟩
          rw [← hy] at hc0 hc1 hc2 hc3 hsk hke hcall
          obtain ⟨⟨y1, y2⟩, y3, y4⟩ := y
          simp only [neV] at hc0 hc1 hc2 hc3 hcall
          obtain ⟨I, hI⟩ : ∃ I, p ((y1, y2), y3, y4) = I := ⟨_, rfl⟩
          rw [hI] at hsk hke hcall
          have HC := Lib.hid hcall; have HSK := Lib.hid hsk; have HKE := Lib.hid hke
          clear hy hI hsk hke hcall
          have hjb : (j : Int) < (n : Int) := by omega
          have hib : (i : Int) < (n : Int) := by omega
          have hix := fun w => idx_ne (w := w) (b := g) (off := 0) (n := n) (c := c) (k := i) (by omega)
          have hjx := fun w => idx_ne (w := w) (b := g) (off := 0) (n := n) (c := c) (k := j) (by omega)
          simp only [Nat.zero_add] at hix hjx
          have hBw : B ≤ wr.heap.size := Nat.le_trans HBB.out HB.out.size
          go_upto_region 8 with fail
          obtain ⟨X, q, hX, hq, d0, d1, d2, d3, hxb⟩ := boxNe wr (.string (mkB y1)) (.string (mkB y2)) (.string (mkB y3)) (.string (mkB y4)) 49
          rw [hX, hq]
          have HOX := Lib.hid (ownsRow_belowB HOW.out hxb); have BX := Lib.hid (HB.out.trans (hxb.mono hBw)); have hBX : B ≤ X.heap.size := Nat.le_trans hBw hxb.size
          have HCX := Lib.hid (HC.out X BX.out)
          clear hX hq hxb hc0 hc1 hc2 hc3
          cases I
          · go_upto_region 9 with (go_at_fn F; refine HCX.out.mono ?_; rintro e w2 ⟨rfl, hb1⟩; have HO2 := Lib.hid (ownsRow_belowB HOX.out hb1); have B2 := Lib.hid (BX.out.trans (hb1.mono hBX)); replace d0 := cell_keep d0 hb1; replace d1 := cell_keep d1 hb1; replace d2 := cell_keep d2 hb1; replace d3 := cell_keep d3 hb1; clear hb1 HCX)
            go_wp2_with (with_reducible refine wpList_store_ne (o := ⟨none, _, _, _, _, _⟩) rfl _ _ rfl ((y1, y2), y3, y4) rfl rfl rfl HO2.out (show i < n by omega) ?_; intro w3 hO3 hb3; have HO3 := Lib.hid hO3; have B3 := Lib.hid (B2.out.trans hb3); clear hO3 hb3)
            go_roundw
            case rel => exact ⟨i + 1, j + 1, _, by go_num, by go_num, by omega, by omega, Lib.hid (HKE.out trivial), HO3, B3⟩
            case measure => simp [intOf]; omega
          · go_wp2_with (go_at_fn F; refine HCX.out.mono ?_; rintro e w2 ⟨rfl, hb1⟩; have HO2 := Lib.hid (ownsRow_belowB HOX.out hb1); have B2 := Lib.hid (BX.out.trans (hb1.mono hBX)); clear hb1 HCX)
            go_roundw
            case rel => exact ⟨i, j + 1, _, rfl, by go_num, by omega, by omega, Lib.hid (HSK.out trivial), HO2, B2⟩
            case measure => simp [intOf]; omega
        · have e : j = n := by omega
          subst e
          obtain ⟨A, m, kk, w2, hsl, hcl, ho2, hb2⟩ := clear_ne HOW.out (i := i) (by omega)
          have hall := HK.out
          rw [← HN.out] at hall
          have hal := hall.all
          rw [HR.out] at hal
          rw [hal] at ho2
          have hlen : R.length = i := by rw [← hal, List.length_take, HK.out.len, HN.out]; omega
          have hfr : ∀ w, (Instr.sliceAt 22 (.slice (some ⟨g, 0, none⟩) j c) none (some (.int .i64 (i : Int))) none).run Tryz.prog w = .ok (.slice (some ⟨g, 0, none⟩) i c) w := fun w => by
            rw [ne_front w (some ⟨g, 0, none⟩) j c i (by omega)]
            unfold sliced
            rw [if_neg (by omega)]
            simp [addr_add]
          have HO2 := Lib.hid ho2; have B2 := Lib.hid (HB.out.trans hb2); have HLEN := Lib.hid hlen
          clear ho2 hb2 hall hal hlen
          go_wp2
          go_ret
          rw [HLEN.out]
          exact ⟨_, c, rfl, Nes.owned (by rw [HLEN.out]; exact HO2.out), B2.out⟩

end Go.Proofs.YtdefphacdcbljaaGreat

namespace Go.Proofs.YtdefphacdcbljaaGreat
open Go.RowKit Go.Maps
set_option linter.unusedVariables false
set_option maxRecDepth 100000

set_option maxHeartbeats 1600000 in
theorem lCheck_any (V : Value) (l : List Ne) (w : World) (h : Nes w V l) (hs : ∀ d ∈ l, smallNe d) :
    Calls Tryz.prog 20 #[V] w fun e w' => e = .returned (.int .i64 (chkK l)) ∧ Below w.heap.size w w' := by
  obtain ⟨a, c, rfl, h1, h2, -, -⟩ := h.ex
  unfold maxLen at h2
  obtain ⟨n, hn⟩ : ∃ n, l.length = n := ⟨_, rfl⟩
  rw [hn] at h1 h
  rw [hn]
  obtain ⟨R, hR⟩ : ∃ R, chkK l = R := ⟨_, rfl⟩
  rw [hR]
  have ST := Lib.hid h; have HN := Lib.hid hn; have HS := Lib.hid hs; have HR := Lib.hid hR
  clear h hn hs hR
  go_enter Tryz.func20, Tryz.ntmps20
  go_wp2
  go_loopw [7] (fun i wr => ∃ k : Nat, k ≤ n ∧ i = .int .i64 k ∧ Hid (mayK (l.take k) = true) ∧ Hid (Below w.heap.size w wr)) (fun i _ => n - (intOf i).toNat)
  case atStart => exact ⟨0, Nat.zero_le _, rfl, Lib.hid rfl, Lib.hid (Below.refl _ _)⟩
  case round =>
    obtain ⟨k, hk, rfl, HA, HB⟩ := hrel
    by_cases hlt : k < n
    · have hkl : k < l.length := by rw [HN.out]; exact hlt
      obtain ⟨b, off, rfl, -, hc0, hc1, hc2, hc3⟩ := (ST.out.below HB.out).at k hkl
      have hsy := HS.out _ (ne_mem hkl)
      have hno := fun o => chkK_no (mayK_no hkl o)
      have hye := fun o => mayK_take hkl o HA.out
      obtain ⟨y, hy⟩ : ∃ y, y = l.getD k zNe := ⟨_, rfl⟩
      rw [← hy] at hc0 hc1 hc2 hc3 hsy hno hye
      obtain ⟨⟨y1, y2⟩, y3, y4⟩ := y
      simp only at hc0 hc1 hc2 hc3
      obtain ⟨T, hT⟩ : ∃ T, okN (y3, y4) = T := ⟨_, rfl⟩
      obtain ⟨F, hF⟩ : ∃ F, okN (y1, y2) = F := ⟨_, rfl⟩
      obtain ⟨O, hO⟩ : ∃ O, rootK ((y1, y2), y3, y4) = O := ⟨_, rfl⟩
      have h1m : mayK1 ((y1, y2), y3, y4) = (T && (O || F)) := by unfold mayK1; rw [hT, hO, hF]
      rw [h1m] at hno hye
      have HSY := Lib.hid hsy; have HNO := Lib.hid hno; have HYE := Lib.hid hye; have HT := Lib.hid hT; have HF := Lib.hid hF; have HO := Lib.hid hO
      clear hy hsy hno hye hT hF hO h1m
      have hkb : (k : Int) < (n : Int) := by omega
      go_upto_region 4 with fail
      obtain ⟨X, q, hX, hq, d0, d1, d2, d3, hxb⟩ := boxNe wr (.string (mkB y1)) (.string (mkB y2)) (.string (mkB y3)) (.string (mkB y4)) 49
      rw [hX, hq]
      have B := Lib.hid (below_step HB.out hxb)
      clear hX hq hxb hc0 hc1 hc2 hc3
      cases T
      · have hz := HNO.out rfl
        rw [HR.out] at hz
        subst hz
        go_wp2_with (go_at_call 25; refine (nmay_any _ _ _ HSY.out.2.1 HSY.out.2.2).mono ?_; rintro e w1 ⟨rfl, hb1⟩; rw [HT.out]; replace B := Lib.hid (below_step B.out hb1); clear hb1)
        go_ret
        exact ⟨rfl, B.out⟩
      · cases O
        · cases F
          · have hz := HNO.out rfl
            rw [HR.out] at hz
            subst hz
            go_wp2_with (first
              | (go_at_call 25; refine Calls.mono (nmay_any _ _ _ ?_ ?_) ?_; (first | exact HSY.out.2.1 | exact HSY.out.1.1); (first | exact HSY.out.2.2 | exact HSY.out.1.2); rintro e w1 ⟨rfl, hb1⟩; (first | rw [HT.out] | rw [HF.out]); replace B := Lib.hid (below_step B.out hb1); replace d0 := cell_keep d0 hb1; replace d1 := cell_keep d1 hb1; replace d2 := cell_keep d2 hb1; replace d3 := cell_keep d3 hb1; clear hb1)
              | (go_at_call 38; refine (lroot_any _ _ _ _ _).mono ?_; rintro e w1 ⟨rfl, hb1⟩; rw [HO.out]; replace B := Lib.hid (below_step B.out hb1); replace d0 := cell_keep d0 hb1; replace d1 := cell_keep d1 hb1; replace d2 := cell_keep d2 hb1; replace d3 := cell_keep d3 hb1; clear hb1))
            go_ret
            exact ⟨rfl, B.out⟩
          · have hz := Lib.hid (HYE.out rfl)
            go_wp2_with (first
              | (go_at_call 25; refine Calls.mono (nmay_any _ _ _ ?_ ?_) ?_; (first | exact HSY.out.2.1 | exact HSY.out.1.1); (first | exact HSY.out.2.2 | exact HSY.out.1.2); rintro e w1 ⟨rfl, hb1⟩; (first | rw [HT.out] | rw [HF.out]); replace B := Lib.hid (below_step B.out hb1); replace d0 := cell_keep d0 hb1; replace d1 := cell_keep d1 hb1; replace d2 := cell_keep d2 hb1; replace d3 := cell_keep d3 hb1; clear hb1)
              | (go_at_call 38; refine (lroot_any _ _ _ _ _).mono ?_; rintro e w1 ⟨rfl, hb1⟩; rw [HO.out]; replace B := Lib.hid (below_step B.out hb1); replace d0 := cell_keep d0 hb1; replace d1 := cell_keep d1 hb1; replace d2 := cell_keep d2 hb1; replace d3 := cell_keep d3 hb1; clear hb1))
            go_roundw
            case rel => exact ⟨k + 1, by omega, by go_num, hz, B⟩
            case measure => simp [intOf]; omega
        · have hz := Lib.hid (HYE.out rfl)
          go_wp2_with (first
            | (go_at_call 25; refine (nmay_any _ _ _ HSY.out.2.1 HSY.out.2.2).mono ?_; rintro e w1 ⟨rfl, hb1⟩; rw [HT.out]; replace B := Lib.hid (below_step B.out hb1); replace d0 := cell_keep d0 hb1; replace d1 := cell_keep d1 hb1; replace d2 := cell_keep d2 hb1; replace d3 := cell_keep d3 hb1; clear hb1)
            | (go_at_call 38; refine (lroot_any _ _ _ _ _).mono ?_; rintro e w1 ⟨rfl, hb1⟩; rw [HO.out]; replace B := Lib.hid (below_step B.out hb1); clear hb1))
          go_roundw
          case rel => exact ⟨k + 1, by omega, by go_num, hz, B⟩
          case measure => simp [intOf]; omega
    · go_wp2
      go_ret
      have e : k = n := by omega
      subst e
      have hA := HA.out
      rw [List.take_of_length_le (by rw [HN.out]; exact Nat.le_refl _)] at hA
      exact ⟨by rw [← HR.out, chkK_yes hA]; rfl, HB.out⟩

/-! ### A need's ends -/
section
variable {P : Program}
theorem results_cell2 {fn : Func} {p q : Tmp} {ty : TypeId} (h : fn.results = #[.cell p ty, .cell q ty]) (tmps : Array Value) (w : World) (g g' : Nat) (t t' : TypeId) (cs cs' : Array Value) (fr fr' : Nat × Nat) (d : TypeDesc)
    (hp : tmps.getD p undef = .pointer (some ⟨g, 0, none⟩)) (hq : tmps.getD q undef = .pointer (some ⟨g', 0, none⟩)) (hg : w.heap[g]? = some (.cells cs t fr)) (hg' : w.heap[g']? = some (.cells cs' t' fr'))
    (hu : P.underlying ty = some d) (hd : (match d with | .struct _ | .array _ _ => true | _ => false) = true) (hi : (P.info? ty).map (·.size) = some cs.size) (hi' : (P.info? ty).map (·.size) = some cs'.size) :
    (results fn tmps).run P w = .ok (.tuple #[.agg cs, .agg cs']) w := by
  have hp' : tmps[p]?.getD undef = .pointer (some ⟨g, 0, none⟩) := by simpa using hp
  have hq' : tmps[q]?.getD undef = .pointer (some ⟨g', 0, none⟩) := by simpa using hq
  simp [results, h, hp', hq', asAddr, run_loadVar_row w g t ty cs fr d hg hu hd hi, run_loadVar_row w g' t' ty cs' fr' d hg' hu hd hi']
end
theorem st_nd19 {w : World} {g : Nat} {q1 q2 : List UInt8} {x0 y0 : Value} {t : TypeId} (h : w.heap[g]? = some (.cells #[x0, y0] t (0, 0))) : Sem.run Tryz.prog (Instr.storeAt 24 (.pointer (some ⟨g, 0, none⟩)) (.agg #[.string (mkB q1), .string (mkB q2)])) w = .ok () ((w.setCell ⟨g, 0, none⟩ (.string (mkB q1))).setCell ⟨g, 1, none⟩ (.string (mkB q2))) := by
  obtain ⟨d0, d1, f0, f1⟩ := row2 h
  go_simp
section
variable {ops : Array Oper} {Q : Exit → Act → World → Prop} {a : Act} {w w0 : World} {who : Nat → Nat} {i B r ro : Nat} {o : Oper}
/-- A node is put into a box. -/
theorem rol_box_nd19 (ho : ops[i]? = some o) (hw : Region.wanted o (yielded ops a.tmps) = true) (hd : o.dst = none) {x y : Operand} {g : Nat} (hop : o.op = .store 24 x y) (hx : a.eval x = .pointer (some ⟨g, 0, none⟩)) {q1 q2 : List UInt8} (hy : a.eval y = .agg #[.string (mkB q1), .string (mkB q2)])
    {x0 y0 : Value} {ty : TypeId} (hg : (RLeaf.box g (.cells #[x0, y0] ty)).holds r a w who) (hb : Below B w0 w) (hB : B ≤ g) : wpOp Tryz.prog ops Q i (RPost ops i r r (.box g (.cells #[.string (mkB q1), .string (mkB q2)] ty)) B w0 a w who) a w := by
  refine rol_store ho hw hd (ex_store hop hx hy (st_nd19 hg.1)) hg (row2_set hg.1 _ _) (fun k hk => ?_) (by simp [World.setCell]) ((hb.setCell hB _).setCell hB _)
  rw [Below.heap_setCell _ ⟨g, 1, none⟩ _ k hk, Below.heap_setCell _ ⟨g, 0, none⟩ _ k hk]
end
theorem boxE19 (w : World) (x y z u : Value) (t s : TypeId) : ∃ W g g2 g3, ((w.alloc (.cells #[x, y, z, u] t)).alloc (.cells zeroN s)).alloc (.cells zeroN s) = W ∧ w.heap.size = g ∧ w.heap.size + 1 = g2 ∧ w.heap.size + 1 + 1 = g3 ∧ W.heap[g]? = some (.cells #[x, y, z, u] t (0, 0)) ∧ W.heap[g2]? = some (.cells zeroN s (0, 0)) ∧ W.heap[g3]? = some (.cells zeroN s (0, 0)) ∧ Below w.heap.size w W := by
  refine ⟨_, _, _, _, rfl, rfl, rfl, rfl, ?_, ?_, ?_, (((Below.refl _ _).alloc (Nat.le_refl _) _).alloc (by simp) _).alloc (by simp; omega) _⟩
  · exact row_keepB (row_keepB (heap_alloc_new w (.cells #[x, y, z, u] t)) ((Below.refl _ _).alloc (Nat.le_refl _) _)) ((Below.refl _ _).alloc (Nat.le_refl _) _)
  · have h := heap_alloc_new (w.alloc (.cells #[x, y, z, u] t)) (.cells zeroN s)
    rw [show (w.alloc (.cells #[x, y, z, u] t)).heap.size = w.heap.size + 1 by simp] at h
    exact row_keepB h ((Below.refl _ _).alloc (Nat.le_refl _) _)
  · have h := heap_alloc_new ((w.alloc (.cells #[x, y, z, u] t)).alloc (.cells zeroN s)) (.cells zeroN s)
    rw [show ((w.alloc (.cells #[x, y, z, u] t)).alloc (.cells zeroN s)).heap.size = w.heap.size + 1 + 1 by simp] at h
    exact h
set_option maxHeartbeats 1600000 in
theorem ends_any (p v q u : List UInt8) (w : World) : Calls Tryz.prog 39 #[.agg #[.string (mkB p), .string (mkB v), .string (mkB q), .string (mkB u)]] w fun e w' => e = .returned (.tuple #[.agg #[.string (mkB p), .string (mkB v)], .agg #[.string (mkB q), .string (mkB u)]]) ∧ Below w.heap.size w w' := by
  obtain ⟨W, g, g2, g3, hW, hg, hg2, hg3, r1, r2, r3, hb⟩ := boxE19 w (.string (mkB p)) (.string (mkB v)) (.string (mkB q)) (.string (mkB u)) 49 24
  have BB := Lib.hid hb; have R1 := Lib.hid r1; have R2 := Lib.hid r2; have R3 := Lib.hid r3; have HW := Lib.hid hW; have HG := Lib.hid hg; have HG2 := Lib.hid hg2; have HG3 := Lib.hid hg3
  have HL2 := Lib.hid (show w.heap.size ≤ g2 by omega); have HL3 := Lib.hid (show w.heap.size ≤ g3 by omega)
  have HWA := Lib.hid (show (if g2 = g2 then 2 else if g2 = g3 then 3 else 4) = 2 from if_pos rfl)
  have HWB := Lib.hid (show (if g3 = g2 then 2 else if g3 = g3 then 3 else 4) = 3 from (if_neg (by omega)).trans (if_pos rfl))
  have HWC := Lib.hid (show (if g = g2 then 2 else if g = g3 then 3 else 4) = 4 from (if_neg (by omega)).trans (if_neg (by omega)))
  clear hb r1 r2 r3 hW hg hg2 hg3
  go_enter Tryz.func39, Tryz.ntmps39
  go_upto_region 1 with fail
  change Code.wp _ _ _ _ (((w.alloc (.cells #[.string (mkB p), .string (mkB v), .string (mkB q), .string (mkB u)] 49)).alloc (.cells zeroN 24)).alloc (.cells zeroN 24))
  rw [HW.out, HG3.out, HG2.out, HG.out]
  refine rol_run (by kernel_rfl) [[], [0], [], [2], [0, 1], [0, 1, 2, 3, 4]] (by kernel_rfl) [4, 5, 6, 7] [[], [0, 8], [], [2, 8], [1, 6], [3, 7]] [0, 0, 0, 0, 2, 3, 2, 3, 4] [0, 0, 0, 0, 2, 3] [1000, 1000, 1000, 1000, 1000, 1000, 4, 5, 1000] [.val 4 (.pointer (some ⟨g, 0, none⟩)), .val 5 (.agg #[.string (mkB p), .string (mkB v)]), .val 6 (.pointer (some ⟨g, 2, none⟩)), .val 7 (.agg #[.string (mkB q), .string (mkB u)]), .box (g2) (.cells #[.string (mkB p), .string (mkB v)] 24), .box (g3) (.cells #[.string (mkB q), .string (mkB u)] 24), .box (g2) (.cells zeroN 24), .box (g3) (.cells zeroN 24), .box (g) (.cells #[.string (mkB p), .string (mkB v), .string (mkB q), .string (mkB u)] 49)] (by kernel_rfl) ?_ (w.heap.size) (W.heap.size) rfl BB.out rfl (fun b => if b = g2 then 2 else if b = g3 then 3 else 4) ?_ ?_ ?_
  · intro j hj
    have hj3 : j < 9 := hj
    have hj2 : j = 0 ∨ j = 1 ∨ j = 2 ∨ j = 3 ∨ j = 4 ∨ j = 5 ∨ j = 6 ∨ j = 7 ∨ j = 8 := by omega
    clear hj hj3
    rcases hj2 with rfl | rfl | rfl | rfl | rfl | rfl | rfl | rfl | rfl
    · exact trivial
    · exact trivial
    · exact trivial
    · exact trivial
    · exact trivial
    · exact trivial
    · exact trivial
    · exact trivial
    · exact trivial
  · intro j hj0 hj
    have hj1 : 6 ≤ j := hj0
    have hj3 : j < 9 := hj
    have hj2 : j = 6 ∨ j = 7 ∨ j = 8 := by omega
    clear hj0 hj hj1 hj3
    rcases hj2 with rfl | rfl | rfl
    · exact ⟨R2.out, HWA.out⟩
    · exact ⟨R3.out, HWB.out⟩
    · exact ⟨R1.out, HWC.out⟩
  · intro i hi a wx who hG hF
    have hz : a.tmps.size = 8 := hG.size
    have hi3 : i < 6 := hi
    have hi2 : i = 0 ∨ i = 1 ∨ i = 2 ∨ i = 3 ∨ i = 4 ∨ i = 5 := by omega
    clear hi hi3
    rcases hi2 with rfl | rfl | rfl | rfl | rfl | rfl
    · exact rol_val rfl rfl rfl (by rw [hz]; decide) (ex_field rfl (eval_slot ((hG.slots 1 (by decide)).trans rfl)) (by go_simp)) hG.below
    · exact rol_val rfl rfl rfl (by rw [hz]; decide) (ex_load rfl (eval_slot (hF 0 (by decide))) (ld_node (row4n (hF 8 (by decide)).1).1 (row4n (hF 8 (by decide)).1).2.1)) hG.below
    · exact rol_val rfl rfl rfl (by rw [hz]; decide) (ex_field rfl (eval_slot ((hG.slots 1 (by decide)).trans rfl)) (by go_simp)) hG.below
    · exact rol_val rfl rfl rfl (by rw [hz]; decide) (ex_load rfl (eval_slot (hF 2 (by decide))) (ld_node (row4n (hF 8 (by decide)).1).2.2.1 (row4n (hF 8 (by decide)).1).2.2.2)) hG.below
    · exact rol_box_nd19 rfl rfl rfl rfl (eval_slot ((hG.slots 2 (by decide)).trans rfl)) (eval_slot (hF 1 (by decide))) (hF 6 (by decide)) hG.below HL2.out
    · exact rol_box_nd19 rfl rfl rfl rfl (eval_slot ((hG.slots 3 (by decide)).trans rfl)) (eval_slot (hF 3 (by decide))) (hF 7 (by decide)) hG.below HL3.out
  · intro a wx who hG hF
    have h2 := hF 4 (of_decide_eq_true (by kernel_rfl)) (of_decide_eq_true (by kernel_rfl))
    have h3 := hF 5 (of_decide_eq_true (by kernel_rfl)) (of_decide_eq_true (by kernel_rfl))
    have hbx := hG.below
    have hnx := hG.new
    rw [hG.frame]
    simp only [List.foldl_cons, List.foldl_nil, List.setIfInBounds_toArray, List.set_cons_zero, List.set_cons_succ]
    generalize a.tmps.getD 4 undef = u4
    generalize a.tmps.getD 5 undef = u5
    generalize a.tmps.getD 6 undef = u6
    generalize a.tmps.getD 7 undef = u7
    clear hF hG
    clear hnx
    go_wp2
    try simp only [Exit.inBlock, Exit.then]
    refine bodyPost_ret (v := .tuple #[.agg #[.string (mkB p), .string (mkB v)], .agg #[.string (mkB q), .string (mkB u)]]) (results_cell2 (fn := Tryz.f39) (p := 2) (q := 3) (ty := 24) rfl _ _ g2 g3 24 24 _ _ (0, 0) (0, 0) _ rfl rfl h2.1 h3.1 Tryz.underlying24 rfl (by kernel_rfl) (by kernel_rfl)) rfl ?_
    exact ⟨rfl, hbx⟩
set_option maxHeartbeats 1600000 in
theorem endc_any (p v q u : List UInt8) (w : World) : Calls Tryz.prog 28 #[.agg #[.string (mkB p), .string (mkB v), .string (mkB q), .string (mkB u)]] w fun e w' => e = .returned (.tuple #[.agg #[.string (mkB q), .string (mkB u)], .agg #[.string (mkB p), .string (mkB v)]]) ∧ Below w.heap.size w w' := by
  obtain ⟨W, g, g2, g3, hW, hg, hg2, hg3, r1, r2, r3, hb⟩ := boxE19 w (.string (mkB p)) (.string (mkB v)) (.string (mkB q)) (.string (mkB u)) 49 24
  have BB := Lib.hid hb; have R1 := Lib.hid r1; have R2 := Lib.hid r2; have R3 := Lib.hid r3; have HW := Lib.hid hW; have HG := Lib.hid hg; have HG2 := Lib.hid hg2; have HG3 := Lib.hid hg3
  have HL2 := Lib.hid (show w.heap.size ≤ g2 by omega); have HL3 := Lib.hid (show w.heap.size ≤ g3 by omega)
  have HWA := Lib.hid (show (if g2 = g2 then 2 else if g2 = g3 then 3 else 4) = 2 from if_pos rfl)
  have HWB := Lib.hid (show (if g3 = g2 then 2 else if g3 = g3 then 3 else 4) = 3 from (if_neg (by omega)).trans (if_pos rfl))
  have HWC := Lib.hid (show (if g = g2 then 2 else if g = g3 then 3 else 4) = 4 from (if_neg (by omega)).trans (if_neg (by omega)))
  clear hb r1 r2 r3 hW hg hg2 hg3
  go_enter Tryz.func28, Tryz.ntmps28
  go_upto_region 1 with fail
  change Code.wp _ _ _ _ (((w.alloc (.cells #[.string (mkB p), .string (mkB v), .string (mkB q), .string (mkB u)] 49)).alloc (.cells zeroN 24)).alloc (.cells zeroN 24))
  rw [HW.out, HG3.out, HG2.out, HG.out]
  refine rol_run (by kernel_rfl) [[], [0], [], [2], [0, 1], [0, 1, 2, 3, 4]] (by kernel_rfl) [4, 5, 6, 7] [[], [0, 8], [], [2, 8], [1, 6], [3, 7]] [0, 0, 0, 0, 2, 3, 2, 3, 4] [0, 0, 0, 0, 2, 3] [1000, 1000, 1000, 1000, 1000, 1000, 4, 5, 1000] [.val 4 (.pointer (some ⟨g, 2, none⟩)), .val 5 (.agg #[.string (mkB q), .string (mkB u)]), .val 6 (.pointer (some ⟨g, 0, none⟩)), .val 7 (.agg #[.string (mkB p), .string (mkB v)]), .box (g2) (.cells #[.string (mkB q), .string (mkB u)] 24), .box (g3) (.cells #[.string (mkB p), .string (mkB v)] 24), .box (g2) (.cells zeroN 24), .box (g3) (.cells zeroN 24), .box (g) (.cells #[.string (mkB p), .string (mkB v), .string (mkB q), .string (mkB u)] 49)] (by kernel_rfl) ?_ (w.heap.size) (W.heap.size) rfl BB.out rfl (fun b => if b = g2 then 2 else if b = g3 then 3 else 4) ?_ ?_ ?_
  · intro j hj
    have hj3 : j < 9 := hj
    have hj2 : j = 0 ∨ j = 1 ∨ j = 2 ∨ j = 3 ∨ j = 4 ∨ j = 5 ∨ j = 6 ∨ j = 7 ∨ j = 8 := by omega
    clear hj hj3
    rcases hj2 with rfl | rfl | rfl | rfl | rfl | rfl | rfl | rfl | rfl
    · exact trivial
    · exact trivial
    · exact trivial
    · exact trivial
    · exact trivial
    · exact trivial
    · exact trivial
    · exact trivial
    · exact trivial
  · intro j hj0 hj
    have hj1 : 6 ≤ j := hj0
    have hj3 : j < 9 := hj
    have hj2 : j = 6 ∨ j = 7 ∨ j = 8 := by omega
    clear hj0 hj hj1 hj3
    rcases hj2 with rfl | rfl | rfl
    · exact ⟨R2.out, HWA.out⟩
    · exact ⟨R3.out, HWB.out⟩
    · exact ⟨R1.out, HWC.out⟩
  · intro i hi a wx who hG hF
    have hz : a.tmps.size = 8 := hG.size
    have hi3 : i < 6 := hi
    have hi2 : i = 0 ∨ i = 1 ∨ i = 2 ∨ i = 3 ∨ i = 4 ∨ i = 5 := by omega
    clear hi hi3
    rcases hi2 with rfl | rfl | rfl | rfl | rfl | rfl
    · exact rol_val rfl rfl rfl (by rw [hz]; decide) (ex_field rfl (eval_slot ((hG.slots 1 (by decide)).trans rfl)) (by go_simp)) hG.below
    · exact rol_val rfl rfl rfl (by rw [hz]; decide) (ex_load rfl (eval_slot (hF 0 (by decide))) (ld_node (row4n (hF 8 (by decide)).1).2.2.1 (row4n (hF 8 (by decide)).1).2.2.2)) hG.below
    · exact rol_val rfl rfl rfl (by rw [hz]; decide) (ex_field rfl (eval_slot ((hG.slots 1 (by decide)).trans rfl)) (by go_simp)) hG.below
    · exact rol_val rfl rfl rfl (by rw [hz]; decide) (ex_load rfl (eval_slot (hF 2 (by decide))) (ld_node (row4n (hF 8 (by decide)).1).1 (row4n (hF 8 (by decide)).1).2.1)) hG.below
    · exact rol_box_nd19 rfl rfl rfl rfl (eval_slot ((hG.slots 2 (by decide)).trans rfl)) (eval_slot (hF 1 (by decide))) (hF 6 (by decide)) hG.below HL2.out
    · exact rol_box_nd19 rfl rfl rfl rfl (eval_slot ((hG.slots 3 (by decide)).trans rfl)) (eval_slot (hF 3 (by decide))) (hF 7 (by decide)) hG.below HL3.out
  · intro a wx who hG hF
    have h2 := hF 4 (of_decide_eq_true (by kernel_rfl)) (of_decide_eq_true (by kernel_rfl))
    have h3 := hF 5 (of_decide_eq_true (by kernel_rfl)) (of_decide_eq_true (by kernel_rfl))
    have hbx := hG.below
    have hnx := hG.new
    rw [hG.frame]
    simp only [List.foldl_cons, List.foldl_nil, List.setIfInBounds_toArray, List.set_cons_zero, List.set_cons_succ]
    generalize a.tmps.getD 4 undef = u4
    generalize a.tmps.getD 5 undef = u5
    generalize a.tmps.getD 6 undef = u6
    generalize a.tmps.getD 7 undef = u7
    clear hF hG
    clear hnx
    go_wp2
    try simp only [Exit.inBlock, Exit.then]
    refine bodyPost_ret (v := .tuple #[.agg #[.string (mkB q), .string (mkB u)], .agg #[.string (mkB p), .string (mkB v)]]) (results_cell2 (fn := Tryz.f28) (p := 2) (q := 3) (ty := 24) rfl _ _ g2 g3 24 24 _ _ (0, 0) (0, 0) _ rfl rfl h2.1 h3.1 Tryz.underlying24 rfl (by kernel_rfl) (by kernel_rfl)) rfl ?_
    exact ⟨rfl, hbx⟩
theorem ends_w : EndsW 39 #[] (·.1) (·.2) := fun w d => ends_any d.1.1 d.1.2 d.2.1 d.2.2 w
theorem endc_w : EndsW 28 #[] (·.2) (·.1) := fun w d => endc_any d.1.1 d.1.2 d.2.1 d.2.2 w
end Go.Proofs.YtdefphacdcbljaaGreat

namespace Go.Proofs.YtdefphacdcbljaaGreat
open Go.RowKit Go.Maps Go.ChangeShapes Go.WideShapes
set_option linter.unusedVariables false
set_option maxRecDepth 100000

/-! ### Asked at a node -/
theorem BesN.cell {w : World} {lo : Nat} {V : Value} {vs : List Value} {ls : List (List Nd)} (h : BesN w lo V vs ls) {k : Nat} (hk : k < ls.length) : ∃ g c a f c', V = .slice (some ⟨g, 0, none⟩) ls.length c ∧ lo ≤ g ∧ w.cell? ⟨g, k, none⟩ = some (.slice a f c') ∧ vs.getD k undef = .slice a f c' ∧ f = (ls.getD k []).length ∧ Nds w (.slice a f c') (ls.getD k []) := by
  obtain ⟨g, c, cur, h1, h2, h3, h4, h5, h6, h7⟩ := h.open (by omega)
  obtain ⟨a, c', e, hn⟩ := ndsO (h.own k hk)
  refine ⟨g, c, a, _, c', h1, h2, ?_, e, rfl, hn⟩
  have hlt : k < cur.size := by omega
  have e2 : vs.getD k undef = cur[k] := by
    rw [← h7, List.getD_eq_getElem?_getD, List.getElem?_take, if_pos hk]
    simp [hlt]
  rw [← e, e2]
  simp [World.cell?, h3, hlt]
set_option maxHeartbeats 800000 in
theorem wans_any (p v : List UInt8) (g1 g2 b nn lo : Nat) (K : List Nd) (V : Value) (vs : List Value) (ls : List (List Nd)) (X : List Nd) (w : World) (h1 : w.cell? ⟨g1, 0, none⟩ = some (.map (some b))) (h2 : w.cell? ⟨g2, 0, none⟩ = some V) (m : IMap w b nn K) (hB : BesN w lo V vs ls) (hf : fitsN (p, v))
    (hN : hasN K (p, v) = false → X = []) (hY : hasN K (p, v) = true → laN K (p, v) < ls.length ∧ ls.getD (laN K (p, v)) [] = X) :
    Calls Tryz.prog 48 #[.agg #[.string (mkB p), .string (mkB v)], .pointer (some ⟨g1, 0, none⟩), .pointer (some ⟨g2, 0, none⟩)] w fun e w' => ∃ a c, e = .returned (.slice a X.length c) ∧ Nds w' (.slice a X.length c) X ∧ Below w.heap.size w w' := by
  obtain ⟨W, g, hW, hg, d0, d1, hb⟩ := boxB1 w (.string (mkB p)) (.string (mkB v)) 24
  replace h1 := cell_keep h1 hb
  replace h2 := cell_keep h2 hb
  obtain ⟨O, hO⟩ : ∃ O, hasN K (p, v) = O := ⟨_, rfl⟩
  obtain ⟨k, hk⟩ : ∃ k, (if O = true then laN K (p, v) else 0) = k := ⟨_, rfl⟩
  have k1 := lookN_imap (m.below hb) hf hO hk
  have BW := hB.below hb
  have B := Lib.hid hb; have HW := Lib.hid hW; have HG := Lib.hid hg
  cases O
  · obtain rfl := hN hO
    clear hb hW hg hY hN hB BW hO hk m hf
    go_enter Tryz.func48, Tryz.ntmps48
    go_upto_region 1 with fail
    rw [HW.out, HG.out]
    go_wp2
    go_ret
    exact ⟨none, 0, rfl, nds_none _, B.out⟩
  · obtain ⟨hkl, hX⟩ := hY hO
    rw [show laN K (p, v) = k from hk] at hkl hX
    obtain ⟨gB, c, a, f, c', rfl, -, hcell, -, hfl, hnd⟩ := BW.cell hkl
    rw [hX] at hfl hnd
    obtain ⟨n, hn⟩ : ∃ n, ls.length = n := ⟨_, rfl⟩
    rw [hn] at hkl h2
    have hix := fun w => idx_ndl (w := w) (b := gB) (off := 0) (n := n) (c := c) (k := k) hkl
    simp only [Nat.zero_add] at hix
    have HF := Lib.hid hfl; have HN := Lib.hid hnd
    clear hb hW hg hY hN hB BW hO hk hX hfl hnd hn m hf
    go_enter Tryz.func48, Tryz.ntmps48
    go_upto_region 1 with fail
    rw [HW.out, HG.out]
    go_wp2
    go_ret
    rw [← HF.out]
    exact ⟨a, c', rfl, HN.out, B.out⟩
/-! ### Going through needs -/
structure AskS (w : World) (g1 g2 b lo k : Nat) (U : Value) (vs : List Value) (K : List Nd) (R : List (List Nd)) : Prop where
  c1 : w.heap[g1]? = some (.cells #[.map (some b)] 52 (0, 0))
  c2 : w.heap[g2]? = some (.cells #[U] 39 (0, 0))
  map : IMap w b k K
  rows : BesN w lo U vs R
theorem AskS.below {w w' : World} {g1 g2 b lo k : Nat} {U : Value} {vs : List Value} {K : List Nd} {R : List (List Nd)} (h : AskS w g1 g2 b lo k U vs K R) (hb : Below w.heap.size w w') : AskS w' g1 g2 b lo k U vs K R :=
  ⟨row_keepB h.c1 hb, row_keepB h.c2 hb, h.map.below hb, h.rows.below hb⟩
theorem IMap.mono19 {w : World} {b n m : Nat} {K : List Nd} (h : IMap w b n K) (e : n ≤ m) : IMap w b m K := by
  obtain ⟨h1, D, h2, h3⟩ := h
  exact ⟨h1, D, h2.mono e, h3⟩
theorem AskS.mono {w : World} {g1 g2 b lo k m : Nat} {U : Value} {vs : List Value} {K : List Nd} {R : List (List Nd)} (h : AskS w g1 g2 b lo k U vs K R) (e : k ≤ m) : AskS w g1 g2 b lo m U vs K R :=
  ⟨h.c1, h.c2, h.map.mono19 e, h.rows⟩
theorem boxA19 (w : World) (t s : TypeId) : ∃ W b g1 g2, ((w.alloc (.map #[] 0)).alloc (.cells #[.map (some w.heap.size)] t)).alloc (.cells #[.slice none 0 0] s) = W ∧ w.heap.size = b ∧ w.heap.size + 1 = g1 ∧ w.heap.size + 1 + 1 = g2 ∧ W.heap.size = g2 + 1 ∧ W.heap[g1]? = some (.cells #[.map (some b)] t (0, 0)) ∧ W.heap[g2]? = some (.cells #[.slice none 0 0] s (0, 0)) ∧ IMap W b 0 [] ∧ Below w.heap.size w W := by
  refine ⟨_, _, _, _, rfl, rfl, rfl, rfl, by simp, ?_, ?_, ((IMap.made w).alloc _).alloc _, (((Below.refl _ _).alloc (Nat.le_refl _) _).alloc (by simp) _).alloc (by simp; omega) _⟩
  · have h := heap_alloc_new (w.alloc (.map #[] 0)) (.cells #[.map (some w.heap.size)] t)
    rw [show (w.alloc (.map #[] 0)).heap.size = w.heap.size + 1 by simp] at h
    exact row_keepB h ((Below.refl _ _).alloc (Nat.le_refl _) _)
  · have h := heap_alloc_new ((w.alloc (.map #[] 0)).alloc (.cells #[.map (some w.heap.size)] t)) (.cells #[.slice none 0 0] s)
    rw [show ((w.alloc (.map #[] 0)).alloc (.cells #[.map (some w.heap.size)] t)).heap.size = w.heap.size + 1 + 1 by simp] at h
    exact h
theorem boxN2 (w : World) (x y z u : Value) (t : TypeId) : ∃ W p q, (w.alloc (.cells #[x, y] t)).alloc (.cells #[z, u] t) = W ∧ w.heap.size = p ∧ w.heap.size + 1 = q ∧ W.heap.size = q + 1 ∧ W.heap[p]? = some (.cells #[x, y] t (0, 0)) ∧ W.heap[q]? = some (.cells #[z, u] t (0, 0)) ∧ Below w.heap.size w W := by
  refine ⟨_, _, _, rfl, rfl, rfl, by simp, ?_, ?_, ((Below.refl _ _).alloc (Nat.le_refl _) _).alloc (by simp) _⟩
  · exact row_keepB (heap_alloc_new w (.cells #[x, y] t)) ((Below.refl _ _).alloc (Nat.le_refl _) _)
  · have h := heap_alloc_new (w.alloc (.cells #[x, y] t)) (.cells #[z, u] t)
    rw [show (w.alloc (.cells #[x, y] t)).heap.size = w.heap.size + 1 by simp] at h
    exact h

theorem BesN.far {w w' : World} {lo : Nat} {V : Value} {vs : List Value} {ls : List (List Nd)} (h : BesN w lo V vs ls) (hk : ∀ x, lo ≤ x → x < w.heap.size → (∀ j, j < ls.length → True) → w'.heap[x]? = w.heap[x]?) : BesN w' lo V vs ls :=
  ⟨row_heap h.row fun b e => hk b (own_lt h.row e).1 (own_lt h.row e).2 fun _ _ => trivial, h.len, fun j hj => row_heap (h.own j hj) fun b e => hk b (own_lt (h.own j hj) e).1 (own_lt (h.own j hj) e).2 fun _ _ => trivial, h.apart⟩
theorem AskS.stored {w w' : World} {g1 g2 b lo k m : Nat} {U : Value} {vs : List Value} {K K' : List Nd} {R : List (List Nd)} (h : AskS w g1 g2 b lo k U vs K R) (hg : w.grownBy w' (some b)) (hm : IMap w' b m K') (h1 : b < g1) (h2 : g1 < g2) (h3 : g2 < lo) : AskS w' g1 g2 b lo m U vs K' R :=
  ⟨(hg.block g1 (Array.getElem?_eq_some_iff.1 h.c1).1 fun q => by injection q with q; omega).trans h.c1, (hg.block g2 (Array.getElem?_eq_some_iff.1 h.c2).1 fun q => by injection q with q; omega).trans h.c2, hm, h.rows.far fun x hx hl _ => hg.block x hl fun q => by injection q with q; omega⟩
theorem AskS.pushed {w w' : World} {g1 g2 b lo k : Nat} {U V' : Value} {vs : List Value} {K : List Nd} {R : List (List Nd)} (h : AskS w g1 g2 b lo k U vs K R) (hg : w.grownBy w' U.ownBlock) (ho : w'.ownsRow lo 31 1 V' (R.length + 1) (vs ++ [.slice none 0 0])) (h1 : b < g1) (h2 : g1 < g2) (h3 : g2 < lo) :
    w'.heap[g2]? = some (.cells #[U] 39 (0, 0)) ∧ AskS (w'.setCell ⟨g2, 0, none⟩ V') g1 g2 b lo k V' (vs ++ [.slice none 0 0]) K (R ++ [[]]) := by
  have kp : ∀ x, x < lo → x < w.heap.size → w'.heap[x]? = w.heap[x]? := fun x hx hl => hg.block x hl fun q => by
    have := (own_lt h.rows.row q.symm).1
    omega
  have e2 := (kp g2 h3 (Array.getElem?_eq_some_iff.1 h.c2).1).trans h.c2
  have e1 := (kp g1 (by omega) (Array.getElem?_eq_some_iff.1 h.c1).1).trans h.c1
  refine ⟨e2, ?_, row1_set e2 _, ?_, ?_⟩
  · exact (Below.heap_setCell _ ⟨g2, 0, none⟩ _ g1 (by show g1 ≠ g2; omega)).trans e1
  · exact (h.map.near (kp b (by omega) h.map.lt)).near (Below.heap_setCell _ ⟨g2, 0, none⟩ _ b (by show b ≠ g2; omega))
  · exact (h.rows.push ho hg).far fun x hx _ _ => Below.heap_setCell _ ⟨g2, 0, none⟩ _ x (by show x ≠ g2; omega)
set_option maxHeartbeats 3200000 in
theorem wasked_any (E : Nat) (lb : Array Value) (eg : ∀ args w, (callFunc E args).run Tryz.prog w = .ok (.enter E args) w) (f g : Ne → Nd) (he : EndsW E lb f g) (V : Value) (l : List Ne) (w : World) (h : Nes w V l) (hl : l.length ≤ 100000) (hf : ∀ d ∈ l, fitsN (f d)) :
    Calls Tryz.prog 26 #[V, .func (.func E) #[] lb] w fun e w' => ∃ g1 g2, e = .returned (.func (.func 48) #[] #[.pointer (some ⟨g1, 0, none⟩), .pointer (some ⟨g2, 0, none⟩)]) ∧ AnsW 48 #[.pointer (some ⟨g1, 0, none⟩), .pointer (some ⟨g2, 0, none⟩)] (grpA f g l) w'.heap.size w' ∧ Below w.heap.size w w' := by
  obtain ⟨a, c, rfl, h1, h2, -, -⟩ := h.ex
  unfold maxLen at h2
  have hmm := make_cmap19
  obtain ⟨n, hn⟩ : ∃ n, l.length = n := ⟨_, rfl⟩
  rw [hn] at h1 h hl
  rw [hn]
  have HN := Lib.hid hn; have ST := Lib.hid h; have HF := Lib.hid hf; have HE := Lib.hid he
  clear h hn hf he
  go_enter Tryz.func26, Tryz.ntmps26
  go_wp2
  obtain ⟨W, b, g1, g2, hW, hb, hg1, hg2, hWs, hr1, hr2, hm, hbw⟩ := boxA19 w 52 39
  rw [hW, hg2, hg1, hb]
  have A0 := Lib.hid (show AskS W g1 g2 b (g2 + 1) 0 (.slice none 0 0) [] [] [] from ⟨hr1, hr2, hm, BesN.nil _ _⟩)
  have B0 := Lib.hid hbw
  have HL := Lib.hid (show w.heap.size = b ∧ b + 1 = g1 ∧ g1 + 1 = g2 by omega)
  have HW0 := Lib.hid (show g2 + 1 ≤ W.heap.size by omega)
  clear hW hb hg1 hg2 hWs hr1 hr2 hm hbw hmm
  go_loopw [16] (fun i wr => ∃ (k : Nat) (U : Value) (vs : List Value), k ≤ n ∧ i = .int .i64 k ∧ Hid (AskS wr g1 g2 b (g2 + 1) k U vs (keysA f (l.take k)) (rowsA f g (l.take k))) ∧ Hid (g2 + 1 ≤ wr.heap.size) ∧ Hid (Below w.heap.size w wr)) (fun i _ => n - (intOf i).toNat)
  case atStart => exact ⟨0, _, _, Nat.zero_le _, rfl, A0, HW0, B0⟩
  case round =>
    obtain ⟨k, U, vs, hk, rfl, HA, HS, HB⟩ := hrel
    by_cases hlt : k < n
    · have hkl : k < l.length := by rw [HN.out]; exact hlt
      obtain ⟨b', off, rfl, -, hc0, hc1, hc2, hc3⟩ := (ST.out.below HB.out).at k hkl
      have htk := ne_take hkl
      have hfy := HF.out _ (ne_mem hkl)
      obtain ⟨y, hy⟩ : ∃ y, y = l.getD k zNe := ⟨_, rfl⟩
      rw [← hy] at hc0 hc1 hc2 hc3 htk hfy
      have hcall := fun w' => HE.out w' y
      have hold := fun h => rowsA_old (f := f) (g := g) (l := l.take k) (d := y) h
      have hnew := fun h => rowsA_new (f := f) (g := g) (l := l.take k) (d := y) h
      obtain ⟨⟨f1, f2⟩, hf12⟩ : ∃ z, f y = z := ⟨_, rfl⟩
      obtain ⟨⟨z1, z2⟩, hz12⟩ : ∃ z, g y = z := ⟨_, rfl⟩
      have hrl := rowsA_len f g (l.take k)
      have hkl2 := keysA_len f (l.take k)
      have hgl := fun q => (show ((rowsA f g (l.take k)).getD q []).length ≤ 100000 from by
        unfold rowsA
        rw [List.getD_eq_getElem?_getD, List.getElem?_map]
        cases (keysA f (l.take k))[q]? with
        | none => exact Nat.zero_le _
        | some x =>
          have := grpA_len f g (l.take k) x
          rw [List.length_take] at this
          show (grpA f g (l.take k) x).length ≤ 100000
          omega)
      rw [← htk, hf12, hz12] at hold hnew
      rw [hf12] at hfy
      rw [hf12, hz12] at hcall
      obtain ⟨⟨y1, y2⟩, y3, y4⟩ := y
      simp only [neV] at hc0 hc1 hc2 hc3 hcall
      obtain ⟨K, hK⟩ : ∃ K, keysA f (l.take k) = K := ⟨_, rfl⟩
      obtain ⟨R, hR⟩ : ∃ R, rowsA f g (l.take k) = R := ⟨_, rfl⟩
      rw [hK, hR] at hold hnew HA hrl
      rw [hK] at hkl2
      rw [hR] at hgl
      rw [List.length_take] at hkl2
      have hRk : R.length ≤ k := by omega
      obtain ⟨K1, hK1⟩ : ∃ K, keysA f (l.take (k + 1)) = K := ⟨_, rfl⟩
      obtain ⟨R1, hR1⟩ : ∃ R, rowsA f g (l.take (k + 1)) = R := ⟨_, rfl⟩
      rw [hK1, hR1] at hold hnew
      have HRK := Lib.hid hrl; have HGL := Lib.hid hgl; have HOLD := Lib.hid hold; have HNEW := Lib.hid hnew; have HFY := Lib.hid hfy; have HK1 := Lib.hid hK1; have HR1 := Lib.hid hR1
      clear hy hf12 hz12 hold hnew hrl hgl hK hR hK1 hR1 htk hfy hkl2
      have hkb : (k : Int) < (n : Int) := by omega
      go_upto_region 6 with fail
      obtain ⟨X, q, hX, hq, d0, d1, d2, d3, hxb⟩ := boxNe wr (.string (mkB y1)) (.string (mkB y2)) (.string (mkB y3)) (.string (mkB y4)) 49
      rw [hX, hq]
      replace HA := Lib.hid (HA.out.below hxb); replace HS := Lib.hid (Nat.le_trans HS.out hxb.size); replace HB := Lib.hid (below_step HB.out hxb)
      clear hX hq hxb hc0 hc1 hc2 hc3
      go_upto_region 7 with (go_at_fn E; refine (hcall _).mono ?_; rintro e w1 ⟨rfl, hb1⟩; replace HA := Lib.hid (HA.out.below hb1); replace HS := Lib.hid (Nat.le_trans HS.out hb1.size); replace HB := Lib.hid (below_step HB.out hb1); clear hb1 hcall d0 d1 d2 d3)
      obtain ⟨W3, p9, p10, hW3, hp9, hp10, hs3, r9, r10, hb3⟩ := boxN2 w1 (.string (mkB f1)) (.string (mkB f2)) (.string (mkB z1)) (.string (mkB z2)) 24
      rw [hW3, hp10, hp9]
      have hob : ∀ j, j < R.length → ∀ b, (vs.getD j undef).ownBlock = some b → b < p10 := fun j hj b e => by
        have := (own_lt (HA.out.rows.own j hj) e).2
        omega
      have hs1 := HS.out
      replace HA := Lib.hid (HA.out.below hb3); replace HS := Lib.hid (Nat.le_trans HS.out hb3.size); replace HB := Lib.hid (below_step HB.out hb3)
      obtain ⟨O, hO⟩ : ∃ O, hasN K (f1, f2) = O := ⟨_, rfl⟩
      obtain ⟨I, hI⟩ : ∃ I, (if O = true then laN K (f1, f2) else 0) = I := ⟨_, rfl⟩
      have k1 := lookN_imap HA.out.map HFY.out hO hI
      obtain ⟨e1, -⟩ := row1 HA.out.c1
      obtain ⟨e9, e9', -, -⟩ := row2 r9
      have HOB := Lib.hid hob; have R10 := Lib.hid r10; have HP := Lib.hid (show g2 < p10 from by have := HS.out; have := hp9; have := hp10; have := hs1; omega)
      clear hW3 hp9 hp10 hs3 r10 hob hb3 hs1
      go_upto_if 33 with (fail)
      clear k1
      obtain ⟨m, hm⟩ : ∃ m, R.length = m := ⟨_, rfl⟩
      have hmk : m ≤ k := by omega
      clear hRk
      go_cut [11] (fun s wx => ∃ (q : Nat) (U' : Value) (vs' : List Value) (R' : List (List Nd)), s = .int .i64 q ∧ Hid (AskS wx g1 g2 b (g2 + 1) (k + 1) U' vs' K1 R') ∧ Hid (q < R'.length) ∧ Hid (R1 = R'.set q (R'.getD q [] ++ [(z1, z2)])) ∧ Hid ((R'.getD q []).length ≤ 100000) ∧ Hid (∀ j, j < R'.length → ∀ b, (vs'.getD j undef).ownBlock = some b → b < p10) ∧ Hid (wx.heap[p10]? = some (.cells #[.string (mkB z1), .string (mkB z2)] 24 (0, 0))) ∧ Hid (g2 + 1 ≤ wx.heap.size) ∧ Hid (Below w.heap.size w wx))
      case first =>
        cases O
        · have hn' := HNEW.out hO
          obtain ⟨aU, cU, hU⟩ := own_form19 HA.out.rows.row
          rw [hm] at hU
          subst hU
          obtain ⟨e2, e2'⟩ := row1 HA.out.c2
          have HNN := Lib.hid hn'; have HM := Lib.hid hm
          clear hn' hm hI hO r9
          go_upto_region 10 with fail
          obtain ⟨hfk, D, hown, hsz, hD⟩ := HA.out.map
          have hst := imap_step (hown.tidy node_keyed) HFY.out hsz hD
          rw [show K.length = m by rw [← HRK.out, HM.out]] at hst
          have HST := Lib.hid hst; have HFK := Lib.hid hfk; have HOWN := Lib.hid hown
          clear hst hfk hsz hD hown e2 e2'
          have hmb : k < maxLen := by unfold maxLen; omega
          go_upto_region 11 with (at_mapUpdate; refine wpList_mapUpdate_own _ rfl _ _ _ 52 rfl 24 3 node_keyed Tryz.underlying52 (plainElem Tryz.prog 3) b k D rfl HOWN.out hmb _ _ (litN (f1, f2)) rfl rfl (key_n (f1, f2) HFY.out.1 HFY.out.2) (.lit (.int .i64 m)) [] (plainElem_int Tryz.underlying3 (WalkArith.wf_i64 (by omega))) ?_; intro w4 hown4 hg4)
          have HA4 := Lib.hid (HA.out.stored (m := k + 1) (K' := K1) hg4 (by
            rw [HNN.out.1]
            exact ⟨fits_step HFK.out HFY.out, _, hown4, HST.out.1, HST.out.2⟩) (by have := HL.out; omega) (by have := HL.out; omega) (by omega))
          have hwB : w.heap.size ≤ W3.heap.size := HB.out.size
          have HB4 := Lib.hid (HB.out.grown hg4 hwB fun j e => by cases e; exact Nat.le_of_eq HL.out.1)
          have hs4 : g2 + 1 ≤ w4.heap.size := Nat.le_trans HS.out hg4.size
          have R10b := Lib.hid ((hg4.block p10 (Array.getElem?_eq_some_iff.1 R10.out).1 fun q => by
            injection q with q
            have := HL.out
            have := HP.out
            omega).trans R10.out)
          obtain ⟨e3, -⟩ := row1 HA4.out.c2
          have hrow4 := HA4.out.rows.row
          rw [HM.out] at hrow4
          have HRW := Lib.hid hrow4; have HS4 := Lib.hid hs4
          clear hown4 hg4 hmb e1 e9 e9' hrow4 hs4
          have hwB4 : w.heap.size ≤ w4.heap.size := HB4.out.size
          go_wp2_with (at_builtin; refine wpList_push_nl rfl _ _ rfl (g2 + 1) _ vs m rfl HRW.out none 0 0 w4.heap.size rfl rfl (by omega) HS4.out ?_; intro a9 c9 w9 ho9 hg9; rw [← HM.out] at ho9; have hpp := HA4.out.pushed hg9 ho9 (by have := HL.out; omega) (by have := HL.out; omega) (by omega); have HA9 := Lib.hid hpp.2; have HC9 := Lib.hid hpp.1; have HB9 := Lib.hid (HB4.out.grown hg9 hwB4 fun j e => by have h1 := (own_lt HA4.out.rows.row e).1; have h2 := HL.out; omega); have HS9 := Lib.hid (Nat.le_trans HS4.out hg9.size); have R10c := Lib.hid ((hg9.block p10 (Array.getElem?_eq_some_iff.1 R10b.out).1 fun q => own_nebox HA4.out.rows.row R10b.out (by decide) q.symm).trans R10b.out); obtain ⟨e4, e4'⟩ := row1 hpp.1; rw [HM.out] at HA9; clear hpp ho9 hg9)
          go_meet
          have hg2p : w.heap.size ≤ g2 := by have := HL.out; omega
          refine ⟨m, _, _, R ++ [[]], rfl, HA9, Lib.hid (by rw [List.length_append, HM.out]; exact Nat.lt_succ_self _), ?_, ?_, ?_, ?_, ?_, ?_⟩
          · have h2 := HNN.out.2
            rw [← HRK.out, HM.out] at h2
            exact Lib.hid h2
          · refine Lib.hid ?_
            rw [getD_snoc, if_neg (by rw [HM.out]; omega), if_pos HM.out.symm]
            exact Nat.zero_le _
          · refine Lib.hid fun j hj b e => ?_
            rw [getD_snoc, HA4.out.rows.len] at e
            by_cases hj2 : j < R.length
            · rw [if_pos hj2] at e
              exact HOB.out j hj2 b e
            · rw [if_neg hj2] at e
              rw [List.length_append, List.length_singleton] at hj
              rw [if_pos (by omega)] at e
              cases e
          · exact Lib.hid ((Below.heap_setCell _ ⟨g2, 0, none⟩ _ p10 (by have := HP.out; show p10 ≠ g2; omega)).trans R10c.out)
          · exact Lib.hid (by simpa [World.setCell] using HS9.out)
          · exact Lib.hid (HB9.out.setCell (p := ⟨g2, 0, none⟩) hg2p _)
        · obtain ⟨o1, o2, o3⟩ := HOLD.out hO
          rw [show laN K (f1, f2) = I from hI] at o2 o3
          have HA4 := Lib.hid (HA.out.mono (Nat.le_succ k))
          rw [← o1] at HA4
          have H3 := Lib.hid o3
          have H2 := Lib.hid (show I < R.length by rw [HRK.out]; exact o2)
          clear e1 e9 e9' r9 hI hO o1 o2 o3
          go_wp2
          go_meet
          exact ⟨I, U, vs, R, rfl, HA4, H2, H3, Lib.hid (HGL.out I), HOB, R10, HS, HB⟩
      case rest =>
        clear e1 e9 e9' r9 hI hO HOLD HNEW HGL HRK HOB R10 HS HB HA hm hmk
        obtain ⟨q', U', vs', R', rfl, HA, HQ, HST, HFS, HOB, R10, HS, HB⟩ := hcut
        obtain ⟨gB, cB, cur, hU', hlo, hgB, hmc, hcm, hcs, hcv⟩ := HA.out.rows.open (by have := HQ.out; omega)
        obtain ⟨m', hm'⟩ : ∃ m, R'.length = m := ⟨_, rfl⟩
        obtain ⟨KK, hKK⟩ : ∃ K, R'.getD q' [] = K := ⟨_, rfl⟩
        obtain ⟨fl, hfl⟩ : ∃ f, KK.length = f := ⟨_, rfl⟩
        have hYo := HA.out.rows.own q' HQ.out
        rw [hKK, hfl] at hYo
        obtain ⟨ay, cy, hay⟩ := own_form19 hYo
        have hqv : q' < vs'.length := by rw [HA.out.rows.len]; exact HQ.out
        have hqc : q' < cur.size := by have := HQ.out; omega
        have hvq : cur[q'] = .slice ay fl cy := by
          rw [← hay, ← hcv, List.getD_eq_getElem?_getD, List.getElem?_take, if_pos HQ.out]
          simp [hqc]
        rw [hay] at hYo
        have hlp : gB ≠ p10 := fun e => own_nebox HA.out.rows.row R10.out (by decide) (by rw [hU', e]; rfl)
        have hlg : gB ≠ g2 := by omega
        have hpg : p10 ≠ g2 := by have := HP.out; omega
        have hold : ∀ j, j < R'.length → ∀ b, (vs'.getD j undef).ownBlock = some b → b ≠ gB ∧ b ≠ g2 ∧ b ≠ p10 := fun j hj b e => by
          refine ⟨fun h => own_nebox (HA.out.rows.own j hj) hgB (by decide) (by rw [← h]; exact e), ?_, ?_⟩
          · have := (own_lt (HA.out.rows.own j hj) e).1
            omega
          · have := HOB.out j hj b e
            omega
        obtain ⟨whoF, hwho⟩ : ∃ g : Nat → Nat, g = (fun b => if b = gB then 2 else if b = g2 then 5 else if b = p10 then 5 else if Value.ownBlock (.slice ay fl cy) = some b then 1 else 3) := ⟨_, rfl⟩
        have HW2 := Lib.hid (show whoF gB = 2 by rw [hwho]; exact if_pos rfl)
        have HW5 := Lib.hid (show whoF g2 = 5 by rw [hwho]; exact (if_neg (fun h => hlg h.symm)).trans (if_pos rfl))
        have HW6 := Lib.hid (show whoF p10 = 5 by rw [hwho]; exact (if_neg (fun h => hlp h.symm)).trans ((if_neg hpg).trans (if_pos rfl)))
        have HW1 := Lib.hid (show ∀ b, Value.ownBlock (.slice ay fl cy) = some b → whoF b = 1 from fun b e => by
          obtain ⟨h1, h2, h3⟩ := hold q' HQ.out b (by rw [hay]; exact e)
          rw [hwho]; exact (if_neg h1).trans ((if_neg h2).trans ((if_neg h3).trans (if_pos e))))
        have HW3 := Lib.hid (show ∀ j, j < R'.length → j ≠ q' → ∀ b, (vs'.getD j undef).ownBlock = some b → whoF b = 3 from fun j hj hne b e => by
          obtain ⟨h1, h2, h3⟩ := hold j hj b e
          rw [hwho]; exact (if_neg h1).trans ((if_neg h2).trans ((if_neg h3).trans (if_neg fun h => HA.out.rows.apart j q' hj HQ.out hne b e (by rw [hay]; exact h)))))
        have HC2 := HA.out.c2
        rw [hU', hm'] at HC2
        have HCC := Lib.hid HC2; have HGB := Lib.hid hgB; have HY := Lib.hid hYo; have HQC := Lib.hid hqc; have HLO := Lib.hid hlo
        have HYC := Lib.hid (show ∀ w' : World, w'.heap[gB]? = some (.cells cur 31 (0, 0)) → w'.cell? ⟨gB, q', none⟩ = some (.slice ay fl cy) from fun w' hw => by simp [World.cell?, hw, hqc, hvq])
        have hqm : q' < m' := by rw [← hm']; exact HQ.out
        have hix := fun w => idx_ndl (w := w) (b := gB) (off := 0) (n := m') (c := cB) (k := q') hqm
        simp only [Nat.zero_add] at hix
        have HIX := Lib.hid hix
        have HFL := Lib.hid (show fl ≤ 100000 by rw [← hfl, ← hKK]; exact HFS.out)
        have HFB := Lib.hid (show (KK ++ [(z1, z2)]).length = fl + 1 by rw [List.length_append, hfl]; rfl)
        rw [hKK] at HST
        rw [hU'] at HA
        have HV := Lib.hid (show R'.length ≤ cB ∧ cB ≤ maxLen ∧ cur.size = cB ∧ cur.toList.take R'.length = vs' from ⟨hmc, hcm, hcs, hcv⟩)
        clear hU' hgB hmc hcm hcs hcv hKK hfl hYo hay hqv hqc hvq hlp hlg hpg hold hwho HC2 hqm hix HFS hlo
        go_upto_region 12 with fail
        refine rol_run (by kernel_rfl) [[], [], [], [], [2, 3], [2, 3, 4], [], [6], [2, 3, 4, 5, 6, 7], [0, 1, 2, 3, 4, 5, 6, 7, 8], [0, 1, 2, 3, 4, 5, 6, 7, 8, 9]] (by kernel_rfl) [42, 43, 44, 45, 46, 47, 48, 49, 50, 51] [[12], [], [12], [], [2, 3], [4, 11], [13], [6], [5, 7, 14], [0, 1], [8, 9, 11]] [0, 0, 0, 0, 0, 0, 0, 4, 1, 0, 2, 2, 5, 5, 1, 3] [0, 0, 0, 0, 0, 0, 0, 0, 1, 0, 2] [1000, 1000, 1000, 1000, 1000, 1000, 1000, 1000, 1000, 1000, 1000, 10, 1000, 1000, 8, 1000] [.val 42 (.slice (some ⟨gB, 0, none⟩) m' cB), .val 43 (.int .i64 (q' : Int)), .val 44 (.slice (some ⟨gB, 0, none⟩) m' cB), .val 45 (.int .i64 (q' : Int)), .val 46 (.pointer (some ⟨gB, q', none⟩)), .val 47 (.slice ay fl cy), .val 48 (.agg #[.string (mkB z1), .string (mkB z2)]), .mem 49 (blkG 24 #[.string (mkB z1), .string (mkB z2)] 1), .mem 50 (rowG (g2 + 1) 24 2 (fl + 1) (ndsC (KK ++ [(z1, z2)]))), .val 51 (.pointer (some ⟨gB, q', none⟩)), .mem 50 (besP gB cur q'), .box (gB) (.cells cur 31), .box (g2) (.cells #[.slice (some ⟨gB, 0, none⟩) m' cB] 39), .box (p10) (.cells #[.string (mkB z1), .string (mkB z2)] 24), .mem 6 (rowX (.slice ay fl cy) (g2 + 1) 24 2 fl (ndsC KK)), .mems 6 (besO (g2 + 1) q' vs' R')] (by kernel_rfl) ?_ (g2 + 1) (wc.heap.size) rfl (Below.refl _ _) rfl (whoF) ?_ ?_ ?_
        · intro j hj
          have hj3 : j < 16 := hj
          have hj2 : j = 0 ∨ j = 1 ∨ j = 2 ∨ j = 3 ∨ j = 4 ∨ j = 5 ∨ j = 6 ∨ j = 7 ∨ j = 8 ∨ j = 9 ∨ j = 10 ∨ j = 11 ∨ j = 12 ∨ j = 13 ∨ j = 14 ∨ j = 15 := by omega
          clear hj hj3
          rcases hj2 with rfl | rfl | rfl | rfl | rfl | rfl | rfl | rfl | rfl | rfl | rfl | rfl | rfl | rfl | rfl | rfl
          · exact trivial
          · exact trivial
          · exact trivial
          · exact trivial
          · exact trivial
          · exact trivial
          · exact trivial
          · exact blkG_near
          · exact rowG_near
          · exact trivial
          · exact besP_near
          · exact trivial
          · exact trivial
          · exact trivial
          · exact rowX_near
          · exact besO_near
        · intro j hj0 hj
          have hj1 : 11 ≤ j := hj0
          have hj3 : j < 16 := hj
          have hj2 : j = 11 ∨ j = 12 ∨ j = 13 ∨ j = 14 ∨ j = 15 := by omega
          clear hj0 hj hj1 hj3
          rcases hj2 with rfl | rfl | rfl | rfl | rfl
          · exact ⟨HGB.out, HW2.out⟩
          · exact ⟨HCC.out, HW5.out⟩
          · exact ⟨R10.out, HW6.out⟩
          · exact ⟨_, _, rfl, fun b e => ⟨(own_lt HY.out e).2, HW1.out b e⟩, HY.out, rfl⟩
          · exact ⟨_, fun b => ∃ j, j < R'.length ∧ j ≠ q' ∧ (vs'.getD j undef).ownBlock = some b, rfl, fun b e => by obtain ⟨j, hj, hne, e⟩ := e; exact ⟨(own_lt (HA.out.rows.own j hj) e).2, HW3.out j hj hne b e⟩, fun j hj hne => ⟨HA.out.rows.own j hj, fun b e => ⟨j, hj, hne, e⟩⟩⟩
        · intro i hi a wx who hG hF
          have hz : a.tmps.size = 54 := hG.size
          have hi3 : i < 11 := hi
          have hi2 : i = 0 ∨ i = 1 ∨ i = 2 ∨ i = 3 ∨ i = 4 ∨ i = 5 ∨ i = 6 ∨ i = 7 ∨ i = 8 ∨ i = 9 ∨ i = 10 := by omega
          clear hi hi3
          rcases hi2 with rfl | rfl | rfl | rfl | rfl | rfl | rfl | rfl | rfl | rfl | rfl
          · exact rol_val rfl rfl rfl (by rw [hz]; decide) (ex_load rfl (eval_slot ((hG.slots 6 (by decide)).trans rfl)) (ld_ndll (row1 (hF 12 (by decide)).1).1)) hG.below
          · exact rol_val rfl rfl rfl (by rw [hz]; decide) (ex_move (Or.inl rfl) (eval_slot ((hG.slots 11 (by decide)).trans rfl))) hG.below
          · exact rol_val rfl rfl rfl (by rw [hz]; decide) (ex_load rfl (eval_slot ((hG.slots 6 (by decide)).trans rfl)) (ld_ndll (row1 (hF 12 (by decide)).1).1)) hG.below
          · exact rol_val rfl rfl rfl (by rw [hz]; decide) (ex_move (Or.inl rfl) (eval_slot ((hG.slots 11 (by decide)).trans rfl))) hG.below
          · exact rol_val rfl rfl rfl (by rw [hz]; decide) (ex_index rfl (eval_slot (hF 2 (by decide))) (eval_slot (hF 3 (by decide))) (HIX.out _)) hG.below
          · exact rol_val rfl rfl rfl (by rw [hz]; decide) (ex_load rfl (eval_slot (hF 4 (by decide))) (ld_ndsU (HYC.out wx (hF 11 (by decide)).1))) hG.below
          · exact rol_val rfl rfl rfl (by rw [hz]; decide) (ex_load rfl (eval_slot ((hG.slots 10 (by decide)).trans rfl)) (ld_node (row2 (hF 13 (by decide)).1).1 (row2 (hF 13 (by decide)).1).2.1)) hG.below
          · exact rol_newO rfl rfl rfl (by rw [hz]; decide) (x := .cells #[.string (mkB z1), .string (mkB z2)] 24) (v := .slice (some ⟨wx.heap.size, 0, none⟩) 1 1) (ex_slice rfl (vs := #[(0, .agg #[.string (mkB z1), .string (mkB z2)])]) (by simp only [List.map_toArray, List.map_cons, List.map_nil, eval_slot (hF 6 (by decide))]) (by go_simp)) ⟨_, rfl, rfl, heap_alloc_new _ _⟩ hG.below (Nat.le_trans HS.out hG.new)
          · obtain ⟨v, ob, hv, hob, b, rfl, rfl, hh⟩ := hF 7 (by decide)
            exact rol_app_ndW rfl rfl rfl (by rw [hz]; decide) rfl (hF 14 (by decide)) (eval_slot (hF 5 (by decide))) (eval_slot hv) (blk_ndsW hh) (by have := HFL.out; omega) hG.below (Nat.le_refl _) (Nat.le_trans HS.out hG.new) rfl rfl
          · exact rol_val rfl rfl rfl (by rw [hz]; decide) (ex_index rfl (eval_slot (hF 0 (by decide))) (eval_slot (hF 1 (by decide))) (HIX.out _)) hG.below
          · exact rol_setP rfl rfl rfl rfl (eval_slot (hF 9 (by decide))) (hF 8 (by decide)) (hF 11 (by decide)) HQC.out hG.below HLO.out
        · intro a wx who hG hF
          have hap := hF 8 (of_decide_eq_true (by kernel_rfl)) (of_decide_eq_true (by kernel_rfl))
          have hst := hF 10 (of_decide_eq_true (by kernel_rfl)) (of_decide_eq_true (by kernel_rfl))
          have hzz := hF 15 (of_decide_eq_true (by kernel_rfl)) (of_decide_eq_true (by kernel_rfl))
          have hbx := hG.below
          have hnx := hG.new
          rw [hG.frame]
          simp only [List.foldl_cons, List.foldl_nil, List.setIfInBounds_toArray, List.set_cons_zero, List.set_cons_succ]
          generalize a.tmps.getD 42 undef = u42
          generalize a.tmps.getD 43 undef = u43
          generalize a.tmps.getD 44 undef = u44
          generalize a.tmps.getD 45 undef = u45
          generalize a.tmps.getD 46 undef = u46
          generalize a.tmps.getD 47 undef = u47
          generalize a.tmps.getD 48 undef = u48
          generalize a.tmps.getD 49 undef = u49
          generalize a.tmps.getD 50 undef = u50
          generalize a.tmps.getD 51 undef = u51
          clear hF hG
          obtain ⟨va, oba, hva, hoba, hra, rfl⟩ := hap
          obtain ⟨vb, obb, hvb, -, -, hrb⟩ := hst
          have evb : va = vb := Option.some.inj (hva.symm.trans hvb)
          subst evb
          obtain ⟨_, bsz, -, hbz, hIz⟩ := hzz
          have hBN := HA.out.rows.grow HLO.out HV.out.1 HV.out.2.1 HV.out.2.2.1 HV.out.2.2.2 HQ.out hrb (by rw [HFB.out]; exact hra) (fun j hj hne => (hIz j hj hne).1) (fun j hj hne b e qq => by have h1 := (hbz b ((hIz j hj hne).2 b e)).2; have h2 := (hoba b qq).2; rw [h1] at h2; cases h2)
          rw [← HST.out] at hBN
          have hkp : ∀ x, x < g2 + 1 → wx.heap[x]? = wc.heap[x]? := fun x hx => hbx.block x hx
          have hA2 := HA.out.c2
          rw [hm', ← hm', show R'.length = R1.length by rw [HST.out, List.length_set]] at hA2
          have HN2 := Lib.hid (show AskS wx g1 g2 b (g2 + 1) (k + 1) (.slice (some ⟨gB, 0, none⟩) R1.length cB) (vs'.set q' va) K1 R1 from ⟨(hkp g1 (by have := HL.out; omega)).trans HA.out.c1, (hkp g2 (by omega)).trans hA2, HA.out.map.near (hkp b (by have := HL.out; omega)), hBN⟩)
          rw [← HK1.out, ← HR1.out] at HN2
          have HBN := Lib.hid (HB.out.trans (hbx.mono (by have := HL.out; omega)))
          have HSN := Lib.hid (Nat.le_trans HS.out hbx.size)
          clear hva hvb hoba hra hrb hbz hIz hbx hnx hBN hA2 hkp
          go_wp2
          go_roundw
          case rel => exact ⟨k + 1, _, _, by omega, by go_num, HN2, HSN, HBN⟩
          case measure => simp [intOf]; omega
    · go_wp2
      go_ret
      have e : k = n := by omega
      subst e
      have hA := HA.out
      rw [List.take_of_length_le (by rw [HN.out]; exact Nat.le_refl _)] at hA
      refine ⟨g1, g2, rfl, fun w' hw p v hpv => ?_, HB.out⟩
      have hA' := hA.below hw
      exact wans_any p v g1 g2 b _ _ _ _ _ _ (grpA f g l (p, v)) w' (row1 hA'.c1).1 (row1 hA'.c2).1 hA'.map hA'.rows hpv grpA_none rowsA_at
end Go.Proofs.YtdefphacdcbljaaGreat
