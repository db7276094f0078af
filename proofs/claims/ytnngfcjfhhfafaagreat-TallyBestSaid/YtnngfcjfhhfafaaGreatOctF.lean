/- The parts of a text, of the program and of the document; and whether two lists of texts are the same. -/
import Derived.Test.YtnngfcjfhhfafaaGreatOctE
import Derived.Lib.SmallJoins
import Derived.Laws.AppendOwnNone
namespace Go.Proofs.YtnngfcjfhhfafaaGreat
open Go.RowKit
set_option maxRecDepth 100000

/-! ### Plain lists -/
def consHead (p : List UInt8) : List (List UInt8) → List (List UInt8)
  | [] => [p]
  | h :: t => (p ++ h) :: t
/-- The parts between octets c. -/
def splitL (c : Int) : List UInt8 → List (List UInt8)
  | [] => [[]]
  | x :: xs => if (x.toNat : Int) = c then [] :: splitL c xs else consHead [x] (splitL c xs)

theorem consHead_ne (p : List UInt8) (l : List (List UInt8)) : consHead p l ≠ [] := by cases l <;> simp [consHead]
theorem splitL_ne (c : Int) (l : List UInt8) : splitL c l ≠ [] := by
  cases l with
  | nil => simp [splitL]
  | cons x xs => rw [splitL]; split
                 · simp
                 · exact consHead_ne _ _
theorem consHead_nil (l : List (List UInt8)) (h : l ≠ []) : consHead [] l = l := by cases l <;> simp_all [consHead]
theorem consHead_two (p q : List UInt8) (l : List (List UInt8)) : consHead p (consHead q l) = consHead (p ++ q) l := by cases l <;> simp [consHead]
theorem splitL_len (c : Int) (l : List UInt8) : (splitL c l).length ≤ l.length + 1 := by
  induction l with
  | nil => simp [splitL]
  | cons x xs ih =>
    rw [splitL]; split
    · simpa using ih
    · have : ∀ m : List (List UInt8), m ≠ [] → (consHead [x] m).length = m.length := by intro m hm; cases m <;> simp_all [consHead]
      rw [this _ (splitL_ne c xs)]; simp; omega

def PInv (c : Int) (l : List UInt8) (acc : List (List UInt8)) (st k : Nat) : Prop :=
  st ≤ k ∧ k ≤ l.length ∧ acc.length ≤ st ∧ acc ++ consHead ((l.drop st).take (k - st)) (splitL c (l.drop k)) = splitL c l

theorem PInv.start (c : Int) (l : List UInt8) : PInv c l [] 0 0 := ⟨Nat.le_refl _, Nat.zero_le _, Nat.zero_le _, by simp [consHead_nil _ (splitL_ne c l)]⟩
theorem PInv.hit {c : Int} {l : List UInt8} {acc : List (List UInt8)} {st k : Nat} (h : PInv c l acc st k) (hk : k < l.length) (hc : (l[k].toNat : Int) = c) :
    PInv c l (acc ++ [(l.drop st).take (k - st)]) (k + 1) (k + 1) := by
  obtain ⟨h1, h2, h3, h4⟩ := h
  refine ⟨Nat.le_refl _, hk, by simp; omega, ?_⟩
  rw [List.drop_eq_getElem_cons hk, splitL, if_pos hc] at h4
  rw [← h4]
  have e : consHead ((l.drop st).take (k - st)) ([] :: splitL c (l.drop (k + 1))) = (l.drop st).take (k - st) :: splitL c (l.drop (k + 1)) := by simp [consHead]
  rw [e, Nat.sub_self, List.take_zero, consHead_nil _ (splitL_ne c _)]
  simp
theorem PInv.miss {c : Int} {l : List UInt8} {acc : List (List UInt8)} {st k : Nat} (h : PInv c l acc st k) (hk : k < l.length) (hc : ¬ (l[k].toNat : Int) = c) :
    PInv c l acc st (k + 1) := by
  obtain ⟨h1, h2, h3, h4⟩ := h
  refine ⟨by omega, hk, h3, ?_⟩
  rw [List.drop_eq_getElem_cons hk, splitL, if_neg hc, consHead_two] at h4
  rw [← h4]
  have e : (l.drop st).take (k + 1 - st) = (l.drop st).take (k - st) ++ [l[k]] := by
    rw [show k + 1 - st = (k - st) + 1 by omega, List.take_succ_eq_append_getElem (by simp; omega)]
    congr 2
    simp [List.getElem_drop, show st + (k - st) = k by omega]
  rw [e]
theorem PInv.done {c : Int} {l : List UInt8} {acc : List (List UInt8)} {st k : Nat} (h : PInv c l acc st k) (hk : l.length ≤ k) :
    acc ++ [l.drop st] = splitL c l := by
  obtain ⟨h1, h2, h3, h4⟩ := h
  rw [List.drop_eq_nil_of_le hk] at h4
  rw [← h4]
  simp [splitL, consHead]
  rw [List.take_of_length_le (by simp; omega)]

/-! ### Texts in memory -/
def strV (l : List UInt8) : Value := .string ⟨l.toArray⟩
theorem strV_extract (s : ByteArray) (a b : Nat) : Value.string (s.extract a b) = strV ((s.data.toList.drop a).take (b - a)) := by unfold strV; rw [← Lib.extract_eq]
theorem strV_all (s : ByteArray) : Value.string s = strV s.data.toList := by unfold strV; rw [Lib.mk_data]

/-- A slice of texts, in memory: nil, empty, or cells that hold them. -/
structure Strs (w : World) (v : Value) (ls : List (List UInt8)) : Prop where
  ex : ∃ a c, v = .slice a ls.length c ∧ ls.length ≤ c ∧ c ≤ maxLen ∧ (a = none → c = 0) ∧ (0 < ls.length → ∃ b off, a = some ⟨b, off, none⟩ ∧ b < w.heap.size ∧ ∀ j, j < ls.length → w.cell? ⟨b, off + j, none⟩ = some (strV (ls.getD j [])))

theorem Strs.below {w w' : World} {v : Value} {zs : List (List UInt8)} (h : Strs w v zs) (hb : Bel w.heap.size w w') : Strs w' v zs := by
  obtain ⟨a, c, hv, h1, h2, hn, h3⟩ := h.ex
  refine ⟨a, c, hv, h1, h2, hn, fun hp => ?_⟩
  obtain ⟨b, off, ha, hlt, hc⟩ := h3 hp
  exact ⟨b, off, ha, Nat.lt_of_lt_of_le hlt hb.size, fun j hj => by rw [hb.cell (by exact hlt)]; exact hc j hj⟩
theorem Strs.drewN {w : World} {v : Value} {zs : List (List UInt8)} (n : Nat) (h : Strs w v zs) : Strs (w.drewN n) v zs := by
  obtain ⟨a, c, hv, h1, h2, hn, h3⟩ := h.ex
  refine ⟨a, c, hv, h1, h2, hn, fun hp => ?_⟩
  obtain ⟨b, off, ha, hlt, hc⟩ := h3 hp
  exact ⟨b, off, ha, by simpa using hlt, fun j hj => by have := hc j hj; simpa using this⟩

theorem Strs.owned {w : World} {base : Nat} {e : TypeId} {v : Value} {ls : List (List UInt8)} (h : w.ownsRow base e 1 v ls.length (ls.map strV)) : Strs w v ls := by
  rcases Joins.ownsRow_forms h with ⟨rfl, h0⟩ | ⟨g, cap, rfl⟩
  · have : ls = [] := List.eq_nil_of_length_eq_zero h0
    subst this
    exact ⟨none, 0, rfl, Nat.le_refl _, by unfold maxLen; omega, fun _ => rfl, fun h => absurd h (by simp)⟩
  · have hlt := h.lt g rfl
    have hcap : ls.length ≤ cap ∧ cap ≤ maxLen := by
      obtain ⟨_, h | ⟨g', cap', cur, hv, _, _, h1, h2, _⟩⟩ := h
      · cases h.1
      · injection hv with _ _ hc; subst hc; exact ⟨h1, h2⟩
    refine ⟨some ⟨g, 0, none⟩, cap, rfl, hcap.1, hcap.2, (fun h => by cases h), fun _ => ⟨g, 0, rfl, hlt.2, fun j hj => ?_⟩⟩
    rw [Nat.zero_add, h.cellAt j (by omega), List.getElem?_map, List.getD_eq_getElem?_getD, List.getElem?_eq_getElem hj]
    rfl

section
variable {P : Program}
/-- 'out = append(out, x)', out the call's own: x has just been laid in a block of its own. -/
theorem wpList_append_new {wr : World} {ops : Array Oper} {rest : List Oper} {o : Oper} {a : Act} {Q : Exit → Act → World → Prop} (hgd : Region.wanted o (yielded ops a.tmps) = true) (s x : Operand) (t : TypeId)
    (ho : o.op = .call { callee := .builtin .append, args := #[s, x], argTypes := #[t, t] })
    (base : Nat) (e : TypeId) (z : Value) (size bytes : Nat) (ht : P.underlying t = some (.slice e)) (hi : (P.info? e).map (fun i => (i.zero, i.size, i.bytes)) = some (some z, size, bytes))
    (hzs : z.cells.size = size) (hsz : 0 < size)
    (v : Value) (n : Nat) (xs : List Value) (hs : a.eval s = v) (hown : wr.ownsRow base e size v n xs)
    (news : List Value) (hx : a.eval x = .slice (some ⟨wr.heap.size, 0, none⟩) 1 1) (hl : news.length = size) (h1 : (news.all fun u => u.oneCell') = true)
    (hbytes : (n + 1) * bytes ≤ 140737488355328) (h63 : n + 1 ≤ maxLen) (hbase : base ≤ wr.heap.size)
    (h : ∀ v' w', w'.ownsRow base e size v' (n + 1) (xs ++ news) → Bel base wr w' → wpList P ops Q rest (a.put o.dst v') w') :
    wpList P ops Q (o :: rest) a (wr.alloc (.cells news.toArray e)) := by
  obtain ⟨i, hi', hz, hsize, hby⟩ := info_parts hi
  refine BigFrame.wpList_want hgd fun K hK => ?_
  refine wp_append_own_d (wr.alloc (.cells news.toArray e)) s x t ho base e i z size bytes ht hi' hz hsize hby hzs hsz v n xs hs (hown.alloc _) ⟨wr.heap.size, 0, none⟩ 1 1 news hx (by omega) ?_ ?_ h63 hbytes (by simp; omega) ?_
  · intro j u hj
    have hadd : (⟨wr.heap.size, 0, none⟩ : Addr).add j = ⟨wr.heap.size, j, none⟩ := by unfold Addr.add; split <;> simp_all
    rw [hadd]
    have hh : (wr.alloc (.cells news.toArray e)).heap[wr.heap.size]? = some (.cells news.toArray e) := heap_alloc_new _ _
    unfold World.cell?
    rw [hh]
    simpa using hj
  · intro u hu; exact List.all_eq_true.1 h1 u hu
  · intro v' w' ho' hg hd
    refine hK _ _ (h v' w' ho' ?_)
    exact ((Bel.refl base wr).alloc hbase _).grown hd hg (by simp; omega) (fun k hk => (hown.lt k hk).1)
end

section
variable {P : Program}
/-- 'out = append(out, src...)', out the call's own, src whatever slice. -/
theorem wpList_append_src {wr : World} {ops : Array Oper} {rest : List Oper} {o : Oper} {a : Act} {Q : Exit → Act → World → Prop} (hgd : Region.wanted o (yielded ops a.tmps) = true) (s x : Operand) (t : TypeId)
    (ho : o.op = .call { callee := .builtin .append, args := #[s, x], argTypes := #[t, t] })
    (base : Nat) (e : TypeId) (z : Value) (size bytes : Nat) (ht : P.underlying t = some (.slice e)) (hi : (P.info? e).map (fun i => (i.zero, i.size, i.bytes)) = some (some z, size, bytes))
    (hzs : z.cells.size = size) (hsz : 0 < size)
    (v : Value) (n : Nat) (xs : List Value) (hs : a.eval s = v) (hown : wr.ownsRow base e size v n xs)
    (a0 : Option Addr) (m c : Nat) (news : List Value) (hx : a.eval x = .slice a0 m c) (hl : news.length = m * size)
    (hnil : a0 = none → m = 0 ∧ c = 0) (hsrc : ∀ ad, a0 = some ad → ∀ j u, news[j]? = some u → wr.cell? (ad.add j) = some u) (h1 : (news.all fun u => u.oneCell') = true)
    (hbytes : (n + m) * bytes ≤ 140737488355328) (h63 : n + m ≤ maxLen) (hbase : base ≤ wr.heap.size)
    (h : ∀ v' w', w'.ownsRow base e size v' (n + m) (xs ++ news) → Bel base wr w' → wpList P ops Q rest (a.put o.dst v') w') :
    wpList P ops Q (o :: rest) a wr := by
  obtain ⟨i, hi', hz, hsize, hby⟩ := info_parts hi
  cases a0 with
  | none =>
    obtain ⟨rfl, rfl⟩ := hnil rfl
    have hn : news = [] := List.eq_nil_of_length_eq_zero (by omega)
    subst hn
    refine BigFrame.wpList_want hgd fun K hK => ?_
    have hrun := run_append_owned_none (P := P) (w := wr) base t o.type e i size ht hi' v n xs hown
    unfold Oper.wp
    simp [execOp, ho, resolve, invoke, builtin, hs, hx, hrun, Result.andThen]
    exact hK _ _ (h v wr (by simpa using hown) (Bel.refl _ _))
  | some ad =>
    refine BigFrame.wpList_want hgd fun K hK => ?_
    refine wp_append_own_d wr s x t ho base e i z size bytes ht hi' hz hsize hby hzs hsz v n xs hs hown ad m c news hx hl (hsrc ad rfl) (fun u hu => List.all_eq_true.1 h1 u hu) h63 hbytes hbase ?_
    intro v' w' ho' hg hd
    exact hK _ _ <| h v' w' ho' ((Bel.refl base wr).grown hd hg hbase (fun k hk => (hown.lt k hk).1))
end

theorem Tryz.info_str : (Tryz.prog.info? 9).map (fun i => (i.zero, i.size, i.bytes)) = some (some (.string ByteArray.empty), 1, 16) := by kernel_rfl

set_option maxHeartbeats 1000000 in
theorem parts_any (s : ByteArray) (c : Int) (w : World) (hs : s.size ≤ 1000000000) :
    Calls Tryz.prog 79 #[.string s, .int .u8 c] w fun e w' => ∃ v, e = .returned v ∧ w'.ownsRow w.heap.size 9 1 v (splitL c s.data.toList).length ((splitL c s.data.toList).map strV) ∧ Bel w.heap.size w w' := by
  have hsz := Lib.size_eq s
  have HZ := Lib.hid hsz; clear hsz
  go_enter Tryz.func79, Tryz.ntmps79
  go_wp2
  go_loopw [5, 6, 10] (fun v st i wr => ∃ (acc : List (List UInt8)) (a k : Nat), st = .int .i64 a ∧ i = .int .i64 k ∧ wr.ownsRow w.heap.size 9 1 v acc.length (acc.map strV) ∧ PInv c s.data.toList acc a k ∧ Bel w.heap.size w wr) (fun _ _ i _ => s.size - (intOf i).toNat)
  case atStart => exact ⟨[], 0, 0, rfl, rfl, World.ownsRow_nil _ _ _ _, PInv.start _ _, Bel.refl _ _⟩
  case round =>
    obtain ⟨acc, a, k, rfl, rfl, hown, hP, hbel⟩ := hrel
    have hP1 := hP.1
    have hP2 := hP.2.1
    have hP3 := hP.2.2.1
    rw [← HZ.out] at hP2
    by_cases hlt : k < s.size
    · by_cases hc : (s[k].toNat : Int) = c
      · have hb : ((s[k].toNat : Int) == c) = true := by simpa using hc
        have hP' := hP.hit (by rw [← HZ.out]; exact hlt) hc
        have HP := Lib.hid hP'; clear hP' hP
        have HC := Lib.hid hc; clear hc
        go_wp2_with (at_builtin; refine wpList_append_new rfl _ _ 56 rfl w.heap.size 9 (.string ByteArray.empty) 1 16 Tryz.underlying56 Tryz.info_str rfl (by decide) _ _ _ rfl hown [.string (s.extract a k)] rfl rfl rfl (by omega) (by unfold maxLen; omega) hbel.size ?_)
        intro v' w' hown' hb'
        rw [strV_extract] at hown'
        have ho2 : w'.ownsRow w.heap.size 9 1 v' (acc ++ [List.take (k - a) (List.drop a s.data.toList)]).length ((acc ++ [List.take (k - a) (List.drop a s.data.toList)]).map strV) := by simpa using hown'
        have HO := Lib.hid ho2; clear ho2 hown' hown
        have hbel' := hbel.trans hb'
        clear hb' hbel
        go_wp2
        go_roundw
        case rel => exact ⟨_, k + 1, k + 1, by go_num, by go_num, HO.out, HP.out, hbel'⟩
        case measure => simp [intOf]; omega
      · have hb : ((s[k].toNat : Int) == c) = false := by simpa using hc
        have hP' := hP.miss (by rw [← HZ.out]; exact hlt) hc
        have HP := Lib.hid hP'; clear hP' hP hc
        go_wp2
        go_roundw
        case rel => exact ⟨acc, a, k + 1, rfl, by go_num, hown, HP.out, hbel⟩
        case measure => simp [intOf]; omega
    · have hP' := hP.done (by rw [← HZ.out]; omega)
      have HP := Lib.hid hP'; clear hP' hP
      go_wp2_with (at_builtin; refine wpList_append_new rfl _ _ 56 rfl w.heap.size 9 (.string ByteArray.empty) 1 16 Tryz.underlying56 Tryz.info_str rfl (by decide) _ _ _ rfl hown [.string (s.extract a s.size)] rfl rfl rfl (by omega) (by unfold maxLen; omega) hbel.size ?_)
      intro v' w' hown' hb'
      rw [strV_extract] at hown'
      have e1 : List.take (s.size - a) (List.drop a s.data.toList) = List.drop a s.data.toList := List.take_of_length_le (by simp)
      rw [e1] at hown'
      have ho2 : w'.ownsRow w.heap.size 9 1 v' (acc ++ [List.drop a s.data.toList]).length ((acc ++ [List.drop a s.data.toList]).map strV) := by simpa using hown'
      rw [HP.out] at ho2
      have HO := Lib.hid ho2; clear ho2 hown' hown e1
      have hbel' := hbel.trans hb'
      clear hb' hbel
      go_wp2
      go_ret
      exact ⟨_, rfl, HO.out, hbel'⟩
set_option maxHeartbeats 1000000 in
theorem refparts_any (s : ByteArray) (c : Int) (w : World) (hs : s.size ≤ 1000000000) :
    Calls Tryz.prog 53 #[.string s, .int .u8 c] w fun e w' => ∃ v, e = .returned v ∧ w'.ownsRow w.heap.size 9 1 v (splitL c s.data.toList).length ((splitL c s.data.toList).map strV) ∧ Bel w.heap.size w w' := by
  have hsz := Lib.size_eq s
  have HZ := Lib.hid hsz; clear hsz
  go_enter Tryz.func53, Tryz.ntmps53
  go_wp2
  go_loopw [5, 6, 7] (fun v st i wr => ∃ (acc : List (List UInt8)) (a k : Nat), st = .int .i64 a ∧ i = .int .i64 k ∧ wr.ownsRow w.heap.size 9 1 v acc.length (acc.map strV) ∧ PInv c s.data.toList acc a k ∧ Bel w.heap.size w wr) (fun _ _ i _ => s.size - (intOf i).toNat)
  case atStart => exact ⟨[], 0, 0, rfl, rfl, World.ownsRow_nil _ _ _ _, PInv.start _ _, Bel.refl _ _⟩
  case round =>
    obtain ⟨acc, a, k, rfl, rfl, hown, hP, hbel⟩ := hrel
    have hP1 := hP.1
    have hP2 := hP.2.1
    have hP3 := hP.2.2.1
    rw [← HZ.out] at hP2
    by_cases hlt : k < s.size
    · by_cases hc : (s[k].toNat : Int) = c
      · have hb : ((s[k].toNat : Int) == c) = true := by simpa using hc
        have hP' := hP.hit (by rw [← HZ.out]; exact hlt) hc
        have HP := Lib.hid hP'; clear hP' hP
        have HC := Lib.hid hc; clear hc
        go_wp2_with (at_builtin; refine wpList_append_new rfl _ _ 56 rfl w.heap.size 9 (.string ByteArray.empty) 1 16 Tryz.underlying56 Tryz.info_str rfl (by decide) _ _ _ rfl hown [.string (s.extract a k)] rfl rfl rfl (by omega) (by unfold maxLen; omega) hbel.size ?_)
        intro v' w' hown' hb'
        rw [strV_extract] at hown'
        have ho2 : w'.ownsRow w.heap.size 9 1 v' (acc ++ [List.take (k - a) (List.drop a s.data.toList)]).length ((acc ++ [List.take (k - a) (List.drop a s.data.toList)]).map strV) := by simpa using hown'
        have HO := Lib.hid ho2; clear ho2 hown' hown
        have hbel' := hbel.trans hb'
        clear hb' hbel
        go_wp2
        go_roundw
        case rel => exact ⟨_, k + 1, k + 1, by go_num, by go_num, HO.out, HP.out, hbel'⟩
        case measure => simp [intOf]; omega
      · have hb : ((s[k].toNat : Int) == c) = false := by simpa using hc
        have hP' := hP.miss (by rw [← HZ.out]; exact hlt) hc
        have HP := Lib.hid hP'; clear hP' hP hc
        go_wp2
        go_roundw
        case rel => exact ⟨acc, a, k + 1, rfl, by go_num, hown, HP.out, hbel⟩
        case measure => simp [intOf]; omega
    · have hP' := hP.done (by rw [← HZ.out]; omega)
      have HP := Lib.hid hP'; clear hP' hP
      go_wp2_with (at_builtin; refine wpList_append_new rfl _ _ 56 rfl w.heap.size 9 (.string ByteArray.empty) 1 16 Tryz.underlying56 Tryz.info_str rfl (by decide) _ _ _ rfl hown [.string (s.extract a s.size)] rfl rfl rfl (by omega) (by unfold maxLen; omega) hbel.size ?_)
      intro v' w' hown' hb'
      rw [strV_extract] at hown'
      have e1 : List.take (s.size - a) (List.drop a s.data.toList) = List.drop a s.data.toList := List.take_of_length_le (by simp)
      rw [e1] at hown'
      have ho2 : w'.ownsRow w.heap.size 9 1 v' (acc ++ [List.drop a s.data.toList]).length ((acc ++ [List.drop a s.data.toList]).map strV) := by simpa using hown'
      rw [HP.out] at ho2
      have HO := Lib.hid ho2; clear ho2 hown' hown e1
      have hbel' := hbel.trans hb'
      clear hb' hbel
      go_wp2
      go_ret
      exact ⟨_, rfl, HO.out, hbel'⟩
/-- Are two lists of texts the same? -/
def sameB (a b : List (List UInt8)) : Bool := decide (a = b)

set_option maxHeartbeats 1000000 in
theorem same_any (u v : Value) (a b : List (List UInt8)) (w : World) (ha : Strs w u a) (hb : Strs w v b) :
    Calls Tryz.prog 48 #[u, v] w fun e w' => e = .returned (.bool (sameB a b)) ∧ ∃ n, w' = w.drewN n := by
  obtain ⟨pa, ca, rfl, ha1, ha2, _, ha3⟩ := ha.ex
  obtain ⟨pb, cb, rfl, hb1, hb2, _, hb3⟩ := hb.ex
  clear ha hb
  unfold maxLen at ha2 hb2
  have HA := Lib.hid ha3; have HB := Lib.hid hb3; clear ha3 hb3
  by_cases hl : a.length = b.length
  · have h0 : ((a.length : Int) != (b.length : Int)) = false := by simp [hl]
    have HL := Lib.hid hl; clear hl
    go_enter Tryz.func48, Tryz.ntmps48
    go_wp2
    go_loopw [5] (fun i wr => ∃ k : Nat, k ≤ a.length ∧ i = .int .i64 k ∧ Hid (a.take k = b.take k) ∧ ∃ n, wr = w.drewN n) (fun i _ => a.length - (intOf i).toNat)
    case atStart => exact ⟨0, Nat.zero_le _, rfl, Lib.hid (by simp), 0, rfl⟩
    case round =>
      obtain ⟨k, hk, rfl, H, n, rfl⟩ := hrel
      by_cases hlt : k < a.length
      · have hlb : k < b.length := by rw [← HL.out]; exact hlt
        obtain ⟨ba, oa, hpa, _, hca⟩ := HA.out (by omega)
        obtain ⟨bb, ob, hpb, _, hcb⟩ := HB.out (by omega)
        subst hpa hpb
        have hc1 := hca k hlt
        have hc2 := hcb k hlb
        clear hca hcb
        unfold strV at hc1 hc2
        obtain ⟨x, hx⟩ : ∃ x : ByteArray, x = ⟨(a.getD k []).toArray⟩ := ⟨_, rfl⟩
        obtain ⟨y, hy⟩ : ∃ y : ByteArray, y = ⟨(b.getD k []).toArray⟩ := ⟨_, rfl⟩
        rw [← hx] at hc1
        rw [← hy] at hc2
        have HX := Lib.hid hx; have HY := Lib.hid hy; clear hx hy
        go_wp2
        go_quiet (fail)
        go_wp2
        · have h9 : (!x.toList == y.toList) = true := by assumption
          go_ret
          refine ⟨ret_bool ?_, drew2 _ _ _⟩
          unfold sameB
          rw [eq_comm, decide_eq_false_iff_not]
          intro e
          subst e
          rw [HX.out, HY.out] at h9
          simp at h9
        · have h9 : (!x.toList == y.toList) = false := by assumption
          have h8 : a.getD k [] = b.getD k [] := by
            rw [HX.out, HY.out] at h9
            simp [Lib.toList_data] at h9
            simpa [List.getD_eq_getElem?_getD] using h9
          have h7 : a.take (k + 1) = b.take (k + 1) := by
            rw [List.take_succ_eq_append_getElem hlt, List.take_succ_eq_append_getElem hlb, H.out]
            have ea : a.getD k [] = a[k] := by simp [List.getD_eq_getElem?_getD, List.getElem?_eq_getElem hlt]
            have eb : b.getD k [] = b[k] := by simp [List.getD_eq_getElem?_getD, List.getElem?_eq_getElem hlb]
            rw [← ea, ← eb, h8]
          have H7 := Lib.hid h7; clear h7 h8 h9
          go_roundw
          case rel => exact ⟨k + 1, by omega, by go_num, H7, _, rfl⟩
          case measure => simp [intOf]; omega
      · go_wp2
        go_ret
        have e : a = b := by
          have h5 := H.out
          rw [List.take_of_length_le (by omega), List.take_of_length_le (by have := HL.out; omega)] at h5
          exact h5
        exact ⟨ret_bool (by simp [sameB, e]), _, rfl⟩
  · have h0 : ((a.length : Int) != (b.length : Int)) = true := by simp; omega
    have HL := Lib.hid hl; clear hl
    go_enter Tryz.func48, Tryz.ntmps48
    go_wp2
    go_ret
    exact ⟨ret_bool (by unfold sameB; rw [decide_eq_false]; intro e; exact HL.out (by rw [e])), 0, rfl⟩
end Go.Proofs.YtnngfcjfhhfafaaGreat
