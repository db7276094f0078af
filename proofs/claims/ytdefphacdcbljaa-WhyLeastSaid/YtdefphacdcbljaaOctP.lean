/- THE TEXTS OF OctF OctP: The parts of a text, of the program and of the document; and whether two lists of texts are the same. THE TEXTS OF OctG OctH OctN OctP: The chapter's examples hold, in every world. Aids of the laws of octet: what comes in, and what the calls leave. Parts, put together, are the text: plain facts. Texts as lists of octets; parts, and what is put together: plain facts, and what the statements look at of a text. -/
import Derived.Test.YtdefphacdcbljaaOctE
import Derived.Lib.SmallJoins
import Derived.Laws.AppendOwnNone
import Derived.OpenShut
import Derived.Laws.BytesArg
import Derived.Test.YtdefphacdcbljaaOctM
import Derived.Lib.Join
namespace Go.Proofs.Ytdefphacdcbljaa
open Go.RowKit
set_option maxRecDepth 100000

/-! ### Plain lists -/
def consHead (p : List UInt8) : List (List UInt8) → List (List UInt8)
  | [] => [p]
  | h :: t => (p ++ h) :: t
/-- The parts between octets c. -/
def splitL (c : Int) : List UInt8 → List (List UInt8)
  | [] => [[]]
  | x :: xs => if (x.toNat : Int) = c then [] :: splitL c xs else consHead [x] (splitL c xs)

theorem consHead_ne (p : List UInt8) (l : List (List UInt8)) : consHead p l ≠ [] := by cases l <;> simp [consHead]
theorem splitL_ne (c : Int) (l : List UInt8) : splitL c l ≠ [] := by
  cases l with
  | nil => simp [splitL]
  | cons x xs => rw [splitL]; split
                 · simp
                 · exact consHead_ne _ _
theorem consHead_nil (l : List (List UInt8)) (h : l ≠ []) : consHead [] l = l := by cases l <;> simp_all [consHead]
theorem consHead_two (p q : List UInt8) (l : List (List UInt8)) : consHead p (consHead q l) = consHead (p ++ q) l := by cases l <;> simp [consHead]
theorem splitL_len (c : Int) (l : List UInt8) : (splitL c l).length ≤ l.length + 1 := by
  induction l with
  | nil => simp [splitL]
  | cons x xs ih =>
    rw [splitL]; split
    · simpa using ih
    · have : ∀ m : List (List UInt8), m ≠ [] → (consHead [x] m).length = m.length := by intro m hm; cases m <;> simp_all [consHead]
      rw [this _ (splitL_ne c xs)]; simp; omega

def PInv (c : Int) (l : List UInt8) (acc : List (List UInt8)) (st k : Nat) : Prop :=
  st ≤ k ∧ k ≤ l.length ∧ acc.length ≤ st ∧ acc ++ consHead ((l.drop st).take (k - st)) (splitL c (l.drop k)) = splitL c l

theorem PInv.start (c : Int) (l : List UInt8) : PInv c l [] 0 0 := ⟨Nat.le_refl _, Nat.zero_le _, Nat.zero_le _, by simp [consHead_nil _ (splitL_ne c l)]⟩
theorem PInv.hit {c : Int} {l : List UInt8} {acc : List (List UInt8)} {st k : Nat} (h : PInv c l acc st k) (hk : k < l.length) (hc : (l[k].toNat : Int) = c) :
    PInv c l (acc ++ [(l.drop st).take (k - st)]) (k + 1) (k + 1) := by
  obtain ⟨h1, h2, h3, h4⟩ := h
  refine ⟨Nat.le_refl _, hk, by simp; omega, ?_⟩
  rw [List.drop_eq_getElem_cons hk, splitL, if_pos hc] at h4
  rw [← h4]
  have e : consHead ((l.drop st).take (k - st)) ([] :: splitL c (l.drop (k + 1))) = (l.drop st).take (k - st) :: splitL c (l.drop (k + 1)) := by simp [consHead]
  rw [e, Nat.sub_self, List.take_zero, consHead_nil _ (splitL_ne c _)]
  simp
theorem PInv.miss {c : Int} {l : List UInt8} {acc : List (List UInt8)} {st k : Nat} (h : PInv c l acc st k) (hk : k < l.length) (hc : ¬ (l[k].toNat : Int) = c) :
    PInv c l acc st (k + 1) := by
  obtain ⟨h1, h2, h3, h4⟩ := h
  refine ⟨by omega, hk, h3, ?_⟩
  rw [List.drop_eq_getElem_cons hk, splitL, if_neg hc, consHead_two] at h4
  rw [← h4]
  have e : (l.drop st).take (k + 1 - st) = (l.drop st).take (k - st) ++ [l[k]] := by
    rw [show k + 1 - st = (k - st) + 1 by omega, List.take_succ_eq_append_getElem (by simp; omega)]
    congr 2
    simp [List.getElem_drop, show st + (k - st) = k by omega]
  rw [e]
theorem PInv.done {c : Int} {l : List UInt8} {acc : List (List UInt8)} {st k : Nat} (h : PInv c l acc st k) (hk : l.length ≤ k) :
    acc ++ [l.drop st] = splitL c l := by
  obtain ⟨h1, h2, h3, h4⟩ := h
  rw [List.drop_eq_nil_of_le hk] at h4
  rw [← h4]
  simp [splitL, consHead]
  rw [List.take_of_length_le (by simp; omega)]

/-! ### Texts in memory -/
def strV (l : List UInt8) : Value := .string ⟨l.toArray⟩
theorem strV_extract (s : ByteArray) (a b : Nat) : Value.string (s.extract a b) = strV ((s.data.toList.drop a).take (b - a)) := by unfold strV; rw [← Lib.extract_eq]
theorem strV_all (s : ByteArray) : Value.string s = strV s.data.toList := by unfold strV; rw [Lib.mk_data]

/-- A slice of texts, in memory: nil, empty, or cells that hold them. -/
structure Strs (w : World) (v : Value) (ls : List (List UInt8)) : Prop where
  ex : ∃ a c, v = .slice a ls.length c ∧ ls.length ≤ c ∧ c ≤ maxLen ∧ (a = none → c = 0) ∧ (0 < ls.length → ∃ b off, a = some ⟨b, off, none⟩ ∧ b < w.heap.size ∧ ∀ j, j < ls.length → w.cell? ⟨b, off + j, none⟩ = some (strV (ls.getD j [])))

theorem Strs.below {w w' : World} {v : Value} {zs : List (List UInt8)} (h : Strs w v zs) (hb : Bel w.heap.size w w') : Strs w' v zs := by
  obtain ⟨a, c, hv, h1, h2, hn, h3⟩ := h.ex
  refine ⟨a, c, hv, h1, h2, hn, fun hp => ?_⟩
  obtain ⟨b, off, ha, hlt, hc⟩ := h3 hp
  exact ⟨b, off, ha, Nat.lt_of_lt_of_le hlt hb.size, fun j hj => by rw [hb.cell (by exact hlt)]; exact hc j hj⟩
theorem Strs.drewN {w : World} {v : Value} {zs : List (List UInt8)} (n : Nat) (h : Strs w v zs) : Strs (w.drewN n) v zs := by
  obtain ⟨a, c, hv, h1, h2, hn, h3⟩ := h.ex
  refine ⟨a, c, hv, h1, h2, hn, fun hp => ?_⟩
  obtain ⟨b, off, ha, hlt, hc⟩ := h3 hp
  exact ⟨b, off, ha, by simpa using hlt, fun j hj => by have := hc j hj; simpa using this⟩

theorem Strs.owned {w : World} {base : Nat} {e : TypeId} {v : Value} {ls : List (List UInt8)} (h : w.ownsRow base e 1 v ls.length (ls.map strV)) : Strs w v ls := by
  rcases Joins.ownsRow_forms h with ⟨rfl, h0⟩ | ⟨g, cap, rfl⟩
  · have : ls = [] := List.eq_nil_of_length_eq_zero h0
    subst this
    exact ⟨none, 0, rfl, Nat.le_refl _, by unfold maxLen; omega, fun _ => rfl, fun h => absurd h (by simp)⟩
  · have hlt := h.lt g rfl
    have hcap : ls.length ≤ cap ∧ cap ≤ maxLen := by
      obtain ⟨_, h | ⟨g', cap', cur, hv, _, _, h1, h2, _⟩⟩ := h
      · cases h.1
      · injection hv with _ _ hc; subst hc; exact ⟨h1, h2⟩
    refine ⟨some ⟨g, 0, none⟩, cap, rfl, hcap.1, hcap.2, (fun h => by cases h), fun _ => ⟨g, 0, rfl, hlt.2, fun j hj => ?_⟩⟩
    rw [Nat.zero_add, h.cellAt j (by omega), List.getElem?_map, List.getD_eq_getElem?_getD, List.getElem?_eq_getElem hj]
    rfl

section
variable {P : Program}
/-- 'out = append(out, x)', out the call's own: x has just been laid in a block of its own. -/
theorem wpList_append_new {wr : World} {ops : Array Oper} {rest : List Oper} {o : Oper} {a : Act} {Q : Exit → Act → World → Prop} (hgd : Region.wanted o (yielded ops a.tmps) = true) (s x : Operand) (t : TypeId)
    (ho : o.op = .call { callee := .builtin .append, args := #[s, x], argTypes := #[t, t] })
    (base : Nat) (e : TypeId) (z : Value) (size bytes : Nat) (ht : P.underlying t = some (.slice e)) (hi : (P.info? e).map (fun i => (i.zero, i.size, i.bytes)) = some (some z, size, bytes))
    (hzs : z.cells.size = size) (hsz : 0 < size)
    (v : Value) (n : Nat) (xs : List Value) (hs : a.eval s = v) (hown : wr.ownsRow base e size v n xs)
    (news : List Value) (hx : a.eval x = .slice (some ⟨wr.heap.size, 0, none⟩) 1 1) (hl : news.length = size) (h1 : (news.all fun u => u.oneCell') = true)
    (hbytes : (n + 1) * bytes ≤ 140737488355328) (h63 : n + 1 ≤ maxLen) (hbase : base ≤ wr.heap.size)
    (h : ∀ v' w', w'.ownsRow base e size v' (n + 1) (xs ++ news) → Bel base wr w' → wpList P ops Q rest (a.put o.dst v') w') :
    wpList P ops Q (o :: rest) a (wr.alloc (.cells news.toArray e)) := by
  obtain ⟨i, hi', hz, hsize, hby⟩ := info_parts hi
  refine BigFrame.wpList_want hgd fun K hK => ?_
  refine wp_append_own_d (wr.alloc (.cells news.toArray e)) s x t ho base e i z size bytes ht hi' hz hsize hby hzs hsz v n xs hs (hown.alloc _) ⟨wr.heap.size, 0, none⟩ 1 1 news hx (by omega) ?_ ?_ h63 hbytes (by simp; omega) ?_
  · intro j u hj
    have hadd : (⟨wr.heap.size, 0, none⟩ : Addr).add j = ⟨wr.heap.size, j, none⟩ := by unfold Addr.add; split <;> simp_all
    rw [hadd]
    have hh : (wr.alloc (.cells news.toArray e)).heap[wr.heap.size]? = some (.cells news.toArray e) := heap_alloc_new _ _
    unfold World.cell?
    rw [hh]
    simpa using hj
  · intro u hu; exact List.all_eq_true.1 h1 u hu
  · intro v' w' ho' hg hd
    refine hK _ _ (h v' w' ho' ?_)
    exact ((Bel.refl base wr).alloc hbase _).grown hd hg (by simp; omega) (fun k hk => (hown.lt k hk).1)
end

section
variable {P : Program}
/-- 'out = append(out, src...)', out the call's own, src whatever slice. -/
theorem wpList_append_src {wr : World} {ops : Array Oper} {rest : List Oper} {o : Oper} {a : Act} {Q : Exit → Act → World → Prop} (hgd : Region.wanted o (yielded ops a.tmps) = true) (s x : Operand) (t : TypeId)
    (ho : o.op = .call { callee := .builtin .append, args := #[s, x], argTypes := #[t, t] })
    (base : Nat) (e : TypeId) (z : Value) (size bytes : Nat) (ht : P.underlying t = some (.slice e)) (hi : (P.info? e).map (fun i => (i.zero, i.size, i.bytes)) = some (some z, size, bytes))
    (hzs : z.cells.size = size) (hsz : 0 < size)
    (v : Value) (n : Nat) (xs : List Value) (hs : a.eval s = v) (hown : wr.ownsRow base e size v n xs)
    (a0 : Option Addr) (m c : Nat) (news : List Value) (hx : a.eval x = .slice a0 m c) (hl : news.length = m * size)
    (hnil : a0 = none → m = 0 ∧ c = 0) (hsrc : ∀ ad, a0 = some ad → ∀ j u, news[j]? = some u → wr.cell? (ad.add j) = some u) (h1 : (news.all fun u => u.oneCell') = true)
    (hbytes : (n + m) * bytes ≤ 140737488355328) (h63 : n + m ≤ maxLen) (hbase : base ≤ wr.heap.size)
    (h : ∀ v' w', w'.ownsRow base e size v' (n + m) (xs ++ news) → Bel base wr w' → wpList P ops Q rest (a.put o.dst v') w') :
    wpList P ops Q (o :: rest) a wr := by
  obtain ⟨i, hi', hz, hsize, hby⟩ := info_parts hi
  cases a0 with
  | none =>
    obtain ⟨rfl, rfl⟩ := hnil rfl
    have hn : news = [] := List.eq_nil_of_length_eq_zero (by omega)
    subst hn
    refine BigFrame.wpList_want hgd fun K hK => ?_
    have hrun := run_append_owned_none (P := P) (w := wr) base t o.type e i size ht hi' v n xs hown
    unfold Oper.wp
    simp [execOp, ho, resolve, invoke, builtin, hs, hx, hrun, Result.andThen]
    exact hK _ _ (h v wr (by simpa using hown) (Bel.refl _ _))
  | some ad =>
    refine BigFrame.wpList_want hgd fun K hK => ?_
    refine wp_append_own_d wr s x t ho base e i z size bytes ht hi' hz hsize hby hzs hsz v n xs hs hown ad m c news hx hl (hsrc ad rfl) (fun u hu => List.all_eq_true.1 h1 u hu) h63 hbytes hbase ?_
    intro v' w' ho' hg hd
    exact hK _ _ <| h v' w' ho' ((Bel.refl base wr).grown hd hg hbase (fun k hk => (hown.lt k hk).1))
end

theorem Try.info_str : (Try.prog.info? 9).map (fun i => (i.zero, i.size, i.bytes)) = some (some (.string ByteArray.empty), 1, 16) := by kernel_rfl

set_option maxHeartbeats 1000000 in
theorem parts_any (s : ByteArray) (c : Int) (w : World) (hs : s.size ≤ 1000000000) :
    Calls Try.prog 55 #[.string s, .int .u8 c] w fun e w' => ∃ v, e = .returned v ∧ w'.ownsRow w.heap.size 9 1 v (splitL c s.data.toList).length ((splitL c s.data.toList).map strV) ∧ Bel w.heap.size w w' := by
  have hsz := Lib.size_eq s
  have HZ := Lib.hid hsz; clear hsz
  go_enter Try.func55, Try.ntmps55
  go_wp2
  go_loopw [5, 6, 10] (fun v st i wr => ∃ (acc : List (List UInt8)) (a k : Nat), st = .int .i64 a ∧ i = .int .i64 k ∧ wr.ownsRow w.heap.size 9 1 v acc.length (acc.map strV) ∧ PInv c s.data.toList acc a k ∧ Bel w.heap.size w wr) (fun _ _ i _ => s.size - (intOf i).toNat)
  case atStart => exact ⟨[], 0, 0, rfl, rfl, World.ownsRow_nil _ _ _ _, PInv.start _ _, Bel.refl _ _⟩
  case round =>
    obtain ⟨acc, a, k, rfl, rfl, hown, hP, hbel⟩ := hrel
    have hP1 := hP.1
    have hP2 := hP.2.1
    have hP3 := hP.2.2.1
    rw [← HZ.out] at hP2
    by_cases hlt : k < s.size
    · by_cases hc : (s[k].toNat : Int) = c
      · have hb : ((s[k].toNat : Int) == c) = true := by simpa using hc
        have hP' := hP.hit (by rw [← HZ.out]; exact hlt) hc
        have HP := Lib.hid hP'; clear hP' hP
        have HC := Lib.hid hc; clear hc
        go_wp2_with (at_builtin; refine wpList_append_new rfl _ _ 70 rfl w.heap.size 9 (.string ByteArray.empty) 1 16 Try.underlying70 Try.info_str rfl (by decide) _ _ _ rfl hown [.string (s.extract a k)] rfl rfl rfl (by omega) (by unfold maxLen; omega) hbel.size ?_)
        intro v' w' hown' hb'
        rw [strV_extract] at hown'
        have ho2 : w'.ownsRow w.heap.size 9 1 v' (acc ++ [List.take (k - a) (List.drop a s.data.toList)]).length ((acc ++ [List.take (k - a) (List.drop a s.data.toList)]).map strV) := by simpa using hown'
        have HO := Lib.hid ho2; clear ho2 hown' hown
        have hbel' := hbel.trans hb'
        clear hb' hbel
        go_wp2
        go_roundw
        case rel => exact ⟨_, k + 1, k + 1, by go_num, by go_num, HO.out, HP.out, hbel'⟩
        case measure => simp [intOf]; omega
      · have hb : ((s[k].toNat : Int) == c) = false := by simpa using hc
        have hP' := hP.miss (by rw [← HZ.out]; exact hlt) hc
        have HP := Lib.hid hP'; clear hP' hP hc
        go_wp2
        go_roundw
        case rel => exact ⟨acc, a, k + 1, rfl, by go_num, hown, HP.out, hbel⟩
        case measure => simp [intOf]; omega
    · have hP' := hP.done (by rw [← HZ.out]; omega)
      have HP := Lib.hid hP'; clear hP' hP
      go_wp2_with (at_builtin; refine wpList_append_new rfl _ _ 70 rfl w.heap.size 9 (.string ByteArray.empty) 1 16 Try.underlying70 Try.info_str rfl (by decide) _ _ _ rfl hown [.string (s.extract a s.size)] rfl rfl rfl (by omega) (by unfold maxLen; omega) hbel.size ?_)
      intro v' w' hown' hb'
      rw [strV_extract] at hown'
      have e1 : List.take (s.size - a) (List.drop a s.data.toList) = List.drop a s.data.toList := List.take_of_length_le (by simp)
      rw [e1] at hown'
      have ho2 : w'.ownsRow w.heap.size 9 1 v' (acc ++ [List.drop a s.data.toList]).length ((acc ++ [List.drop a s.data.toList]).map strV) := by simpa using hown'
      rw [HP.out] at ho2
      have HO := Lib.hid ho2; clear ho2 hown' hown e1
      have hbel' := hbel.trans hb'
      clear hb' hbel
      go_wp2
      go_ret
      exact ⟨_, rfl, HO.out, hbel'⟩
set_option maxHeartbeats 1000000 in
theorem refparts_any (s : ByteArray) (c : Int) (w : World) (hs : s.size ≤ 1000000000) :
    Calls Try.prog 43 #[.string s, .int .u8 c] w fun e w' => ∃ v, e = .returned v ∧ w'.ownsRow w.heap.size 9 1 v (splitL c s.data.toList).length ((splitL c s.data.toList).map strV) ∧ Bel w.heap.size w w' := by
  have hsz := Lib.size_eq s
  have HZ := Lib.hid hsz; clear hsz
  go_enter Try.func43, Try.ntmps43
  go_wp2
  go_loopw [5, 6, 7] (fun v st i wr => ∃ (acc : List (List UInt8)) (a k : Nat), st = .int .i64 a ∧ i = .int .i64 k ∧ wr.ownsRow w.heap.size 9 1 v acc.length (acc.map strV) ∧ PInv c s.data.toList acc a k ∧ Bel w.heap.size w wr) (fun _ _ i _ => s.size - (intOf i).toNat)
  case atStart => exact ⟨[], 0, 0, rfl, rfl, World.ownsRow_nil _ _ _ _, PInv.start _ _, Bel.refl _ _⟩
  case round =>
    obtain ⟨acc, a, k, rfl, rfl, hown, hP, hbel⟩ := hrel
    have hP1 := hP.1
    have hP2 := hP.2.1
    have hP3 := hP.2.2.1
    rw [← HZ.out] at hP2
    by_cases hlt : k < s.size
    · by_cases hc : (s[k].toNat : Int) = c
      · have hb : ((s[k].toNat : Int) == c) = true := by simpa using hc
        have hP' := hP.hit (by rw [← HZ.out]; exact hlt) hc
        have HP := Lib.hid hP'; clear hP' hP
        have HC := Lib.hid hc; clear hc
        go_wp2_with (at_builtin; refine wpList_append_new rfl _ _ 70 rfl w.heap.size 9 (.string ByteArray.empty) 1 16 Try.underlying70 Try.info_str rfl (by decide) _ _ _ rfl hown [.string (s.extract a k)] rfl rfl rfl (by omega) (by unfold maxLen; omega) hbel.size ?_)
        intro v' w' hown' hb'
        rw [strV_extract] at hown'
        have ho2 : w'.ownsRow w.heap.size 9 1 v' (acc ++ [List.take (k - a) (List.drop a s.data.toList)]).length ((acc ++ [List.take (k - a) (List.drop a s.data.toList)]).map strV) := by simpa using hown'
        have HO := Lib.hid ho2; clear ho2 hown' hown
        have hbel' := hbel.trans hb'
        clear hb' hbel
        go_wp2
        go_roundw
        case rel => exact ⟨_, k + 1, k + 1, by go_num, by go_num, HO.out, HP.out, hbel'⟩
        case measure => simp [intOf]; omega
      · have hb : ((s[k].toNat : Int) == c) = false := by simpa using hc
        have hP' := hP.miss (by rw [← HZ.out]; exact hlt) hc
        have HP := Lib.hid hP'; clear hP' hP hc
        go_wp2
        go_roundw
        case rel => exact ⟨acc, a, k + 1, rfl, by go_num, hown, HP.out, hbel⟩
        case measure => simp [intOf]; omega
    · have hP' := hP.done (by rw [← HZ.out]; omega)
      have HP := Lib.hid hP'; clear hP' hP
      go_wp2_with (at_builtin; refine wpList_append_new rfl _ _ 70 rfl w.heap.size 9 (.string ByteArray.empty) 1 16 Try.underlying70 Try.info_str rfl (by decide) _ _ _ rfl hown [.string (s.extract a s.size)] rfl rfl rfl (by omega) (by unfold maxLen; omega) hbel.size ?_)
      intro v' w' hown' hb'
      rw [strV_extract] at hown'
      have e1 : List.take (s.size - a) (List.drop a s.data.toList) = List.drop a s.data.toList := List.take_of_length_le (by simp)
      rw [e1] at hown'
      have ho2 : w'.ownsRow w.heap.size 9 1 v' (acc ++ [List.drop a s.data.toList]).length ((acc ++ [List.drop a s.data.toList]).map strV) := by simpa using hown'
      rw [HP.out] at ho2
      have HO := Lib.hid ho2; clear ho2 hown' hown e1
      have hbel' := hbel.trans hb'
      clear hb' hbel
      go_wp2
      go_ret
      exact ⟨_, rfl, HO.out, hbel'⟩
/-- Are two lists of texts the same? -/
def sameB (a b : List (List UInt8)) : Bool := decide (a = b)

end Go.Proofs.Ytdefphacdcbljaa

namespace Go.Proofs.Ytdefphacdcbljaa
open Go.RowKit
set_option maxRecDepth 100000

theorem parts_awake (w : World) :
    Calls Try.prog 55 #[.string ⟨#[97, 47, 47, 98]⟩, .int .u8 47] w fun e w' => ∃ g cap, e = .returned (.slice (some ⟨g, 0, none⟩) 3 cap) ∧ g < w'.heap.size ∧
      w'.cell? ⟨g, 0, none⟩ = some (.string ⟨#[97]⟩) ∧ w'.cell? ⟨g, 1, none⟩ = some (.string ⟨#[]⟩) ∧ w'.cell? ⟨g, 2, none⟩ = some (.string ⟨#[98]⟩) ∧ Bel w.heap.size w w' := by
  refine (parts_any ⟨#[97, 47, 47, 98]⟩ 47 w (by decide)).mono ?_
  rintro e w' ⟨v, rfl, hown, hb⟩
  have e1 : splitL 47 [97, 47, 47, 98] = [[97], [], [98]] := by decide
  simp only [e1] at hown
  obtain ⟨g, cap, rfl⟩ := Joins.ownsRow_form hown (by decide)
  exact ⟨g, cap, rfl, (hown.lt g rfl).2, hown.cellAt 0 (by decide), hown.cellAt 1 (by decide), hown.cellAt 2 (by decide), hb⟩

theorem cmp_awake (w : World) :
    Calls Try.prog 60 #[.string ⟨#[97, 98]⟩, .string ⟨#[97, 98, 99]⟩] w fun e w' => e = .returned (.int .i64 (-1)) ∧ w = w' :=
  (cmp_any ⟨#[97, 98]⟩ ⟨#[97, 98, 99]⟩ w)

theorem class_awake (w : World) :
    Calls Try.prog 83 #[.int .u8 97] w fun e w' => e = .returned (.int .i64 2) ∧ Bel w.heap.size w w' := by
  have h := class_any 97 (by omega) (by omega) w
  rwa [show clsI 97 = 2 by decide +kernel] at h

end Go.Proofs.Ytdefphacdcbljaa

namespace Go.Proofs.Ytdefphacdcbljaa
open Go.RowKit
set_option maxRecDepth 100000

theorem Ints.nil (w : World) : Ints w (.slice none 0 0) [] := ⟨none, 0, rfl, Nat.le_refl _, by unfold maxLen; omega, fun _ => rfl, fun h => absurd h (by simp)⟩
theorem Ints.of_row {w : World} {x : Addr} {len cap : Nat} {zs : List Int} (hl : len ≤ cap) (hm : cap ≤ maxLen) (hz : zs.length = cap)
    (hc : ∀ i, i < zs.length → w.cell? (x.add i) = some (.int .i64 (zs.getD i 0))) : Ints w (.slice (some x) len cap) (zs.take len) := by
  have e : (zs.take len).length = len := by simp; omega
  refine ⟨some x, cap, by rw [e], by omega, hm, (fun h => by cases h), fun hp => ?_⟩
  rw [e] at hp ⊢
  obtain ⟨b, off, spot⟩ := x
  have h0 := hc 0 (by omega)
  have hspot : spot = none := by simpa [Addr.add] using World.cell?_spot h0
  subst hspot
  refine ⟨b, off, rfl, ?_, fun j hj => ?_⟩
  · have := World.block_lt_of_cell? w _ h0
    simpa [Addr.add] using this
  · have h1 := hc j (by omega)
    have h2 : (⟨b, off, none⟩ : Addr).add j = ⟨b, off + j, none⟩ := by unfold Addr.add; split <;> simp_all
    rw [h2] at h1
    rw [h1]
    congr 2
    simp only [List.getD_eq_getElem?_getD, List.getElem?_take, if_pos hj]

theorem Ints.cut {w : World} {a : Option Addr} {len cap : Nat} {zs : List Int} (h : Ints w (.slice a len cap) zs) (k : Nat) (hk : k ≤ len) : Ints w (.slice a k cap) (zs.take k) := by
  obtain ⟨a', c', hv, h1, h2, hn, h3⟩ := h.ex
  injection hv with e1 e2 e3
  subst e1 e2 e3
  have e : (zs.take k).length = k := by simp; omega
  refine ⟨a, cap, by rw [e], by omega, h2, hn, fun hp => ?_⟩
  rw [e] at hp ⊢
  obtain ⟨b, off, ha, hlt, hc⟩ := h3 (by omega)
  refine ⟨b, off, ha, hlt, fun j hj => ?_⟩
  rw [hc j (by omega)]
  congr 2
  simp only [List.getD_eq_getElem?_getD, List.getElem?_take, if_pos hj]

/-- A literal, in a block of its own. -/
theorem Ints.lit (w : World) (cs : Array Value) (zs : List Int) (t : TypeId) (h : cs = (zs.map (Value.int .i64)).toArray) (hl : zs.length ≤ 1000) :
    Ints (w.alloc (.cells cs t)) (.slice (some ⟨w.heap.size, 0, none⟩) zs.length zs.length) zs := by
  subst h
  refine ⟨_, _, rfl, Nat.le_refl _, by unfold maxLen; omega, (fun h => by cases h), fun _ => ⟨w.heap.size, 0, rfl, by simp, fun j hj => ?_⟩⟩
  have hh : (w.alloc (.cells (zs.map (Value.int .i64)).toArray t)).heap[w.heap.size]? = some (.cells (zs.map (Value.int .i64)).toArray t) := heap_alloc_new _ _
  simp only [World.cell?, hh, Nat.zero_add]
  simp [List.getD_eq_getElem?_getD, List.getElem?_eq_getElem hj]
theorem Ints.lit1 (w : World) (x : Int) (t : TypeId) : Ints (w.alloc (.cells #[.int .i64 x] t)) (.slice (some ⟨w.heap.size, 0, none⟩) 1 1) [x] :=
  Ints.lit w _ [x] t rfl (by simp)

theorem hasB_one (x y : Int) : hasB [x] y = decide (y = x) := by simp [hasB]
theorem allB_nil (l : List UInt8) : allB l [] = l.isEmpty := by cases l <;> simp [allB, hasB]
theorem allB_ten (l : List UInt8) : allB l [0, 1, 2, 3, 4, 5, 6, 7, 8, 9] = true := by
  unfold allB
  rw [List.all_eq_true]
  intro c _
  have hb := clsI_bd c.toNat (by omega) (by have := UInt8.toNat_lt c; omega)
  obtain ⟨y, hy⟩ : ∃ y, y = clsI c.toNat := ⟨_, rfl⟩
  rw [← hy] at hb ⊢
  unfold hasB
  rw [decide_eq_true_eq]
  simp only [List.mem_cons, List.not_mem_nil, or_false]
  omega

theorem Ints.owned {w : World} {base : Nat} {e : TypeId} {v : Value} {n : Nat} {ls : List Int} (h : w.ownsRow base e 1 v n (ls.map (Value.int .i64))) (hn : n = ls.length) : Ints w v ls := by
  subst hn
  rcases Joins.ownsRow_forms h with ⟨rfl, h0⟩ | ⟨g, cap, rfl⟩
  · have : ls = [] := List.eq_nil_of_length_eq_zero h0
    subst this
    exact Ints.nil w
  · have hlt := h.lt g rfl
    have hcap : ls.length ≤ cap ∧ cap ≤ maxLen := by
      obtain ⟨_, h | ⟨g', cap', cur, hv, _, _, h1, h2, _⟩⟩ := h
      · cases h.1
      · injection hv with _ _ hc; subst hc; exact ⟨h1, h2⟩
    refine ⟨some ⟨g, 0, none⟩, cap, rfl, hcap.1, hcap.2, (fun h => by cases h), fun _ => ⟨g, 0, rfl, hlt.2, fun j hj => ?_⟩⟩
    rw [Nat.zero_add, h.cellAt j (by omega), List.getElem?_map, List.getD_eq_getElem?_getD, List.getElem?_eq_getElem hj]
    rfl
/-- What 'append(.., l...)' asks of the slice that is appended. -/
theorem Ints.src {w : World} {a : Option Addr} {m c : Nat} {zs : List Int} (h : Ints w (.slice a m c) zs) :
    m = zs.length ∧ (a = none → m = 0 ∧ c = 0) ∧ (∀ ad, a = some ad → ∀ j u, (zs.map (Value.int .i64))[j]? = some u → w.cell? (ad.add j) = some u) := by
  obtain ⟨a', c', hv, h1, h2, hn, h3⟩ := h.ex
  injection hv with e1 e2 e3
  subst e1 e2 e3
  refine ⟨rfl, fun h => ⟨by have := hn h; omega, hn h⟩, fun ad ha j u hu => ?_⟩
  have hj : j < zs.length := by
    rcases Nat.lt_or_ge j zs.length with h | h
    · exact h
    · rw [List.getElem?_eq_none (by simpa using h)] at hu; cases hu
  obtain ⟨b, off, ha', _, hc⟩ := h3 (by omega)
  rw [ha] at ha'
  injection ha' with ha'
  subst ha'
  have h2 : (⟨b, off, none⟩ : Addr).add j = ⟨b, off + j, none⟩ := by unfold Addr.add; split <;> simp_all
  rw [h2, hc j hj, ← hu, List.getElem?_map, List.getD_eq_getElem?_getD, List.getElem?_eq_getElem hj]
  rfl
theorem Ints.cell {w : World} {b off m c : Nat} {zs : List Int} (h : Ints w (.slice (some ⟨b, off, none⟩) m c) zs) (j : Nat) (hj : j < m) : w.cell? ⟨b, off + j, none⟩ = some (.int .i64 (zs.getD j 0)) := by
  obtain ⟨a', c', hv, h1, h2, hn, h3⟩ := h.ex
  injection hv with e1 e2 e3
  subst e1 e2 e3
  obtain ⟨b', off', ha', _, hc⟩ := h3 (by omega)
  injection ha' with ha'
  injection ha' with hb' ho'
  subst hb' ho'
  exact hc j hj
theorem Ints.some {w : World} {a : Option Addr} {m c : Nat} {zs : List Int} (h : Ints w (.slice a m c) zs) (hm : 0 < m) : ∃ b off, a = some ⟨b, off, none⟩ := by
  obtain ⟨a', c', hv, h1, h2, hn, h3⟩ := h.ex
  injection hv with e1 e2 e3
  subst e1 e2 e3
  obtain ⟨b', off', ha', _, hc⟩ := h3 (by omega)
  exact ⟨b', off', ha'⟩
theorem Try.info_int : (Try.prog.info? 3).map (fun i => (i.zero, i.size, i.bytes)) = some (some (.int .i64 0), 1, 8) := by kernel_rfl
/-- What 'append(.., l...)' asks of the texts that are appended. -/
theorem Strs.src {w : World} {a : Option Addr} {m c : Nat} {zs : List (List UInt8)} (h : Strs w (.slice a m c) zs) :
    m = zs.length ∧ (a = none → m = 0 ∧ c = 0) ∧ (∀ ad, a = some ad → ∀ j u, (zs.map strV)[j]? = some u → w.cell? (ad.add j) = some u) := by
  obtain ⟨a', c', hv, h1, h2, hn, h3⟩ := h.ex
  injection hv with e1 e2 e3
  subst e1 e2 e3
  refine ⟨rfl, fun h => ⟨by have := hn h; omega, hn h⟩, fun ad ha j u hu => ?_⟩
  have hj : j < zs.length := by
    rcases Nat.lt_or_ge j zs.length with h | h
    · exact h
    · rw [List.getElem?_eq_none (by simpa using h)] at hu; cases hu
  obtain ⟨b, off, ha', _, hc⟩ := h3 (by omega)
  rw [ha] at ha'
  injection ha' with ha'
  subst ha'
  have h2 : (⟨b, off, none⟩ : Addr).add j = ⟨b, off + j, none⟩ := by unfold Addr.add; split <;> simp_all
  rw [h2, hc j hj, ← hu, List.getElem?_map, List.getD_eq_getElem?_getD, List.getElem?_eq_getElem hj]
  rfl
theorem strs_one (zs : List (List UInt8)) : ((zs.map strV).all fun u => u.oneCell') = true := by
  rw [List.all_eq_true]
  intro u hu
  obtain ⟨z, _, rfl⟩ := List.mem_map.1 hu
  rfl
theorem ints_one (zs : List Int) : ((zs.map (Value.int .i64)).all fun u => u.oneCell') = true := by
  rw [List.all_eq_true]
  intro u hu
  obtain ⟨z, _, rfl⟩ := List.mem_map.1 hu
  rfl

theorem allB_cat (a b : List UInt8) (zs : List Int) : allB (a ++ b) zs = (allB a zs && allB b zs) := by simp [allB]
theorem allB_more (a : List UInt8) (zs ys : List Int) (h : allB a zs = true) (hs : ∀ z ∈ zs, z ∈ ys) : allB a ys = true := by
  unfold allB hasB at *
  rw [List.all_eq_true] at *
  intro c hc
  have := h c hc
  rw [decide_eq_true_eq] at *
  exact hs _ this

theorem ownsRow_below {w w' : World} {base : Nat} {e : TypeId} {size : Nat} {v : Value} {n : Nat} {xs : List Value} (h : w.ownsRow base e size v n xs) (hb : Bel w.heap.size w w') : w'.ownsRow base e size v n xs := by
  obtain ⟨h1, h2⟩ := h
  refine ⟨h1, h2.imp id ?_⟩
  rintro ⟨g, cap, cur, hv, hg, hh, h3⟩
  have hlt : g < w.heap.size := (Array.getElem?_eq_some_iff.1 hh).1
  exact ⟨g, cap, cur, hv, hg, (hb.block g hlt).trans hh, h3⟩
/-- 'string([]byte{c})' -/
def byteS (c : Int) : ByteArray := ⟨#[UInt8.ofNat c.toNat]⟩
theorem one_byte (c : Int) (W : World) : Sem.run Try.prog (convert 37 9 (.slice (some ⟨W.heap.size, 0, none⟩) 1 1)) (W.alloc (.cells #[.int .u8 c] 5)) = .ok (.string (byteS c)) (W.alloc (.cells #[.int .u8 c] 5)) := by
  have h := run_convert_bytes_arg (P := Try.prog) (W.alloc (.cells #[.int .u8 c] 5)) 37 5 Try.underlying37 Try.underlying5 W.heap.size 0 1 1 [c] rfl ?_ 9 Try.underlying9
  · exact h
  · intro i hi
    have hh : (W.alloc (.cells #[.int .u8 c] 5)).heap[W.heap.size]? = some (.cells #[.int .u8 c] 5) := heap_alloc_new _ _
    have : i = 0 := by omega
    subst this
    simp only [World.cell?, hh]
    rfl
theorem byteS_at (c : Int) (h0 : 0 ≤ c) (h1 : c ≤ 255) : ((byteS c).data.toList) = [UInt8.ofNat c.toNat] ∧ ((UInt8.ofNat c.toNat).toNat : Int) = c := by
  refine ⟨rfl, ?_⟩
  rw [UInt8.toNat_ofNat_of_lt' (by rw [UInt8.size]; omega)]
  omega
theorem splitL_cat (c : Int) (x : UInt8) (hx : (x.toNat : Int) = c) (b : List UInt8) : ∀ a : List UInt8, splitL c (a ++ x :: b) = splitL c a ++ splitL c b
  | [] => by simp [splitL, hx]
  | y :: a => by
    rw [List.cons_append, splitL, splitL, splitL_cat c x hx b a]
    split
    · rfl
    · have := splitL_ne c a
      cases e : splitL c a with
      | nil => exact absurd e this
      | cons u l => rfl

theorem sameB_refl (a : List (List UInt8)) : sameB a a = true := by simp [sameB]

theorem comL_le : ∀ (a b : List UInt8), comL a b ≤ a.length ∧ comL a b ≤ b.length
  | [], _ => by simp [comL]
  | _ :: _, [] => by simp [comL]
  | x :: a, y :: b => by
    have := comL_le a b
    rw [comL]
    split
    · simp; omega
    · simp
theorem comL_take : ∀ (a b : List UInt8), a.take (comL a b) = b.take (comL a b)
  | [], _ => by simp [comL]
  | _ :: _, [] => by simp [comL]
  | x :: a, y :: b => by
    have := comL_take a b
    rw [comL]
    split
    · rename_i h; subst h; simpa using this
    · simp
theorem comL_ne : ∀ (a b : List UInt8) (h1 : comL a b < a.length) (h2 : comL a b < b.length), a[comL a b] ≠ b[comL a b]
  | [], _, h, _ => by simp at h
  | _ :: _, [], _, h => by simp at h
  | x :: a, y :: b, h1, h2 => by
    by_cases h : x = y
    · have e : comL (x :: a) (y :: b) = comL a b + 1 := by rw [comL, if_pos h]
      have k1 : comL a b < a.length := by rw [e] at h1; simpa using h1
      have k2 : comL a b < b.length := by rw [e] at h2; simpa using h2
      have := comL_ne a b k1 k2
      simpa [e] using this
    · have e : comL (x :: a) (y :: b) = 0 := by rw [comL, if_neg h]
      simpa [e] using h

theorem comL_pre (a b : List UInt8) : ∀ c : List UInt8, comL (c ++ a) (c ++ b) = c.length + comL a b
  | [] => by simp
  | x :: c => by rw [List.cons_append, List.cons_append, comL, if_pos rfl, comL_pre a b c, List.length_cons]; omega

theorem com_ext (x y : ByteArray) (m : Nat) (hm : m = comL x.data.toList y.data.toList) : (!(x.extract 0 m).toList == (y.extract 0 m).toList) = false := by
  subst hm
  have h := comL_take x.data.toList y.data.toList
  rw [Lib.extract_toList, Lib.extract_toList, List.drop_zero, List.drop_zero, Nat.sub_zero, h]
  simp
theorem com_at (x y : ByteArray) (m : Nat) (hm : m = comL x.data.toList y.data.toList) (h1 : m < x.size) (h2 : m < y.size) : ((x[m].toNat : Int) == (y[m].toNat : Int)) = false := by
  have h := comL_ne x.data.toList y.data.toList (by rw [← hm]; simpa using h1) (by rw [← hm]; simpa using h2)
  rw [beq_eq_false_iff_ne]
  intro e
  apply h
  have e2 : x[m] = y[m] := (u8_ne_iff _ _).2 e
  subst hm
  exact e2
theorem com_bd (x y : ByteArray) (m : Nat) (hm : m = comL x.data.toList y.data.toList) : m ≤ x.size ∧ m ≤ y.size := by
  have := comL_le x.data.toList y.data.toList
  subst hm
  rw [Lib.size_eq, Lib.size_eq y]
  exact this

theorem fewB_size (s : ByteArray) : (fewB s).size ≤ 400 := by
  unfold fewB
  split
  · simp; omega
  · omega
end Go.Proofs.Ytdefphacdcbljaa

namespace Go.Proofs.Ytdefphacdcbljaa
open Go.RowKit
set_option maxRecDepth 100000

/-- Parts, put together with an octet between them. -/
def jn (x : UInt8) : List (List UInt8) → List UInt8
  | [] => []
  | p :: ps => p ++ ps.flatMap (fun q => x :: q)
theorem jn_split (c : Int) (x : UInt8) (hx : (x.toNat : Int) = c) : ∀ l : List UInt8, jn x (splitL c l) = l
  | [] => by simp [splitL, jn]
  | y :: l => by
    have ih := jn_split c x hx l
    have hn := splitL_ne c l
    rw [splitL]
    split
    · rename_i h
      have e : y = x := by rw [← UInt8.toNat_inj]; omega
      subst e
      cases hs : splitL c l with
      | nil => exact absurd hs hn
      | cons u t => rw [hs] at ih; simp only [jn, List.nil_append, List.flatMap_cons] at *; rw [List.cons_append, ih]
    · cases hs : splitL c l with
      | nil => exact absurd hs hn
      | cons u t => rw [hs] at ih; simp only [jn, consHead] at *; rw [List.append_assoc, ih]; rfl
theorem jn_zero (x : UInt8) (ls : List (List UInt8)) (h : 0 < ls.length) : jn x (ls.take 1) = ls.getD 0 [] := by
  cases ls with
  | nil => simp at h
  | cons p ps => simp [jn]
theorem jn_succ (x : UInt8) (ls : List (List UInt8)) (k : Nat) (hk : 0 < k) (h : k < ls.length) : jn x (ls.take (k + 1)) = jn x (ls.take k) ++ x :: ls.getD k [] := by
  cases ls with
  | nil => simp at h
  | cons p ps =>
    obtain ⟨m, rfl⟩ : ∃ m, k = m + 1 := ⟨k - 1, by omega⟩
    have hm : m < ps.length := by simpa using h
    have e : ps.take (m + 1) = ps.take m ++ [ps[m]] := List.take_succ_eq_append_getElem hm
    have e2 : (p :: ps).getD (m + 1) [] = ps[m] := by simp [List.getD_eq_getElem?_getD, List.getElem?_eq_getElem hm]
    simp only [List.take_succ_cons, jn]
    rw [e, e2, List.flatMap_append, List.append_assoc]
    congr 2
    simp only [List.flatMap_cons, List.flatMap_nil, List.append_nil]
theorem jn_le (x : UInt8) (ls : List (List UInt8)) (k : Nat) : (jn x (ls.take k)).length ≤ (jn x ls).length := by
  cases ls with
  | nil => simp
  | cons p ps =>
    cases k with
    | zero => simp [jn]
    | succ k =>
      simp only [List.take_succ_cons, jn, List.length_append]
      have : ((ps.take k).flatMap (fun q => x :: q)).length ≤ (ps.flatMap (fun q => x :: q)).length := by
        have e : ps.flatMap (fun q => x :: q) = (ps.take k).flatMap (fun q => x :: q) ++ (ps.drop k).flatMap (fun q => x :: q) := by
          rw [← List.flatMap_append, List.take_append_drop]
        rw [e, List.length_append]; omega
      omega
theorem split_none (c : Int) : ∀ l : List UInt8, ∀ p ∈ splitL c l, ∀ y ∈ p, ¬ (y.toNat : Int) = c
  | [] => by simp [splitL]
  | z :: l => by
    have ih := split_none c l
    rw [splitL]
    split
    · intro p hp y hy
      rcases List.mem_cons.1 hp with rfl | hp
      · cases hy
      · exact ih p hp y hy
    · rename_i hz
      cases hs : splitL c l with
      | nil => exact absurd hs (splitL_ne c l)
      | cons u t =>
        rw [hs] at ih
        intro p hp y hy
        rcases List.mem_cons.1 hp with rfl | hp
        · rcases List.mem_cons.1 hy with rfl | hy
          · exact hz
          · exact ih u List.mem_cons_self y hy
        · exact ih p (List.mem_cons_of_mem _ hp) y hy
/-- How often an octet is in a text. -/
def cntL (c : Int) : List UInt8 → Nat
  | [] => 0
  | y :: l => (if (y.toNat : Int) = c then 1 else 0) + cntL c l
theorem cntL_le (c : Int) (l : List UInt8) : cntL c l ≤ l.length := by
  induction l with
  | nil => simp [cntL]
  | cons y l ih => rw [cntL, List.length_cons]; split <;> omega
theorem split_cnt (c : Int) : ∀ l : List UInt8, (splitL c l).length = cntL c l + 1
  | [] => by simp [splitL, cntL]
  | z :: l => by
    have ih := split_cnt c l
    rw [splitL, cntL]
    split
    · rw [List.length_cons, ih]; omega
    · cases hs : splitL c l with
      | nil => exact absurd hs (splitL_ne c l)
      | cons u t => rw [hs] at ih; simpa [consHead] using ih
end Go.Proofs.Ytdefphacdcbljaa

namespace Go.Proofs.Ytdefphacdcbljaa
open Go.RowKit
set_option maxRecDepth 100000

def mkB (l : List UInt8) : ByteArray := ⟨l.toArray⟩
theorem mkB_list (l : List UInt8) : (mkB l).data.toList = l := by simp [mkB]
theorem mkB_size (l : List UInt8) : (mkB l).size = l.length := by rw [Lib.size_eq, mkB_list]
theorem mkB_inj {a b : List UInt8} (h : mkB a = mkB b) : a = b := by rw [← mkB_list a, h, mkB_list]
theorem mkB_of' {x : ByteArray} {l : List UInt8} (h : x.data.toList = l) : x = mkB l := by unfold mkB; rw [← h]
theorem mkB_of {x : ByteArray} {l : List UInt8} (h : x.data.toList = l) : x = mkB l := by unfold mkB; rw [← h]
theorem mkB_beq (a b : List UInt8) : (mkB a == mkB b) = decide (a = b) := by
  rw [beq_toListBytes, Lib.toList_data, Lib.toList_data, mkB_list, mkB_list, Bool.eq_iff_iff, beq_iff_eq, decide_eq_true_eq]
theorem mk_beq (a b : List UInt8) : ((mkB a).toList == (mkB b).toList) = decide (a = b) := by
  rw [Lib.toList_data, Lib.toList_data, mkB_list, mkB_list, Bool.eq_iff_iff, beq_iff_eq, decide_eq_true_eq]
theorem mkB_cons (x : UInt8) (p : List UInt8) : (⟨#[x]⟩ : ByteArray) ++ mkB p = mkB (x :: p) := mkB_of' (by simp only [cat_list, mkB_list]; simp)
theorem tup2 {x y : ByteArray} {i j : Int} (h : x = y) (k : i = j) : Ending.returned (.tuple #[.string x, .int .i64 i]) = .returned (.tuple #[.string y, .int .i64 j]) := by rw [h, k]
theorem strV_mk (s : ByteArray) (a b : Nat) : s.extract a b = mkB ((s.data.toList.drop a).take (b - a)) := by unfold mkB; rw [← Lib.extract_eq]
theorem split_whole (c : Int) (l : List UInt8) (h : ∀ x ∈ l, ¬ (x.toNat : Int) = c) : splitL c l = [l] := by
  induction l with
  | nil => rfl
  | cons x l ih => rw [splitL, if_neg (h x List.mem_cons_self), ih fun y hy => h y (List.mem_cons_of_mem _ hy)]; rfl
theorem split_jn (c : Int) (x : UInt8) (hx : (x.toNat : Int) = c) (ls : List (List UInt8)) (hn : ls ≠ []) (h : ∀ l ∈ ls, ∀ y ∈ l, ¬ (y.toNat : Int) = c) : splitL c (jn x ls) = ls := by
  cases ls with
  | nil => exact absurd rfl hn
  | cons p ps =>
    clear hn
    induction ps generalizing p with
    | nil => simp only [jn, List.flatMap_nil, List.append_nil]; exact split_whole c p (h p List.mem_cons_self)
    | cons q qs ih =>
      have e : jn x (p :: q :: qs) = p ++ x :: jn x (q :: qs) := by simp [jn]
      rw [e, splitL_cat c x hx, ih q fun l hl => h l (List.mem_cons_of_mem _ hl), split_whole c p (h p List.mem_cons_self)]
      rfl
theorem split_le (c : Int) : ∀ l : List UInt8, ∀ p ∈ splitL c l, p.length ≤ l.length
  | [] => by simp [splitL]
  | x :: l => by
    have ih := split_le c l
    rw [splitL]
    split
    · intro p hp
      rcases List.mem_cons.1 hp with rfl | hp
      · simp
      · have := ih p hp; simp; omega
    · cases hs : splitL c l with
      | nil => exact absurd hs (splitL_ne c l)
      | cons u t =>
        rw [hs] at ih
        intro p hp
        rcases List.mem_cons.1 hp with rfl | hp
        · have := ih u List.mem_cons_self; simp; omega
        · have := ih p (List.mem_cons_of_mem _ hp); simp; omega
theorem strs_none (w : World) : Strs w (.slice none 0 0) [] := ⟨none, 0, rfl, Nat.le_refl _, by unfold maxLen; omega, fun _ => rfl, fun h => absurd h (by simp)⟩
theorem strs_drew {w : World} {v : Value} {ls : List (List UInt8)} (h : Strs w v ls) : Strs w.drew v ls := h.drewN 1
def fewL (l : List UInt8) : List UInt8 := l.take 400
theorem fewL_le (l : List UInt8) : (fewL l).length ≤ 400 := by unfold fewL; exact List.length_take_le _ _
theorem fewB_mk (l : List UInt8) : fewB (mkB l) = mkB (fewL l) := by
  unfold fewB fewL
  rw [mkB_size]
  split
  · refine mkB_of' ?_
    have := strV_mk (mkB l) 0 400
    rw [this, mkB_list, mkB_list]; simp
  · rw [List.take_of_length_le (by omega)]
theorem few_mk (s : ByteArray) : fewB s = mkB (fewL s.data.toList) := by
  have h : s = mkB s.data.toList := mkB_of' rfl
  rw [h, fewB_mk, mkB_list]
theorem few_l (l : List UInt8) (w : World) (hs : l.length ≤ maxLen) :
    Calls Try.prog 16 #[.string (mkB l)] w fun e w' => e = .returned (.string (mkB (fewL l))) ∧ w = w' := by
  have := few_any (mkB l) w (by rw [mkB_size]; exact hs)
  rwa [fewB_mk] at this
theorem few_s (l : List UInt8) (w : World) (hs : l.length ≤ maxLen) :
    Calls Try.prog 16 #[.string (mkB l)] w fun e w' => e = .returned (.string (mkB (fewL l))) ∧ w' = w := (few_l l w hs).mono fun _ _ ⟨h, k⟩ => ⟨h, k.symm⟩
theorem few_ml (s : ByteArray) (w : World) (hs : s.size ≤ maxLen) :
    Calls Try.prog 16 #[.string s] w fun e w' => e = .returned (.string (mkB (fewL s.data.toList))) ∧ w = w' := by
  have := few_any s w hs
  rwa [few_mk] at this
theorem flat_len (x : UInt8) (n : Nat) : ∀ ls : List (List UInt8), (∀ l ∈ ls, l.length ≤ n) → (ls.flatMap (fun q => x :: q)).length ≤ ls.length * (n + 1)
  | [], _ => by simp
  | p :: ps, h => by
    have ih := flat_len x n ps fun l hl => h l (List.mem_cons_of_mem _ hl)
    have hp := h p List.mem_cons_self
    rw [List.flatMap_cons, List.length_append, List.length_cons, List.length_cons, Nat.add_mul]
    omega
theorem jn_len (x : UInt8) (n : Nat) (ls : List (List UInt8)) (h : ∀ l ∈ ls, l.length ≤ n) : (jn x ls).length ≤ ls.length * (n + 1) := by
  cases ls with
  | nil => simp [jn]
  | cons p ps =>
    have ih := flat_len x n ps fun l hl => h l (List.mem_cons_of_mem _ hl)
    have hp := h p List.mem_cons_self
    simp only [jn, List.length_append, List.length_cons, Nat.add_mul]
    omega
theorem empty_iff (s : ByteArray) : s.toList.isEmpty = decide (s.size = 0) := by
  rw [Lib.toList_data, Lib.size_eq]
  cases s.data.toList <;> simp
theorem mem_getD {ls : List (List UInt8)} {k : Nat} (h : k < ls.length) : ls.getD k [] ∈ ls := by
  rw [List.getD_eq_getElem?_getD, List.getElem?_eq_getElem h]
  exact List.getElem_mem h
theorem all_take_succ {p : List UInt8 → Bool} {ls : List (List UInt8)} {k : Nat} (h : k < ls.length) (ht : (ls.take k).all p = true) (hp : p (ls.getD k []) = true) : (ls.take (k + 1)).all p = true := by
  rw [List.take_succ_eq_append_getElem h, List.all_append, ht]
  rw [List.getD_eq_getElem?_getD, List.getElem?_eq_getElem h] at hp
  simpa using hp
theorem strs_at {w : World} {a : Option Addr} {n c : Nat} {ls : List (List UInt8)} (h : Strs w (.slice a n c) ls) (k : Nat) (hk : k < ls.length) :
    ∃ b off, a = some ⟨b, off, none⟩ ∧ b < w.heap.size ∧ w.cell? ⟨b, off + k, none⟩ = some (.string (mkB (ls.getD k []))) := by
  obtain ⟨a', c', hv, _, _, _, h3⟩ := h.ex
  injection hv with e1 e2 e3
  subst e1
  obtain ⟨b, off, ha, hlt, hc⟩ := h3 (by omega)
  exact ⟨b, off, ha, hlt, hc k hk⟩
end Go.Proofs.Ytdefphacdcbljaa
