/- THE TEXTS OF OctF OctP: The parts of a text, of the program and of the document; and whether two lists of texts are the same. THE TEXTS OF OctG OctH OctN OctP: The chapter's examples hold, in every world. Aids of the laws of octet: what comes in, and what the calls leave. Parts, put together, are the text: plain facts. Texts as lists of octets; parts, and what is put together: plain facts, and what the statements look at of a text. -/
import Derived.Test.YtlbibgofhhdgoaaGreatOctE
import Derived.Lib.SmallJoins
import Derived.Laws.AppendOwnNone
import Derived.OpenShut
import Derived.Laws.BytesArg
import Derived.Test.YtlbibgofhhdgoaaGreatOctM
import Derived.Lib.Join
namespace Go.Proofs.YtlbibgofhhdgoaaGreat
open Go.RowKit
set_option maxRecDepth 100000

/-! ### Plain lists -/
def consHead (p : List UInt8) : List (List UInt8) → List (List UInt8)
  | [] => [p]
  | h :: t => (p ++ h) :: t
/-- The parts between octets c. -/
def splitL (c : Int) : List UInt8 → List (List UInt8)
  | [] => [[]]
  | x :: xs => if (x.toNat : Int) = c then [] :: splitL c xs else consHead [x] (splitL c xs)

theorem consHead_ne (p : List UInt8) (l : List (List UInt8)) : consHead p l ≠ [] := by cases l <;> simp [consHead]
theorem splitL_ne (c : Int) (l : List UInt8) : splitL c l ≠ [] := by
  cases l with
  | nil => simp [splitL]
  | cons x xs => rw [splitL]; split
                 · simp
                 · exact consHead_ne _ _
theorem consHead_nil (l : List (List UInt8)) (h : l ≠ []) : consHead [] l = l := by cases l <;> simp_all [consHead]
theorem consHead_two (p q : List UInt8) (l : List (List UInt8)) : consHead p (consHead q l) = consHead (p ++ q) l := by cases l <;> simp [consHead]
theorem splitL_len (c : Int) (l : List UInt8) : (splitL c l).length ≤ l.length + 1 := by
  induction l with
  | nil => simp [splitL]
  | cons x xs ih =>
    rw [splitL]; split
    · simpa using ih
    · have : ∀ m : List (List UInt8), m ≠ [] → (consHead [x] m).length = m.length := by intro m hm; cases m <;> simp_all [consHead]
      rw [this _ (splitL_ne c xs)]; simp; omega

def PInv (c : Int) (l : List UInt8) (acc : List (List UInt8)) (st k : Nat) : Prop :=
  st ≤ k ∧ k ≤ l.length ∧ acc.length ≤ st ∧ acc ++ consHead ((l.drop st).take (k - st)) (splitL c (l.drop k)) = splitL c l

theorem PInv.start (c : Int) (l : List UInt8) : PInv c l [] 0 0 := ⟨Nat.le_refl _, Nat.zero_le _, Nat.zero_le _, by simp [consHead_nil _ (splitL_ne c l)]⟩
theorem PInv.hit {c : Int} {l : List UInt8} {acc : List (List UInt8)} {st k : Nat} (h : PInv c l acc st k) (hk : k < l.length) (hc : (l[k].toNat : Int) = c) :
    PInv c l (acc ++ [(l.drop st).take (k - st)]) (k + 1) (k + 1) := by
  obtain ⟨h1, h2, h3, h4⟩ := h
  refine ⟨Nat.le_refl _, hk, by simp; omega, ?_⟩
  rw [List.drop_eq_getElem_cons hk, splitL, if_pos hc] at h4
  rw [← h4]
  have e : consHead ((l.drop st).take (k - st)) ([] :: splitL c (l.drop (k + 1))) = (l.drop st).take (k - st) :: splitL c (l.drop (k + 1)) := by simp [consHead]
  rw [e, Nat.sub_self, List.take_zero, consHead_nil _ (splitL_ne c _)]
  simp
theorem PInv.miss {c : Int} {l : List UInt8} {acc : List (List UInt8)} {st k : Nat} (h : PInv c l acc st k) (hk : k < l.length) (hc : ¬ (l[k].toNat : Int) = c) :
    PInv c l acc st (k + 1) := by
  obtain ⟨h1, h2, h3, h4⟩ := h
  refine ⟨by omega, hk, h3, ?_⟩
  rw [List.drop_eq_getElem_cons hk, splitL, if_neg hc, consHead_two] at h4
  rw [← h4]
  have e : (l.drop st).take (k + 1 - st) = (l.drop st).take (k - st) ++ [l[k]] := by
    rw [show k + 1 - st = (k - st) + 1 by omega, List.take_succ_eq_append_getElem (by simp; omega)]
    congr 2
    simp [List.getElem_drop, show st + (k - st) = k by omega]
  rw [e]
theorem PInv.done {c : Int} {l : List UInt8} {acc : List (List UInt8)} {st k : Nat} (h : PInv c l acc st k) (hk : l.length ≤ k) :
    acc ++ [l.drop st] = splitL c l := by
  obtain ⟨h1, h2, h3, h4⟩ := h
  rw [List.drop_eq_nil_of_le hk] at h4
  rw [← h4]
  simp [splitL, consHead]
  rw [List.take_of_length_le (by simp; omega)]

/-! ### Texts in memory -/
def strV (l : List UInt8) : Value := .string ⟨l.toArray⟩
theorem strV_extract (s : ByteArray) (a b : Nat) : Value.string (s.extract a b) = strV ((s.data.toList.drop a).take (b - a)) := by unfold strV; rw [← Lib.extract_eq]
/-- A slice of texts, in memory: nil, empty, or cells that hold them. -/
structure Strs (w : World) (v : Value) (ls : List (List UInt8)) : Prop where
  ex : ∃ a c, v = .slice a ls.length c ∧ ls.length ≤ c ∧ c ≤ maxLen ∧ (a = none → c = 0) ∧ (0 < ls.length → ∃ b off, a = some ⟨b, off, none⟩ ∧ b < w.heap.size ∧ ∀ j, j < ls.length → w.cell? ⟨b, off + j, none⟩ = some (strV (ls.getD j [])))

theorem Strs.below {w w' : World} {v : Value} {zs : List (List UInt8)} (h : Strs w v zs) (hb : Bel w.heap.size w w') : Strs w' v zs := by
  obtain ⟨a, c, hv, h1, h2, hn, h3⟩ := h.ex
  refine ⟨a, c, hv, h1, h2, hn, fun hp => ?_⟩
  obtain ⟨b, off, ha, hlt, hc⟩ := h3 hp
  exact ⟨b, off, ha, Nat.lt_of_lt_of_le hlt hb.size, fun j hj => by rw [hb.cell (by exact hlt)]; exact hc j hj⟩
theorem Strs.drewN {w : World} {v : Value} {zs : List (List UInt8)} (n : Nat) (h : Strs w v zs) : Strs (w.drewN n) v zs := by
  obtain ⟨a, c, hv, h1, h2, hn, h3⟩ := h.ex
  refine ⟨a, c, hv, h1, h2, hn, fun hp => ?_⟩
  obtain ⟨b, off, ha, hlt, hc⟩ := h3 hp
  exact ⟨b, off, ha, by simpa using hlt, fun j hj => by have := hc j hj; simpa using this⟩

theorem Strs.owned {w : World} {base : Nat} {e : TypeId} {v : Value} {ls : List (List UInt8)} (h : w.ownsRow base e 1 v ls.length (ls.map strV)) : Strs w v ls := by
  rcases Joins.ownsRow_forms h with ⟨rfl, h0⟩ | ⟨g, cap, rfl⟩
  · have : ls = [] := List.eq_nil_of_length_eq_zero h0
    subst this
    exact ⟨none, 0, rfl, Nat.le_refl _, by unfold maxLen; omega, fun _ => rfl, fun h => absurd h (by simp)⟩
  · have hlt := h.lt g rfl
    have hcap : ls.length ≤ cap ∧ cap ≤ maxLen := by
      obtain ⟨_, h | ⟨g', cap', cur, hv, _, _, h1, h2, _⟩⟩ := h
      · cases h.1
      · injection hv with _ _ hc; subst hc; exact ⟨h1, h2⟩
    refine ⟨some ⟨g, 0, none⟩, cap, rfl, hcap.1, hcap.2, (fun h => by cases h), fun _ => ⟨g, 0, rfl, hlt.2, fun j hj => ?_⟩⟩
    rw [Nat.zero_add, h.cellAt j (by omega), List.getElem?_map, List.getD_eq_getElem?_getD, List.getElem?_eq_getElem hj]
    rfl

section
variable {P : Program}
/-- 'out = append(out, x)', out the call's own: x has just been laid in a block of its own. -/
theorem wpList_append_new {wr : World} {ops : Array Oper} {rest : List Oper} {o : Oper} {a : Act} {Q : Exit → Act → World → Prop} (hgd : Region.wanted o (yielded ops a.tmps) = true) (s x : Operand) (t : TypeId)
    (ho : o.op = .call { callee := .builtin .append, args := #[s, x], argTypes := #[t, t] })
    (base : Nat) (e : TypeId) (z : Value) (size bytes : Nat) (ht : P.underlying t = some (.slice e)) (hi : (P.info? e).map (fun i => (i.zero, i.size, i.bytes)) = some (some z, size, bytes))
    (hzs : z.cells.size = size) (hsz : 0 < size)
    (v : Value) (n : Nat) (xs : List Value) (hs : a.eval s = v) (hown : wr.ownsRow base e size v n xs)
    (news : List Value) (hx : a.eval x = .slice (some ⟨wr.heap.size, 0, none⟩) 1 1) (hl : news.length = size) (h1 : (news.all fun u => u.oneCell') = true)
    (hbytes : (n + 1) * bytes ≤ 140737488355328) (h63 : n + 1 ≤ maxLen) (hbase : base ≤ wr.heap.size)
    (h : ∀ v' w', w'.ownsRow base e size v' (n + 1) (xs ++ news) → Bel base wr w' → wpList P ops Q rest (a.put o.dst v') w') :
    wpList P ops Q (o :: rest) a (wr.alloc (.cells news.toArray e)) := by
  obtain ⟨i, hi', hz, hsize, hby⟩ := info_parts hi
  refine BigFrame.wpList_want hgd fun K hK => ?_
  refine wp_append_own_d (wr.alloc (.cells news.toArray e)) s x t ho base e i z size bytes ht hi' hz hsize hby hzs hsz v n xs hs (hown.alloc _) ⟨wr.heap.size, 0, none⟩ 1 1 news hx (by omega) ?_ ?_ h63 hbytes (by simp; omega) ?_
  · intro j u hj
    have hadd : (⟨wr.heap.size, 0, none⟩ : Addr).add j = ⟨wr.heap.size, j, none⟩ := by unfold Addr.add; split <;> simp_all
    rw [hadd]
    have hh : (wr.alloc (.cells news.toArray e)).heap[wr.heap.size]? = some (.cells news.toArray e) := heap_alloc_new _ _
    unfold World.cell?
    rw [hh]
    simpa using hj
  · intro u hu; exact List.all_eq_true.1 h1 u hu
  · intro v' w' ho' hg hd
    refine hK _ _ (h v' w' ho' ?_)
    exact ((Bel.refl base wr).alloc hbase _).grown hd hg (by simp; omega) (fun k hk => (hown.lt k hk).1)
end

section
variable {P : Program}
/-- 'out = append(out, src...)', out the call's own, src whatever slice. -/
theorem wpList_append_src {wr : World} {ops : Array Oper} {rest : List Oper} {o : Oper} {a : Act} {Q : Exit → Act → World → Prop} (hgd : Region.wanted o (yielded ops a.tmps) = true) (s x : Operand) (t : TypeId)
    (ho : o.op = .call { callee := .builtin .append, args := #[s, x], argTypes := #[t, t] })
    (base : Nat) (e : TypeId) (z : Value) (size bytes : Nat) (ht : P.underlying t = some (.slice e)) (hi : (P.info? e).map (fun i => (i.zero, i.size, i.bytes)) = some (some z, size, bytes))
    (hzs : z.cells.size = size) (hsz : 0 < size)
    (v : Value) (n : Nat) (xs : List Value) (hs : a.eval s = v) (hown : wr.ownsRow base e size v n xs)
    (a0 : Option Addr) (m c : Nat) (news : List Value) (hx : a.eval x = .slice a0 m c) (hl : news.length = m * size)
    (hnil : a0 = none → m = 0 ∧ c = 0) (hsrc : ∀ ad, a0 = some ad → ∀ j u, news[j]? = some u → wr.cell? (ad.add j) = some u) (h1 : (news.all fun u => u.oneCell') = true)
    (hbytes : (n + m) * bytes ≤ 140737488355328) (h63 : n + m ≤ maxLen) (hbase : base ≤ wr.heap.size)
    (h : ∀ v' w', w'.ownsRow base e size v' (n + m) (xs ++ news) → Bel base wr w' → wpList P ops Q rest (a.put o.dst v') w') :
    wpList P ops Q (o :: rest) a wr := by
  obtain ⟨i, hi', hz, hsize, hby⟩ := info_parts hi
  cases a0 with
  | none =>
    obtain ⟨rfl, rfl⟩ := hnil rfl
    have hn : news = [] := List.eq_nil_of_length_eq_zero (by omega)
    subst hn
    refine BigFrame.wpList_want hgd fun K hK => ?_
    have hrun := run_append_owned_none (P := P) (w := wr) base t o.type e i size ht hi' v n xs hown
    unfold Oper.wp
    simp [execOp, ho, resolve, invoke, builtin, hs, hx, hrun, Result.andThen]
    exact hK _ _ (h v wr (by simpa using hown) (Bel.refl _ _))
  | some ad =>
    refine BigFrame.wpList_want hgd fun K hK => ?_
    refine wp_append_own_d wr s x t ho base e i z size bytes ht hi' hz hsize hby hzs hsz v n xs hs hown ad m c news hx hl (hsrc ad rfl) (fun u hu => List.all_eq_true.1 h1 u hu) h63 hbytes hbase ?_
    intro v' w' ho' hg hd
    exact hK _ _ <| h v' w' ho' ((Bel.refl base wr).grown hd hg hbase (fun k hk => (hown.lt k hk).1))
end

theorem Tryz.info_str : (Tryz.prog.info? 9).map (fun i => (i.zero, i.size, i.bytes)) = some (some (.string ByteArray.empty), 1, 16) := by kernel_rfl

set_option maxHeartbeats 1000000 in
theorem parts_any (s : ByteArray) (c : Int) (w : World) (hs : s.size ≤ 1000000000) :
    Calls Tryz.prog 82 #[.string s, .int .u8 c] w fun e w' => ∃ v, e = .returned v ∧ w'.ownsRow w.heap.size 9 1 v (splitL c s.data.toList).length ((splitL c s.data.toList).map strV) ∧ Bel w.heap.size w w' := by
  have hsz := Lib.size_eq s
  have HZ := Lib.hid hsz; clear hsz
  go_enter Tryz.func82, Tryz.ntmps82
  go_wp2
  go_loopw [5, 6, 10] (fun v st i wr => ∃ (acc : List (List UInt8)) (a k : Nat), st = .int .i64 a ∧ i = .int .i64 k ∧ wr.ownsRow w.heap.size 9 1 v acc.length (acc.map strV) ∧ PInv c s.data.toList acc a k ∧ Bel w.heap.size w wr) (fun _ _ i _ => s.size - (intOf i).toNat)
  case atStart => exact ⟨[], 0, 0, rfl, rfl, World.ownsRow_nil _ _ _ _, PInv.start _ _, Bel.refl _ _⟩
  case round =>
    obtain ⟨acc, a, k, rfl, rfl, hown, hP, hbel⟩ := hrel
    have hP1 := hP.1
    have hP2 := hP.2.1
    have hP3 := hP.2.2.1
    rw [← HZ.out] at hP2
    by_cases hlt : k < s.size
    · by_cases hc : (s[k].toNat : Int) = c
      · have hb : ((s[k].toNat : Int) == c) = true := by simpa using hc
        have hP' := hP.hit (by rw [← HZ.out]; exact hlt) hc
        have HP := Lib.hid hP'; clear hP' hP
        have HC := Lib.hid hc; clear hc
        go_wp2_with (at_builtin; refine wpList_append_new rfl _ _ 61 rfl w.heap.size 9 (.string ByteArray.empty) 1 16 Tryz.underlying61 Tryz.info_str rfl (by decide) _ _ _ rfl hown [.string (s.extract a k)] rfl rfl rfl (by omega) (by unfold maxLen; omega) hbel.size ?_)
        intro v' w' hown' hb'
        rw [strV_extract] at hown'
        have ho2 : w'.ownsRow w.heap.size 9 1 v' (acc ++ [List.take (k - a) (List.drop a s.data.toList)]).length ((acc ++ [List.take (k - a) (List.drop a s.data.toList)]).map strV) := by simpa using hown'
        have HO := Lib.hid ho2; clear ho2 hown' hown
        have hbel' := hbel.trans hb'
        clear hb' hbel
        go_wp2
        go_roundw
        case rel => exact ⟨_, k + 1, k + 1, by go_num, by go_num, HO.out, HP.out, hbel'⟩
        case measure => simp [intOf]; omega
      · have hb : ((s[k].toNat : Int) == c) = false := by simpa using hc
        have hP' := hP.miss (by rw [← HZ.out]; exact hlt) hc
        have HP := Lib.hid hP'; clear hP' hP hc
        go_wp2
        go_roundw
        case rel => exact ⟨acc, a, k + 1, rfl, by go_num, hown, HP.out, hbel⟩
        case measure => simp [intOf]; omega
    · have hP' := hP.done (by rw [← HZ.out]; omega)
      have HP := Lib.hid hP'; clear hP' hP
      go_wp2_with (at_builtin; refine wpList_append_new rfl _ _ 61 rfl w.heap.size 9 (.string ByteArray.empty) 1 16 Tryz.underlying61 Tryz.info_str rfl (by decide) _ _ _ rfl hown [.string (s.extract a s.size)] rfl rfl rfl (by omega) (by unfold maxLen; omega) hbel.size ?_)
      intro v' w' hown' hb'
      rw [strV_extract] at hown'
      have e1 : List.take (s.size - a) (List.drop a s.data.toList) = List.drop a s.data.toList := List.take_of_length_le (by simp)
      rw [e1] at hown'
      have ho2 : w'.ownsRow w.heap.size 9 1 v' (acc ++ [List.drop a s.data.toList]).length ((acc ++ [List.drop a s.data.toList]).map strV) := by simpa using hown'
      rw [HP.out] at ho2
      have HO := Lib.hid ho2; clear ho2 hown' hown e1
      have hbel' := hbel.trans hb'
      clear hb' hbel
      go_wp2
      go_ret
      exact ⟨_, rfl, HO.out, hbel'⟩
set_option maxHeartbeats 1000000 in
theorem refparts_any (s : ByteArray) (c : Int) (w : World) (hs : s.size ≤ 1000000000) :
    Calls Tryz.prog 39 #[.string s, .int .u8 c] w fun e w' => ∃ v, e = .returned v ∧ w'.ownsRow w.heap.size 9 1 v (splitL c s.data.toList).length ((splitL c s.data.toList).map strV) ∧ Bel w.heap.size w w' := by
  have hsz := Lib.size_eq s
  have HZ := Lib.hid hsz; clear hsz
  go_enter Tryz.func39, Tryz.ntmps39
  go_wp2
  go_loopw [5, 6, 7] (fun v st i wr => ∃ (acc : List (List UInt8)) (a k : Nat), st = .int .i64 a ∧ i = .int .i64 k ∧ wr.ownsRow w.heap.size 9 1 v acc.length (acc.map strV) ∧ PInv c s.data.toList acc a k ∧ Bel w.heap.size w wr) (fun _ _ i _ => s.size - (intOf i).toNat)
  case atStart => exact ⟨[], 0, 0, rfl, rfl, World.ownsRow_nil _ _ _ _, PInv.start _ _, Bel.refl _ _⟩
  case round =>
    obtain ⟨acc, a, k, rfl, rfl, hown, hP, hbel⟩ := hrel
    have hP1 := hP.1
    have hP2 := hP.2.1
    have hP3 := hP.2.2.1
    rw [← HZ.out] at hP2
    by_cases hlt : k < s.size
    · by_cases hc : (s[k].toNat : Int) = c
      · have hb : ((s[k].toNat : Int) == c) = true := by simpa using hc
        have hP' := hP.hit (by rw [← HZ.out]; exact hlt) hc
        have HP := Lib.hid hP'; clear hP' hP
        have HC := Lib.hid hc; clear hc
        go_wp2_with (at_builtin; refine wpList_append_new rfl _ _ 61 rfl w.heap.size 9 (.string ByteArray.empty) 1 16 Tryz.underlying61 Tryz.info_str rfl (by decide) _ _ _ rfl hown [.string (s.extract a k)] rfl rfl rfl (by omega) (by unfold maxLen; omega) hbel.size ?_)
        intro v' w' hown' hb'
        rw [strV_extract] at hown'
        have ho2 : w'.ownsRow w.heap.size 9 1 v' (acc ++ [List.take (k - a) (List.drop a s.data.toList)]).length ((acc ++ [List.take (k - a) (List.drop a s.data.toList)]).map strV) := by simpa using hown'
        have HO := Lib.hid ho2; clear ho2 hown' hown
        have hbel' := hbel.trans hb'
        clear hb' hbel
        go_wp2
        go_roundw
        case rel => exact ⟨_, k + 1, k + 1, by go_num, by go_num, HO.out, HP.out, hbel'⟩
        case measure => simp [intOf]; omega
      · have hb : ((s[k].toNat : Int) == c) = false := by simpa using hc
        have hP' := hP.miss (by rw [← HZ.out]; exact hlt) hc
        have HP := Lib.hid hP'; clear hP' hP hc
        go_wp2
        go_roundw
        case rel => exact ⟨acc, a, k + 1, rfl, by go_num, hown, HP.out, hbel⟩
        case measure => simp [intOf]; omega
    · have hP' := hP.done (by rw [← HZ.out]; omega)
      have HP := Lib.hid hP'; clear hP' hP
      go_wp2_with (at_builtin; refine wpList_append_new rfl _ _ 61 rfl w.heap.size 9 (.string ByteArray.empty) 1 16 Tryz.underlying61 Tryz.info_str rfl (by decide) _ _ _ rfl hown [.string (s.extract a s.size)] rfl rfl rfl (by omega) (by unfold maxLen; omega) hbel.size ?_)
      intro v' w' hown' hb'
      rw [strV_extract] at hown'
      have e1 : List.take (s.size - a) (List.drop a s.data.toList) = List.drop a s.data.toList := List.take_of_length_le (by simp)
      rw [e1] at hown'
      have ho2 : w'.ownsRow w.heap.size 9 1 v' (acc ++ [List.drop a s.data.toList]).length ((acc ++ [List.drop a s.data.toList]).map strV) := by simpa using hown'
      rw [HP.out] at ho2
      have HO := Lib.hid ho2; clear ho2 hown' hown e1
      have hbel' := hbel.trans hb'
      clear hb' hbel
      go_wp2
      go_ret
      exact ⟨_, rfl, HO.out, hbel'⟩
end Go.Proofs.YtlbibgofhhdgoaaGreat

namespace Go.Proofs.YtlbibgofhhdgoaaGreat
open Go.RowKit
set_option maxRecDepth 100000

end Go.Proofs.YtlbibgofhhdgoaaGreat

namespace Go.Proofs.YtlbibgofhhdgoaaGreat
open Go.RowKit
set_option maxRecDepth 100000

theorem Ints.nil (w : World) : Ints w (.slice none 0 0) [] := ⟨none, 0, rfl, Nat.le_refl _, by unfold maxLen; omega, fun _ => rfl, fun h => absurd h (by simp)⟩
theorem Ints.cut {w : World} {a : Option Addr} {len cap : Nat} {zs : List Int} (h : Ints w (.slice a len cap) zs) (k : Nat) (hk : k ≤ len) : Ints w (.slice a k cap) (zs.take k) := by
  obtain ⟨a', c', hv, h1, h2, hn, h3⟩ := h.ex
  injection hv with e1 e2 e3
  subst e1 e2 e3
  have e : (zs.take k).length = k := by simp; omega
  refine ⟨a, cap, by rw [e], by omega, h2, hn, fun hp => ?_⟩
  rw [e] at hp ⊢
  obtain ⟨b, off, ha, hlt, hc⟩ := h3 (by omega)
  refine ⟨b, off, ha, hlt, fun j hj => ?_⟩
  rw [hc j (by omega)]
  congr 2
  simp only [List.getD_eq_getElem?_getD, List.getElem?_take, if_pos hj]

/-- A literal, in a block of its own. -/
theorem Ints.lit (w : World) (cs : Array Value) (zs : List Int) (t : TypeId) (h : cs = (zs.map (Value.int .i64)).toArray) (hl : zs.length ≤ 1000) :
    Ints (w.alloc (.cells cs t)) (.slice (some ⟨w.heap.size, 0, none⟩) zs.length zs.length) zs := by
  subst h
  refine ⟨_, _, rfl, Nat.le_refl _, by unfold maxLen; omega, (fun h => by cases h), fun _ => ⟨w.heap.size, 0, rfl, by simp, fun j hj => ?_⟩⟩
  have hh : (w.alloc (.cells (zs.map (Value.int .i64)).toArray t)).heap[w.heap.size]? = some (.cells (zs.map (Value.int .i64)).toArray t) := heap_alloc_new _ _
  simp only [World.cell?, hh, Nat.zero_add]
  simp [List.getD_eq_getElem?_getD, List.getElem?_eq_getElem hj]
theorem Ints.lit1 (w : World) (x : Int) (t : TypeId) : Ints (w.alloc (.cells #[.int .i64 x] t)) (.slice (some ⟨w.heap.size, 0, none⟩) 1 1) [x] :=
  Ints.lit w _ [x] t rfl (by simp)

theorem Ints.owned {w : World} {base : Nat} {e : TypeId} {v : Value} {n : Nat} {ls : List Int} (h : w.ownsRow base e 1 v n (ls.map (Value.int .i64))) (hn : n = ls.length) : Ints w v ls := by
  subst hn
  rcases Joins.ownsRow_forms h with ⟨rfl, h0⟩ | ⟨g, cap, rfl⟩
  · have : ls = [] := List.eq_nil_of_length_eq_zero h0
    subst this
    exact Ints.nil w
  · have hlt := h.lt g rfl
    have hcap : ls.length ≤ cap ∧ cap ≤ maxLen := by
      obtain ⟨_, h | ⟨g', cap', cur, hv, _, _, h1, h2, _⟩⟩ := h
      · cases h.1
      · injection hv with _ _ hc; subst hc; exact ⟨h1, h2⟩
    refine ⟨some ⟨g, 0, none⟩, cap, rfl, hcap.1, hcap.2, (fun h => by cases h), fun _ => ⟨g, 0, rfl, hlt.2, fun j hj => ?_⟩⟩
    rw [Nat.zero_add, h.cellAt j (by omega), List.getElem?_map, List.getD_eq_getElem?_getD, List.getElem?_eq_getElem hj]
    rfl
/-- What 'append(.., l...)' asks of the slice that is appended. -/
theorem Ints.src {w : World} {a : Option Addr} {m c : Nat} {zs : List Int} (h : Ints w (.slice a m c) zs) :
    m = zs.length ∧ (a = none → m = 0 ∧ c = 0) ∧ (∀ ad, a = some ad → ∀ j u, (zs.map (Value.int .i64))[j]? = some u → w.cell? (ad.add j) = some u) := by
  obtain ⟨a', c', hv, h1, h2, hn, h3⟩ := h.ex
  injection hv with e1 e2 e3
  subst e1 e2 e3
  refine ⟨rfl, fun h => ⟨by have := hn h; omega, hn h⟩, fun ad ha j u hu => ?_⟩
  have hj : j < zs.length := by
    rcases Nat.lt_or_ge j zs.length with h | h
    · exact h
    · rw [List.getElem?_eq_none (by simpa using h)] at hu; cases hu
  obtain ⟨b, off, ha', _, hc⟩ := h3 (by omega)
  rw [ha] at ha'
  injection ha' with ha'
  subst ha'
  have h2 : (⟨b, off, none⟩ : Addr).add j = ⟨b, off + j, none⟩ := by unfold Addr.add; split <;> simp_all
  rw [h2, hc j hj, ← hu, List.getElem?_map, List.getD_eq_getElem?_getD, List.getElem?_eq_getElem hj]
  rfl
theorem Ints.cell {w : World} {b off m c : Nat} {zs : List Int} (h : Ints w (.slice (some ⟨b, off, none⟩) m c) zs) (j : Nat) (hj : j < m) : w.cell? ⟨b, off + j, none⟩ = some (.int .i64 (zs.getD j 0)) := by
  obtain ⟨a', c', hv, h1, h2, hn, h3⟩ := h.ex
  injection hv with e1 e2 e3
  subst e1 e2 e3
  obtain ⟨b', off', ha', _, hc⟩ := h3 (by omega)
  injection ha' with ha'
  injection ha' with hb' ho'
  subst hb' ho'
  exact hc j hj
theorem Ints.some {w : World} {a : Option Addr} {m c : Nat} {zs : List Int} (h : Ints w (.slice a m c) zs) (hm : 0 < m) : ∃ b off, a = some ⟨b, off, none⟩ := by
  obtain ⟨a', c', hv, h1, h2, hn, h3⟩ := h.ex
  injection hv with e1 e2 e3
  subst e1 e2 e3
  obtain ⟨b', off', ha', _, hc⟩ := h3 (by omega)
  exact ⟨b', off', ha'⟩
/-- What 'append(.., l...)' asks of the texts that are appended. -/
theorem Strs.src {w : World} {a : Option Addr} {m c : Nat} {zs : List (List UInt8)} (h : Strs w (.slice a m c) zs) :
    m = zs.length ∧ (a = none → m = 0 ∧ c = 0) ∧ (∀ ad, a = some ad → ∀ j u, (zs.map strV)[j]? = some u → w.cell? (ad.add j) = some u) := by
  obtain ⟨a', c', hv, h1, h2, hn, h3⟩ := h.ex
  injection hv with e1 e2 e3
  subst e1 e2 e3
  refine ⟨rfl, fun h => ⟨by have := hn h; omega, hn h⟩, fun ad ha j u hu => ?_⟩
  have hj : j < zs.length := by
    rcases Nat.lt_or_ge j zs.length with h | h
    · exact h
    · rw [List.getElem?_eq_none (by simpa using h)] at hu; cases hu
  obtain ⟨b, off, ha', _, hc⟩ := h3 (by omega)
  rw [ha] at ha'
  injection ha' with ha'
  subst ha'
  have h2 : (⟨b, off, none⟩ : Addr).add j = ⟨b, off + j, none⟩ := by unfold Addr.add; split <;> simp_all
  rw [h2, hc j hj, ← hu, List.getElem?_map, List.getD_eq_getElem?_getD, List.getElem?_eq_getElem hj]
  rfl
theorem splitL_cat (c : Int) (x : UInt8) (hx : (x.toNat : Int) = c) (b : List UInt8) : ∀ a : List UInt8, splitL c (a ++ x :: b) = splitL c a ++ splitL c b
  | [] => by simp [splitL, hx]
  | y :: a => by
    rw [List.cons_append, splitL, splitL, splitL_cat c x hx b a]
    split
    · rfl
    · have := splitL_ne c a
      cases e : splitL c a with
      | nil => exact absurd e this
      | cons u l => rfl

end Go.Proofs.YtlbibgofhhdgoaaGreat

namespace Go.Proofs.YtlbibgofhhdgoaaGreat
open Go.RowKit
set_option maxRecDepth 100000

/-- Parts, put together with an octet between them. -/
def jn (x : UInt8) : List (List UInt8) → List UInt8
  | [] => []
  | p :: ps => p ++ ps.flatMap (fun q => x :: q)
theorem jn_split (c : Int) (x : UInt8) (hx : (x.toNat : Int) = c) : ∀ l : List UInt8, jn x (splitL c l) = l
  | [] => by simp [splitL, jn]
  | y :: l => by
    have ih := jn_split c x hx l
    have hn := splitL_ne c l
    rw [splitL]
    split
    · rename_i h
      have e : y = x := by rw [← UInt8.toNat_inj]; omega
      subst e
      cases hs : splitL c l with
      | nil => exact absurd hs hn
      | cons u t => rw [hs] at ih; simp only [jn, List.nil_append, List.flatMap_cons] at *; rw [List.cons_append, ih]
    · cases hs : splitL c l with
      | nil => exact absurd hs hn
      | cons u t => rw [hs] at ih; simp only [jn, consHead] at *; rw [List.append_assoc, ih]; rfl
end Go.Proofs.YtlbibgofhhdgoaaGreat

namespace Go.Proofs.YtlbibgofhhdgoaaGreat
open Go.RowKit
set_option maxRecDepth 100000

def mkB (l : List UInt8) : ByteArray := ⟨l.toArray⟩
theorem mkB_list (l : List UInt8) : (mkB l).data.toList = l := by simp [mkB]
theorem mkB_size (l : List UInt8) : (mkB l).size = l.length := by rw [Lib.size_eq, mkB_list]
theorem mkB_inj {a b : List UInt8} (h : mkB a = mkB b) : a = b := by rw [← mkB_list a, h, mkB_list]
theorem mkB_of' {x : ByteArray} {l : List UInt8} (h : x.data.toList = l) : x = mkB l := by unfold mkB; rw [← h]
theorem mkB_beq (a b : List UInt8) : (mkB a == mkB b) = decide (a = b) := by
  rw [beq_toListBytes, Lib.toList_data, Lib.toList_data, mkB_list, mkB_list, Bool.eq_iff_iff, beq_iff_eq, decide_eq_true_eq]
theorem mk_beq (a b : List UInt8) : ((mkB a).toList == (mkB b).toList) = decide (a = b) := by
  rw [Lib.toList_data, Lib.toList_data, mkB_list, mkB_list, Bool.eq_iff_iff, beq_iff_eq, decide_eq_true_eq]
theorem strV_mk (s : ByteArray) (a b : Nat) : s.extract a b = mkB ((s.data.toList.drop a).take (b - a)) := by unfold mkB; rw [← Lib.extract_eq]
theorem split_whole (c : Int) (l : List UInt8) (h : ∀ x ∈ l, ¬ (x.toNat : Int) = c) : splitL c l = [l] := by
  induction l with
  | nil => rfl
  | cons x l ih => rw [splitL, if_neg (h x List.mem_cons_self), ih fun y hy => h y (List.mem_cons_of_mem _ hy)]; rfl
theorem split_jn (c : Int) (x : UInt8) (hx : (x.toNat : Int) = c) (ls : List (List UInt8)) (hn : ls ≠ []) (h : ∀ l ∈ ls, ∀ y ∈ l, ¬ (y.toNat : Int) = c) : splitL c (jn x ls) = ls := by
  cases ls with
  | nil => exact absurd rfl hn
  | cons p ps =>
    clear hn
    induction ps generalizing p with
    | nil => simp only [jn, List.flatMap_nil, List.append_nil]; exact split_whole c p (h p List.mem_cons_self)
    | cons q qs ih =>
      have e : jn x (p :: q :: qs) = p ++ x :: jn x (q :: qs) := by simp [jn]
      rw [e, splitL_cat c x hx, ih q fun l hl => h l (List.mem_cons_of_mem _ hl), split_whole c p (h p List.mem_cons_self)]
      rfl
theorem split_le (c : Int) : ∀ l : List UInt8, ∀ p ∈ splitL c l, p.length ≤ l.length
  | [] => by simp [splitL]
  | x :: l => by
    have ih := split_le c l
    rw [splitL]
    split
    · intro p hp
      rcases List.mem_cons.1 hp with rfl | hp
      · simp
      · have := ih p hp; simp; omega
    · cases hs : splitL c l with
      | nil => exact absurd hs (splitL_ne c l)
      | cons u t =>
        rw [hs] at ih
        intro p hp
        rcases List.mem_cons.1 hp with rfl | hp
        · have := ih u List.mem_cons_self; simp; omega
        · have := ih p (List.mem_cons_of_mem _ hp); simp; omega
theorem strs_none (w : World) : Strs w (.slice none 0 0) [] := ⟨none, 0, rfl, Nat.le_refl _, by unfold maxLen; omega, fun _ => rfl, fun h => absurd h (by simp)⟩
theorem strs_drew {w : World} {v : Value} {ls : List (List UInt8)} (h : Strs w v ls) : Strs w.drew v ls := h.drewN 1
def fewL (l : List UInt8) : List UInt8 := l.take 400
theorem fewB_mk (l : List UInt8) : fewB (mkB l) = mkB (fewL l) := by
  unfold fewB fewL
  rw [mkB_size]
  split
  · refine mkB_of' ?_
    have := strV_mk (mkB l) 0 400
    rw [this, mkB_list, mkB_list]; simp
  · rw [List.take_of_length_le (by omega)]
theorem few_l (l : List UInt8) (w : World) (hs : l.length ≤ maxLen) :
    Calls Tryz.prog 9 #[.string (mkB l)] w fun e w' => e = .returned (.string (mkB (fewL l))) ∧ w = w' := by
  have := few_any (mkB l) w (by rw [mkB_size]; exact hs)
  rwa [fewB_mk] at this
theorem few_s (l : List UInt8) (w : World) (hs : l.length ≤ maxLen) :
    Calls Tryz.prog 9 #[.string (mkB l)] w fun e w' => e = .returned (.string (mkB (fewL l))) ∧ w' = w := (few_l l w hs).mono fun _ _ ⟨h, k⟩ => ⟨h, k.symm⟩
theorem empty_iff (s : ByteArray) : s.toList.isEmpty = decide (s.size = 0) := by
  rw [Lib.toList_data, Lib.size_eq]
  cases s.data.toList <;> simp
theorem mem_getD {ls : List (List UInt8)} {k : Nat} (h : k < ls.length) : ls.getD k [] ∈ ls := by
  rw [List.getD_eq_getElem?_getD, List.getElem?_eq_getElem h]
  exact List.getElem_mem h
theorem all_take_succ {p : List UInt8 → Bool} {ls : List (List UInt8)} {k : Nat} (h : k < ls.length) (ht : (ls.take k).all p = true) (hp : p (ls.getD k []) = true) : (ls.take (k + 1)).all p = true := by
  rw [List.take_succ_eq_append_getElem h, List.all_append, ht]
  rw [List.getD_eq_getElem?_getD, List.getElem?_eq_getElem h] at hp
  simpa using hp
theorem strs_at {w : World} {a : Option Addr} {n c : Nat} {ls : List (List UInt8)} (h : Strs w (.slice a n c) ls) (k : Nat) (hk : k < ls.length) :
    ∃ b off, a = some ⟨b, off, none⟩ ∧ b < w.heap.size ∧ w.cell? ⟨b, off + k, none⟩ = some (.string (mkB (ls.getD k []))) := by
  obtain ⟨a', c', hv, _, _, _, h3⟩ := h.ex
  injection hv with e1 e2 e3
  subst e1
  obtain ⟨b, off, ha, hlt, hc⟩ := h3 (by omega)
  exact ⟨b, off, ha, hlt, hc k hk⟩
end Go.Proofs.YtlbibgofhhdgoaaGreat
