/- What the region of VersionSteps that draws 26 operations leaves. -/
import Derived.Test.YtcdflfjbdbofcaaVerW
namespace Go.Proofs.Ytcdflfjbdbofcaa
open Go.RowKit
set_option linter.unusedSimpArgs false
def slot21 : Nat → Nat
  | 0 => 0
  | 1 => 1
  | 2 => 2
  | 3 => 3
  | 4 => 4
  | 5 => 5
  | 6 => 6
  | 7 => 7
  | 8 => 8
  | 9 => 9
  | 10 => 10
  | 11 => 11
  | 12 => 12
  | 13 => 13
  | 14 => 14
  | 15 => 15
  | 16 => 16
  | 17 => 17
  | 18 => 18
  | 19 => 19
  | 20 => 20
  | 21 => 21
  | 22 => 22
  | 24 => 23
  | j => 1000 + j
def src21 : Nat → Nat
  | 0 => 0
  | 1 => 1
  | 2 => 2
  | 3 => 3
  | 4 => 4
  | 5 => 5
  | 6 => 6
  | 7 => 7
  | 8 => 8
  | 9 => 9
  | 10 => 10
  | 11 => 11
  | 12 => 12
  | 13 => 13
  | 14 => 14
  | 15 => 15
  | 16 => 16
  | 17 => 17
  | 18 => 18
  | 19 => 19
  | 20 => 20
  | 21 => 21
  | 22 => 22
  | 24 => 23
  | 23 => 10
  | 25 => 21
  | j => 1000 + j
def role21 : Nat → Nat
  | 0 => 1
  | 3 => 1
  | 10 => 1
  | 7 => 2
  | 9 => 3
  | 11 => 4
  | 14 => 4
  | 21 => 4
  | 18 => 5
  | 20 => 6
  | 23 => 7
  | 26 => 7
  | 25 => 8
  | 27 => 8
  | _ => 0
def till21 : Nat → Nat
  | 0 => 3
  | 3 => 10
  | 7 => 8
  | 9 => 10
  | 11 => 14
  | 14 => 21
  | 18 => 19
  | 20 => 21
  | 26 => 23
  | 27 => 25
  | _ => 1000
def deps21 : Nat → List Nat
  | 3 => [0]
  | 10 => [0, 3]
  | 14 => [11]
  | 21 => [11, 14]
  | 23 => [10]
  | 25 => [21]
  | _ => []

structure C21 where
  X : List Value
  Y : List Value
  g3 : Nat
  ga : Nat
  gb : Nat
  a3 : Option Addr
  c3 : Nat
  p1 : List UInt8
  p2 : List UInt8
  p3 : List UInt8
  pre : List (List UInt8)
  m : UInt8
  wS : World
/-- The version's variable with another row of words. -/
def C21.obj (c : C21) (v : Value) : Obj := .cells #[.string (mkB c.p1), .string (mkB c.p2), .string (mkB c.p3), v] 24
def C21.d (c : C21) : UInt8 := 49 + c.m % 9
def C21.l (c : C21) : UInt8 := 97 + c.m % 26
def C21.leaves (c : C21) : Nat → Leaves
  | 0 => .row c.wS.heap.size 9 0 []
  | 1 => .val (.pointer (some ⟨c.g3, 3, none⟩))
  | 2 => .val (.slice c.a3 c.pre.length c.c3)
  | 3 => .row c.wS.heap.size 9 c.pre.length (c.pre.map strV)
  | 4 => .val (.int .u8 (c.m.toNat : Int))
  | 5 => .val (.int .u8 ((c.m % 9).toNat : Int))
  | 6 => .val (.int .u8 (c.d.toNat : Int))
  | 7 => .blk (.cells #[.int .u8 (c.d.toNat : Int)] 5)
  | 8 => .val (.string (mkB [c.d]))
  | 9 => .blk (.cells #[.string (mkB [c.d])] 9)
  | 10 => .row c.wS.heap.size 9 (c.pre.length + 1) (c.pre.map strV ++ [.string (mkB [c.d])])
  | 11 => .row c.wS.heap.size 9 0 []
  | 12 => .val (.pointer (some ⟨c.g3, 3, none⟩))
  | 13 => .val (.slice c.a3 c.pre.length c.c3)
  | 14 => .row c.wS.heap.size 9 c.pre.length (c.pre.map strV)
  | 15 => .val (.int .u8 (c.m.toNat : Int))
  | 16 => .val (.int .u8 ((c.m % 26).toNat : Int))
  | 17 => .val (.int .u8 (c.l.toNat : Int))
  | 18 => .blk (.cells #[.int .u8 (c.l.toNat : Int)] 5)
  | 19 => .val (.string (mkB [c.l]))
  | 20 => .blk (.cells #[.string (mkB [c.l])] 9)
  | 21 => .row c.wS.heap.size 9 (c.pre.length + 1) (c.pre.map strV ++ [.string (mkB [c.l])])
  | 22 => .val (.pointer (some ⟨c.ga, 3, none⟩))
  | 23 => .cell c.ga c.obj
  | 24 => .val (.pointer (some ⟨c.gb, 3, none⟩))
  | 25 => .cell c.gb c.obj
  | 26 => .cell c.ga fun _ => c.obj (.slice c.a3 c.pre.length c.c3)
  | 27 => .cell c.gb fun _ => c.obj (.slice c.a3 c.pre.length c.c3)
  | _ => .val undef
def C21.plan (c : C21) : Plan := ⟨26, 28, slot21, src21, role21, till21, deps21, c.leaves⟩
theorem apart21 : ((List.range 26).all fun i => (List.range 28).all fun j => j == i || ((slot21 i != src21 j || (deps21 j).contains i) && (role21 j != role21 i || role21 j == 0 || till21 j == i || (deps21 i).contains (till21 j) || (deps21 j).contains i))) = true := by kernel_rfl
theorem C21.good (c : C21) : c.plan.Good := ⟨by kernel_rfl, apart21⟩
def L21 (listed : Array Bool) (j : Nat) : Bool := if j < 26 then listed.getD j false else decide (j < 28)
theorem L21_set {listed : Array Bool} (hs : listed.size = 26) {i : Nat} (hi : i < 26) : L21 (listed.setIfInBounds i true) = upd (L21 listed) i true := by
  funext j
  unfold L21 upd
  by_cases e : j = i
  · subst e
    rw [if_pos hi, if_pos rfl, Array.getD_eq_getD_getElem?, Array.getElem?_setIfInBounds_self_of_lt (by omega)]
    rfl
  · rw [if_neg e, Array.getD_eq_getD_getElem?, Array.getElem?_setIfInBounds_ne (fun h => e h.symm), ← Array.getD_eq_getD_getElem?]
def I21 (c : C21) (listed : Array Bool) (a : Act) (w : World) : Prop :=
  ∃ f who, a = fr c.X c.Y f ∧ c.plan.Inv (L21 listed) w who f ∧ Below c.wS.heap.size c.wS w
structure C21.Ok (c : C21) : Prop where
  hX : c.X.length = 104
  x2 : c.X[2]? = some (.int .u8 (c.m.toNat : Int))
  x3 : c.X[3]? = some (.pointer (some ⟨c.g3, 0, none⟩))
  x20 : c.X[20]? = some (.pointer (some ⟨c.ga, 0, none⟩))
  x21 : c.X[21]? = some (.pointer (some ⟨c.gb, 0, none⟩))
  v3 : VSlot c.wS c.g3 (c.p1, c.p2, c.p3, c.pre) c.a3 c.c3
  ga : c.wS.heap.size ≤ c.ga
  gb : c.wS.heap.size ≤ c.gb
  short : c.pre.length ≤ 400
/-- What an operation's run leads to. -/
structure At (c : C21) (listed : Array Bool) (i : Nat) (f : Nat → Value) (who : Nat → Nat) (w : World) : Prop where
  hs : listed.size = 26
  hi : i < 26
  hL : L21 listed i = false
  need : ∀ d ∈ need21 i, L21 listed d = true
  inv : c.plan.Inv (L21 listed) w who f
  bel : Below c.wS.heap.size c.wS w
section
variable {c : C21} {listed : Array Bool} {i : Nat} {f : Nat → Value} {who : Nat → Nat} {w : World}
theorem At.get (h : At c listed i f who w) (j : Nat) (hj : j < 28) (hn : need21 i = j :: (need21 i).tail ∨ j ∈ need21 i ∨ 26 ≤ j) (ht : till21 j = i ∨ till21 j = 1000) : (c.leaves j).holds (role21 j) w who (f (src21 j)) := by
  have h1 : L21 listed j = true := by
    rcases hn with hn | hn | hn
    · exact h.need j (by rw [hn]; exact List.mem_cons_self)
    · exact h.need j hn
    · unfold L21; rw [if_neg (by omega)]; exact decide_eq_true hj
  refine (h.inv j hj h1).2 ?_
  show L21 listed (till21 j) = false
  rcases ht with ht | ht
  · rw [ht]; exact h.hL
  · rw [ht]; rfl
theorem At.done (h : At c listed i f who w) {w' : World} {who' : Nat → Nat} {v : Value} (hk : Keep (role21 i) w who w' who') (hb : Below c.wS.heap.size c.wS w') (hd : ∀ d ∈ deps21 i, L21 listed d = true)
    (hnew : (c.leaves i).holds (role21 i) w' who' (upd f (slot21 i) v (src21 i))) : I21 c (listed.setIfInBounds i true) (fr c.X c.Y (upd f (slot21 i) v)) w' :=
  ⟨_, who', rfl, by rw [L21_set h.hs h.hi]; exact h.inv.step c.good h.hi h.hL hk hd hnew, hb⟩
/-- A value without memory. -/
theorem At.pure (h : At c listed i f who w) {v : Value} (hl : c.leaves i = .val v) (hd : deps21 i = []) (hsl : src21 i = slot21 i) : I21 c (listed.setIfInBounds i true) (fr c.X c.Y (upd f (slot21 i) v)) w :=
  h.done (Keep.same _ _ _) h.bel (by rw [hd]; intro d hd; cases hd) (by rw [hl, hsl]; exact upd_at _ _ _)
end

theorem fr_const {X Y : List Value} {f : Nat → Value} (v : Value) : (fr X Y f).eval (.const v) = v := rfl
set_option maxRecDepth 100000 in
theorem rem9 (n : UInt8) : ((n.toNat : Int).tmod 9) = ((n % 9).toNat : Int) := u8_all (p := fun n => ((n.toNat : Int).tmod 9) = ((n % 9).toNat : Int)) (by decide) n
set_option maxRecDepth 100000 in
theorem rem26 (n : UInt8) : ((n.toNat : Int).tmod 26) = ((n % 26).toNat : Int) := u8_all (p := fun n => ((n.toNat : Int).tmod 26) = ((n % 26).toNat : Int)) (by decide) n
set_option maxRecDepth 100000 in
theorem add49 (n : UInt8) : IntKind.u8.wrap (49 + (n.toNat : Int) % 9) = ((49 + n % 9).toNat : Int) := u8_all (p := fun n => IntKind.u8.wrap (49 + (n.toNat : Int) % 9) = ((49 + n % 9).toNat : Int)) (by decide) n
set_option maxRecDepth 100000 in
theorem add97 (n : UInt8) : IntKind.u8.wrap (97 + (n.toNat : Int) % 26) = ((97 + n % 26).toNat : Int) := u8_all (p := fun n => IntKind.u8.wrap (97 + (n.toNat : Int) % 26) = ((97 + n % 26).toNat : Int)) (by decide) n
section
variable {c : C21} {listed : Array Bool} {f : Nat → Value} {who : Nat → Nat} {w : World} {Q : Exit → Act → World → Prop}
theorem st0 (ok : c.Ok) (h : At c listed 0 f who w) : wpOp Try.prog ops21 Q 0 (I21 c (listed.setIfInBounds 0 true)) (fr c.X c.Y f) w := by
  obtain ⟨o, ho⟩ := isOp0
  refine wpOp21 ho ?_
  unfold Oper.wp
  simp only [execOp, ho.op, Oper.upon]
  go_simp
  show I21 c _ ((fr c.X c.Y f).put o.dst _) _
  rw [ho.dst, fr_put ok.hX 0 (by decide) rfl]
  exact h.done (Keep.alloc 1 w who _) (h.bel.alloc h.bel.size _) (by intro d hd; cases hd) (by show RowR _ _ 1 _ _ (upd f 0 _ 0) _ _; rw [upd_at]; exact RowR.new _ _ _ h.bel.size)
theorem st11 (ok : c.Ok) (h : At c listed 11 f who w) : wpOp Try.prog ops21 Q 11 (I21 c (listed.setIfInBounds 11 true)) (fr c.X c.Y f) w := by
  obtain ⟨o, ho⟩ := isOp11
  refine wpOp21 ho ?_
  unfold Oper.wp
  simp only [execOp, ho.op, Oper.upon]
  go_simp
  show I21 c _ ((fr c.X c.Y f).put o.dst _) _
  rw [ho.dst, fr_put ok.hX 11 (by decide) rfl]
  exact h.done (Keep.alloc 4 w who _) (h.bel.alloc h.bel.size _) (by intro d hd; cases hd) (by show RowR _ _ 4 _ _ (upd f 11 _ 11) _ _; rw [upd_at]; exact RowR.new _ _ _ h.bel.size)
theorem st1 (ok : c.Ok) (h : At c listed 1 f who w) : wpOp Try.prog ops21 Q 1 (I21 c (listed.setIfInBounds 1 true)) (fr c.X c.Y f) w := by
  obtain ⟨o, ho⟩ := isOp1
  refine wpOp21 ho ?_
  unfold Oper.wp
  simp only [execOp, ho.op, Oper.upon, fr_old ok.hX (by decide) ok.x3]
  go_simp
  show I21 c _ ((fr c.X c.Y f).put o.dst _) _
  rw [ho.dst, fr_put ok.hX 1 (by decide) rfl]
  exact h.pure rfl rfl rfl
theorem st12 (ok : c.Ok) (h : At c listed 12 f who w) : wpOp Try.prog ops21 Q 12 (I21 c (listed.setIfInBounds 12 true)) (fr c.X c.Y f) w := by
  obtain ⟨o, ho⟩ := isOp12
  refine wpOp21 ho ?_
  unfold Oper.wp
  simp only [execOp, ho.op, Oper.upon, fr_old ok.hX (by decide) ok.x3]
  go_simp
  show I21 c _ ((fr c.X c.Y f).put o.dst _) _
  rw [ho.dst, fr_put ok.hX 12 (by decide) rfl]
  exact h.pure rfl rfl rfl
theorem st2 (ok : c.Ok) (h : At c listed 2 f who w) : wpOp Try.prog ops21 Q 2 (I21 c (listed.setIfInBounds 2 true)) (fr c.X c.Y f) w := by
  obtain ⟨o, ho⟩ := isOp2
  refine wpOp21 ho ?_
  have e1 : f 1 = .pointer (some ⟨c.g3, 3, none⟩) := h.get 1 (by decide) (.inr (.inl (by decide))) (.inr rfl)
  have e2 : w.cell? ⟨c.g3, 3, none⟩ = some (.slice c.a3 c.pre.length c.c3) := (row4 (ok.v3.below h.bel).row).2.2.2.1
  unfold Oper.wp
  simp only [execOp, ho.op, Oper.upon, fr_new ok.hX 1 (by decide) rfl, e1]
  go_simp
  show I21 c _ ((fr c.X c.Y f).put o.dst _) _
  rw [ho.dst, fr_put ok.hX 2 (by decide) rfl]
  exact h.pure rfl rfl rfl
theorem st13 (ok : c.Ok) (h : At c listed 13 f who w) : wpOp Try.prog ops21 Q 13 (I21 c (listed.setIfInBounds 13 true)) (fr c.X c.Y f) w := by
  obtain ⟨o, ho⟩ := isOp13
  refine wpOp21 ho ?_
  have e1 : f 12 = .pointer (some ⟨c.g3, 3, none⟩) := h.get 12 (by decide) (.inr (.inl (by decide))) (.inr rfl)
  have e2 : w.cell? ⟨c.g3, 3, none⟩ = some (.slice c.a3 c.pre.length c.c3) := (row4 (ok.v3.below h.bel).row).2.2.2.1
  unfold Oper.wp
  simp only [execOp, ho.op, Oper.upon, fr_new ok.hX 12 (by decide) rfl, e1]
  go_simp
  show I21 c _ ((fr c.X c.Y f).put o.dst _) _
  rw [ho.dst, fr_put ok.hX 13 (by decide) rfl]
  exact h.pure rfl rfl rfl
theorem st4 (ok : c.Ok) (h : At c listed 4 f who w) : wpOp Try.prog ops21 Q 4 (I21 c (listed.setIfInBounds 4 true)) (fr c.X c.Y f) w := by
  obtain ⟨o, ho⟩ := isOp4
  refine wpOp21 ho ?_
  unfold Oper.wp
  simp only [execOp, ho.op, Oper.upon, fr_old ok.hX (by decide) ok.x2]
  go_simp
  show I21 c _ ((fr c.X c.Y f).put o.dst _) _
  rw [ho.dst, fr_put ok.hX 4 (by decide) rfl]
  exact h.pure rfl rfl rfl
theorem st15 (ok : c.Ok) (h : At c listed 15 f who w) : wpOp Try.prog ops21 Q 15 (I21 c (listed.setIfInBounds 15 true)) (fr c.X c.Y f) w := by
  obtain ⟨o, ho⟩ := isOp15
  refine wpOp21 ho ?_
  unfold Oper.wp
  simp only [execOp, ho.op, Oper.upon, fr_old ok.hX (by decide) ok.x2]
  go_simp
  show I21 c _ ((fr c.X c.Y f).put o.dst _) _
  rw [ho.dst, fr_put ok.hX 15 (by decide) rfl]
  exact h.pure rfl rfl rfl
theorem st5 (ok : c.Ok) (h : At c listed 5 f who w) : wpOp Try.prog ops21 Q 5 (I21 c (listed.setIfInBounds 5 true)) (fr c.X c.Y f) w := by
  obtain ⟨o, ho⟩ := isOp5
  refine wpOp21 ho ?_
  have e1 : f 4 = .int .u8 (c.m.toNat : Int) := h.get 4 (by decide) (.inr (.inl (by decide))) (.inr rfl)
  unfold Oper.wp
  simp only [execOp, ho.op, Oper.upon, fr_new ok.hX 4 (by decide) rfl, e1, fr_const]
  go_simp
  show I21 c _ ((fr c.X c.Y f).put o.dst _) _
  rw [ho.dst, fr_put ok.hX 5 (by decide) rfl]
  rw [rem9]
  exact h.pure rfl rfl rfl
theorem st16 (ok : c.Ok) (h : At c listed 16 f who w) : wpOp Try.prog ops21 Q 16 (I21 c (listed.setIfInBounds 16 true)) (fr c.X c.Y f) w := by
  obtain ⟨o, ho⟩ := isOp16
  refine wpOp21 ho ?_
  have e1 : f 15 = .int .u8 (c.m.toNat : Int) := h.get 15 (by decide) (.inr (.inl (by decide))) (.inr rfl)
  unfold Oper.wp
  simp only [execOp, ho.op, Oper.upon, fr_new ok.hX 15 (by decide) rfl, e1, fr_const]
  go_simp
  show I21 c _ ((fr c.X c.Y f).put o.dst _) _
  rw [ho.dst, fr_put ok.hX 16 (by decide) rfl]
  rw [rem26]
  exact h.pure rfl rfl rfl
theorem st6 (ok : c.Ok) (h : At c listed 6 f who w) : wpOp Try.prog ops21 Q 6 (I21 c (listed.setIfInBounds 6 true)) (fr c.X c.Y f) w := by
  obtain ⟨o, ho⟩ := isOp6
  refine wpOp21 ho ?_
  have e1 : f 5 = .int .u8 ((c.m % 9).toNat : Int) := h.get 5 (by decide) (.inr (.inl (by decide))) (.inr rfl)
  unfold Oper.wp
  simp only [execOp, ho.op, Oper.upon, fr_new ok.hX 5 (by decide) rfl, e1, fr_const]
  go_simp
  show I21 c _ ((fr c.X c.Y f).put o.dst _) _
  rw [ho.dst, fr_put ok.hX 6 (by decide) rfl]
  rw [add49]
  exact h.pure rfl rfl rfl
theorem st17 (ok : c.Ok) (h : At c listed 17 f who w) : wpOp Try.prog ops21 Q 17 (I21 c (listed.setIfInBounds 17 true)) (fr c.X c.Y f) w := by
  obtain ⟨o, ho⟩ := isOp17
  refine wpOp21 ho ?_
  have e1 : f 16 = .int .u8 ((c.m % 26).toNat : Int) := h.get 16 (by decide) (.inr (.inl (by decide))) (.inr rfl)
  unfold Oper.wp
  simp only [execOp, ho.op, Oper.upon, fr_new ok.hX 16 (by decide) rfl, e1, fr_const]
  go_simp
  show I21 c _ ((fr c.X c.Y f).put o.dst _) _
  rw [ho.dst, fr_put ok.hX 17 (by decide) rfl]
  rw [add97]
  exact h.pure rfl rfl rfl
theorem st7 (ok : c.Ok) (h : At c listed 7 f who w) : wpOp Try.prog ops21 Q 7 (I21 c (listed.setIfInBounds 7 true)) (fr c.X c.Y f) w := by
  obtain ⟨o, ho⟩ := isOp7
  refine wpOp21 ho ?_
  have e1 : f 6 = .int .u8 (c.d.toNat : Int) := h.get 6 (by decide) (.inr (.inl (by decide))) (.inr rfl)
  unfold Oper.wp
  simp only [execOp, ho.op, Oper.upon]
  simp [fr_new ok.hX 6 (by decide) rfl, e1]
  go_simp
  show I21 c _ ((fr c.X c.Y f).put o.dst _) _
  rw [ho.dst, fr_put ok.hX 7 (by decide) rfl]
  exact h.done (Keep.alloc 2 w who _) (h.bel.alloc h.bel.size _) (by intro d hd; cases hd) (by show BlkR 2 _ _ (upd f 7 _ 7) _; rw [upd_at]; exact BlkR.new _ _ _ _)
theorem st18 (ok : c.Ok) (h : At c listed 18 f who w) : wpOp Try.prog ops21 Q 18 (I21 c (listed.setIfInBounds 18 true)) (fr c.X c.Y f) w := by
  obtain ⟨o, ho⟩ := isOp18
  refine wpOp21 ho ?_
  have e1 : f 17 = .int .u8 (c.l.toNat : Int) := h.get 17 (by decide) (.inr (.inl (by decide))) (.inr rfl)
  unfold Oper.wp
  simp only [execOp, ho.op, Oper.upon]
  simp [fr_new ok.hX 17 (by decide) rfl, e1]
  go_simp
  show I21 c _ ((fr c.X c.Y f).put o.dst _) _
  rw [ho.dst, fr_put ok.hX 18 (by decide) rfl]
  exact h.done (Keep.alloc 5 w who _) (h.bel.alloc h.bel.size _) (by intro d hd; cases hd) (by show BlkR 5 _ _ (upd f 18 _ 18) _; rw [upd_at]; exact BlkR.new _ _ _ _)
theorem st8 (ok : c.Ok) (h : At c listed 8 f who w) : wpOp Try.prog ops21 Q 8 (I21 c (listed.setIfInBounds 8 true)) (fr c.X c.Y f) w := by
  obtain ⟨o, ho⟩ := isOp8
  refine wpOp21 ho ?_
  obtain ⟨b, e1, hb, _⟩ : BlkR 2 w who (f 7) (.cells #[.int .u8 (c.d.toNat : Int)] 5) := h.get 7 (by decide) (.inr (.inl (by decide))) (.inl rfl)
  have hrun : Sem.run Try.prog (convert 46 9 (.slice (some ⟨b, 0, none⟩) 1 1)) w = .ok (.string (mkB [c.d])) w := by
    refine run_convert_bytes_back w 46 9 5 ⟨b, 0, none⟩ 1 [c.d] Try.underlying46 Try.underlying5 Try.underlying9 fun j hj => ?_
    have hj0 : j = 0 := by simp at hj; omega
    subst hj0
    unfold World.cell?
    simp [Addr.add, hb]
  unfold Oper.wp
  simp only [execOp, ho.op, Oper.upon, fr_new ok.hX 7 (by decide) rfl, e1]
  simp only [hrun, Sem.run_bind, Result.andThen_ok, Sem.run_pure]
  show I21 c _ ((fr c.X c.Y f).put o.dst _) _
  rw [ho.dst, fr_put ok.hX 8 (by decide) rfl]
  exact h.pure rfl rfl rfl
theorem st19 (ok : c.Ok) (h : At c listed 19 f who w) : wpOp Try.prog ops21 Q 19 (I21 c (listed.setIfInBounds 19 true)) (fr c.X c.Y f) w := by
  obtain ⟨o, ho⟩ := isOp19
  refine wpOp21 ho ?_
  obtain ⟨b, e1, hb, _⟩ : BlkR 5 w who (f 18) (.cells #[.int .u8 (c.l.toNat : Int)] 5) := h.get 18 (by decide) (.inr (.inl (by decide))) (.inl rfl)
  have hrun : Sem.run Try.prog (convert 46 9 (.slice (some ⟨b, 0, none⟩) 1 1)) w = .ok (.string (mkB [c.l])) w := by
    refine run_convert_bytes_back w 46 9 5 ⟨b, 0, none⟩ 1 [c.l] Try.underlying46 Try.underlying5 Try.underlying9 fun j hj => ?_
    have hj0 : j = 0 := by simp at hj; omega
    subst hj0
    unfold World.cell?
    simp [Addr.add, hb]
  unfold Oper.wp
  simp only [execOp, ho.op, Oper.upon, fr_new ok.hX 18 (by decide) rfl, e1]
  simp only [hrun, Sem.run_bind, Result.andThen_ok, Sem.run_pure]
  show I21 c _ ((fr c.X c.Y f).put o.dst _) _
  rw [ho.dst, fr_put ok.hX 19 (by decide) rfl]
  exact h.pure rfl rfl rfl
theorem st9 (ok : c.Ok) (h : At c listed 9 f who w) : wpOp Try.prog ops21 Q 9 (I21 c (listed.setIfInBounds 9 true)) (fr c.X c.Y f) w := by
  obtain ⟨o, ho⟩ := isOp9
  refine wpOp21 ho ?_
  have e1 : f 8 = .string (mkB [c.d]) := h.get 8 (by decide) (.inr (.inl (by decide))) (.inr rfl)
  unfold Oper.wp
  simp only [execOp, ho.op, Oper.upon]
  simp [fr_new ok.hX 8 (by decide) rfl, e1]
  go_simp
  show I21 c _ ((fr c.X c.Y f).put o.dst _) _
  rw [ho.dst, fr_put ok.hX 9 (by decide) rfl]
  exact h.done (Keep.alloc 3 w who _) (h.bel.alloc h.bel.size _) (by intro d hd; cases hd) (by show BlkR 3 _ _ (upd f 9 _ 9) _; rw [upd_at]; exact BlkR.new _ _ _ _)
theorem st20 (ok : c.Ok) (h : At c listed 20 f who w) : wpOp Try.prog ops21 Q 20 (I21 c (listed.setIfInBounds 20 true)) (fr c.X c.Y f) w := by
  obtain ⟨o, ho⟩ := isOp20
  refine wpOp21 ho ?_
  have e1 : f 19 = .string (mkB [c.l]) := h.get 19 (by decide) (.inr (.inl (by decide))) (.inr rfl)
  unfold Oper.wp
  simp only [execOp, ho.op, Oper.upon]
  simp [fr_new ok.hX 19 (by decide) rfl, e1]
  go_simp
  show I21 c _ ((fr c.X c.Y f).put o.dst _) _
  rw [ho.dst, fr_put ok.hX 20 (by decide) rfl]
  exact h.done (Keep.alloc 6 w who _) (h.bel.alloc h.bel.size _) (by intro d hd; cases hd) (by show BlkR 6 _ _ (upd f 20 _ 20) _; rw [upd_at]; exact BlkR.new _ _ _ _)
theorem st22 (ok : c.Ok) (h : At c listed 22 f who w) : wpOp Try.prog ops21 Q 22 (I21 c (listed.setIfInBounds 22 true)) (fr c.X c.Y f) w := by
  obtain ⟨o, ho⟩ := isOp22
  refine wpOp21 ho ?_
  unfold Oper.wp
  simp only [execOp, ho.op, Oper.upon, fr_old ok.hX (by decide) ok.x20]
  go_simp
  show I21 c _ ((fr c.X c.Y f).put o.dst _) _
  rw [ho.dst, fr_put ok.hX 22 (by decide) rfl]
  exact h.pure rfl rfl rfl
theorem st24 (ok : c.Ok) (h : At c listed 24 f who w) : wpOp Try.prog ops21 Q 24 (I21 c (listed.setIfInBounds 24 true)) (fr c.X c.Y f) w := by
  obtain ⟨o, ho⟩ := isOp24
  refine wpOp21 ho ?_
  unfold Oper.wp
  simp only [execOp, ho.op, Oper.upon, fr_old ok.hX (by decide) ok.x21]
  go_simp
  show I21 c _ ((fr c.X c.Y f).put o.dst _) _
  rw [ho.dst, fr_put ok.hX 23 (by decide) rfl]
  exact h.pure rfl rfl rfl
theorem keep_app {P : Program} {o : Oper} {s x : Nat} (ho : o.op = .call { callee := .builtin .append, args := #[.tmp s, .tmp x], argTypes := #[22, 22] }) {a : Act} {K : Act → World → Prop} {v u v' : Value} {w' : World}
    (hs : a.eval (.tmp s) = v) (hx : a.eval (.tmp x) = u) (hr : (Builtin.append_ #[22, 22] o.type #[v, u]).run P w = .ok v' w') (h : K (a.put o.dst v') w') : o.wp P a w K Q := by
  unfold Oper.wp execOp
  simp only [ho, resolve, invoke, builtin, Sem.run_bind, Sem.run_pure, Result.andThen_ok, List.map_toArray, List.map_cons, List.map_nil, hs, hx, hr]
  exact h
theorem st3 (ok : c.Ok) (h : At c listed 3 f who w) : wpOp Try.prog ops21 Q 3 (I21 c (listed.setIfInBounds 3 true)) (fr c.X c.Y f) w := by
  obtain ⟨o, ho⟩ := isOp3
  refine wpOp21 ho ?_
  obtain ⟨hown, b, hb, hw⟩ : RowR c.wS.heap.size 9 1 w who (f 0) 0 [] := h.get 0 (by decide) (.inr (.inl (by decide))) (.inl rfl)
  have e2 : f 2 = .slice c.a3 c.pre.length c.c3 := h.get 2 (by decide) (.inr (.inl (by decide))) (.inr rfl)
  have hdp : ∀ d ∈ deps21 3, L21 listed d = true := fun d hd => h.need d (by revert hd; revert d; decide)
  obtain ⟨ti, hti, hz, hsize, hby⟩ := info_parts Try.info_str
  have hst := ok.v3.st.below h.bel
  obtain ⟨_, hnil, hsrc⟩ := hst.src
  simp only at hnil hsrc
  have hsh := ok.short
  cases ha : c.a3 with
  | none =>
    obtain ⟨hm, hc0⟩ := hnil ha
    have hpre : c.pre = [] := List.length_eq_zero_iff.1 hm
    have hr := run_append_owned_none (P := Try.prog) (w := w) c.wS.heap.size 22 o.type 9 ti 1 Try.underlying22 hti (f 0) 0 [] hown
    refine keep_app ho.op (fr_new ok.hX 0 (by decide) rfl) ((fr_new ok.hX 2 (by decide) rfl).trans (e2.trans (by rw [ha, hm, hc0]))) hr ?_
    rw [ho.dst, fr_put ok.hX 3 (by decide) rfl]
    refine h.done (Keep.same _ _ _) h.bel hdp ?_
    show RowR _ _ 1 _ _ (upd f 3 _ 3) _ _
    rw [upd_at, hpre]
    exact ⟨hown, b, hb, hw⟩
  | some ad =>
    obtain ⟨v', w', hr, h2, h3, h4⟩ := run_append_at (P := Try.prog) (w := w) c.wS.heap.size 22 o.type 9 ti _ 16 Try.underlying22 hti hz hsize hby (by decide) (f 0) 0 [] hown hb ad c.pre.length c.c3 (c.pre.map strV) (by simp) (hsrc ad ha) (fun u hu => List.all_eq_true.1 (strs_one _) u hu) (by unfold maxLen; omega) (by omega) h.bel.size
    refine keep_app ho.op (fr_new ok.hX 0 (by decide) rfl) ((fr_new ok.hX 2 (by decide) rfl).trans (e2.trans (by rw [ha]))) hr ?_
    rw [ho.dst, fr_put ok.hX 3 (by decide) rfl]
    refine h.done (Keep.grown h3 hw) (h.bel.grown h3 h.bel.size (fun k hk => by injection hk with hk; subst hk; exact (hown.lt b hb).1)) hdp ?_
    show RowR _ _ 1 _ _ (upd f 3 _ 3) _ _
    rw [upd_at]
    rw [Nat.zero_add, List.nil_append] at h2
    exact ⟨h2, row_at h3 hw h4 (hown.lt b hb).2⟩
theorem st14 (ok : c.Ok) (h : At c listed 14 f who w) : wpOp Try.prog ops21 Q 14 (I21 c (listed.setIfInBounds 14 true)) (fr c.X c.Y f) w := by
  obtain ⟨o, ho⟩ := isOp14
  refine wpOp21 ho ?_
  obtain ⟨hown, b, hb, hw⟩ : RowR c.wS.heap.size 9 4 w who (f 11) 0 [] := h.get 11 (by decide) (.inr (.inl (by decide))) (.inl rfl)
  have e2 : f 13 = .slice c.a3 c.pre.length c.c3 := h.get 13 (by decide) (.inr (.inl (by decide))) (.inr rfl)
  have hdp : ∀ d ∈ deps21 14, L21 listed d = true := fun d hd => h.need d (by revert hd; revert d; decide)
  obtain ⟨ti, hti, hz, hsize, hby⟩ := info_parts Try.info_str
  have hst := ok.v3.st.below h.bel
  obtain ⟨_, hnil, hsrc⟩ := hst.src
  simp only at hnil hsrc
  have hsh := ok.short
  cases ha : c.a3 with
  | none =>
    obtain ⟨hm, hc0⟩ := hnil ha
    have hpre : c.pre = [] := List.length_eq_zero_iff.1 hm
    have hr := run_append_owned_none (P := Try.prog) (w := w) c.wS.heap.size 22 o.type 9 ti 1 Try.underlying22 hti (f 11) 0 [] hown
    refine keep_app ho.op (fr_new ok.hX 11 (by decide) rfl) ((fr_new ok.hX 13 (by decide) rfl).trans (e2.trans (by rw [ha, hm, hc0]))) hr ?_
    rw [ho.dst, fr_put ok.hX 14 (by decide) rfl]
    refine h.done (Keep.same _ _ _) h.bel hdp ?_
    show RowR _ _ 4 _ _ (upd f 14 _ 14) _ _
    rw [upd_at, hpre]
    exact ⟨hown, b, hb, hw⟩
  | some ad =>
    obtain ⟨v', w', hr, h2, h3, h4⟩ := run_append_at (P := Try.prog) (w := w) c.wS.heap.size 22 o.type 9 ti _ 16 Try.underlying22 hti hz hsize hby (by decide) (f 11) 0 [] hown hb ad c.pre.length c.c3 (c.pre.map strV) (by simp) (hsrc ad ha) (fun u hu => List.all_eq_true.1 (strs_one _) u hu) (by unfold maxLen; omega) (by omega) h.bel.size
    refine keep_app ho.op (fr_new ok.hX 11 (by decide) rfl) ((fr_new ok.hX 13 (by decide) rfl).trans (e2.trans (by rw [ha]))) hr ?_
    rw [ho.dst, fr_put ok.hX 14 (by decide) rfl]
    refine h.done (Keep.grown h3 hw) (h.bel.grown h3 h.bel.size (fun k hk => by injection hk with hk; subst hk; exact (hown.lt b hb).1)) hdp ?_
    show RowR _ _ 4 _ _ (upd f 14 _ 14) _ _
    rw [upd_at]
    rw [Nat.zero_add, List.nil_append] at h2
    exact ⟨h2, row_at h3 hw h4 (hown.lt b hb).2⟩
theorem st10 (ok : c.Ok) (h : At c listed 10 f who w) : wpOp Try.prog ops21 Q 10 (I21 c (listed.setIfInBounds 10 true)) (fr c.X c.Y f) w := by
  obtain ⟨o, ho⟩ := isOp10
  refine wpOp21 ho ?_
  obtain ⟨hown, b, hb, hw⟩ : RowR c.wS.heap.size 9 1 w who (f 3) c.pre.length (c.pre.map strV) := h.get 3 (by decide) (.inr (.inl (by decide))) (.inl rfl)
  obtain ⟨g, e2, hg, _⟩ : BlkR 3 w who (f 9) (.cells #[.string (mkB [c.d])] 9) := h.get 9 (by decide) (.inr (.inl (by decide))) (.inl rfl)
  have hdp : ∀ d ∈ deps21 10, L21 listed d = true := by
    have h3 := h.need 3 (by decide)
    have h0 := (h.inv 3 (show 3 < 28 by decide) h3).1
    intro d hd
    simp only [deps21, List.mem_cons, List.not_mem_nil, or_false] at hd
    rcases hd with rfl | rfl
    · exact h0 _ (show 0 ∈ deps21 3 by decide)
    · exact h3
  obtain ⟨ti, hti, hz, hsize, hby⟩ := info_parts Try.info_str
  have hsh := ok.short
  obtain ⟨v', w', hr, h2, h3, h4⟩ := run_append_at (P := Try.prog) (w := w) c.wS.heap.size 22 o.type 9 ti _ 16 Try.underlying22 hti hz hsize hby (by decide) (f 3) c.pre.length (c.pre.map strV) hown hb ⟨g, 0, none⟩ 1 1 [.string (mkB [c.d])] rfl (by
    intro j u hj
    have hj0 : j = 0 := by
      cases j with
      | zero => rfl
      | succ j => simp at hj
    subst hj0
    simp only [List.getElem?_cons_zero, Option.some.injEq] at hj
    subst hj
    unfold World.cell?
    simp [Addr.add, hg]) (by intro u hu; simp only [List.mem_singleton] at hu; subst hu; rfl) (by unfold maxLen; omega) (by omega) h.bel.size
  refine keep_app ho.op (fr_new ok.hX 3 (by decide) rfl) ((fr_new ok.hX 9 (by decide) rfl).trans e2) hr ?_
  rw [ho.dst, fr_put ok.hX 10 (by decide) rfl]
  refine h.done (Keep.grown h3 hw) (h.bel.grown h3 h.bel.size (fun k hk => by injection hk with hk; subst hk; exact (hown.lt b hb).1)) hdp ?_
  show RowR _ _ 1 _ _ (upd f 10 _ 10) _ _
  rw [upd_at]
  exact ⟨h2, row_at h3 hw h4 (hown.lt b hb).2⟩
theorem st21 (ok : c.Ok) (h : At c listed 21 f who w) : wpOp Try.prog ops21 Q 21 (I21 c (listed.setIfInBounds 21 true)) (fr c.X c.Y f) w := by
  obtain ⟨o, ho⟩ := isOp21
  refine wpOp21 ho ?_
  obtain ⟨hown, b, hb, hw⟩ : RowR c.wS.heap.size 9 4 w who (f 14) c.pre.length (c.pre.map strV) := h.get 14 (by decide) (.inr (.inl (by decide))) (.inl rfl)
  obtain ⟨g, e2, hg, _⟩ : BlkR 6 w who (f 20) (.cells #[.string (mkB [c.l])] 9) := h.get 20 (by decide) (.inr (.inl (by decide))) (.inl rfl)
  have hdp : ∀ d ∈ deps21 21, L21 listed d = true := by
    have h3 := h.need 14 (by decide)
    have h0 := (h.inv 14 (show 14 < 28 by decide) h3).1
    intro d hd
    simp only [deps21, List.mem_cons, List.not_mem_nil, or_false] at hd
    rcases hd with rfl | rfl
    · exact h0 _ (show 11 ∈ deps21 14 by decide)
    · exact h3
  obtain ⟨ti, hti, hz, hsize, hby⟩ := info_parts Try.info_str
  have hsh := ok.short
  obtain ⟨v', w', hr, h2, h3, h4⟩ := run_append_at (P := Try.prog) (w := w) c.wS.heap.size 22 o.type 9 ti _ 16 Try.underlying22 hti hz hsize hby (by decide) (f 14) c.pre.length (c.pre.map strV) hown hb ⟨g, 0, none⟩ 1 1 [.string (mkB [c.l])] rfl (by
    intro j u hj
    have hj0 : j = 0 := by
      cases j with
      | zero => rfl
      | succ j => simp at hj
    subst hj0
    simp only [List.getElem?_cons_zero, Option.some.injEq] at hj
    subst hj
    unfold World.cell?
    simp [Addr.add, hg]) (by intro u hu; simp only [List.mem_singleton] at hu; subst hu; rfl) (by unfold maxLen; omega) (by omega) h.bel.size
  refine keep_app ho.op (fr_new ok.hX 14 (by decide) rfl) ((fr_new ok.hX 20 (by decide) rfl).trans e2) hr ?_
  rw [ho.dst, fr_put ok.hX 21 (by decide) rfl]
  refine h.done (Keep.grown h3 hw) (h.bel.grown h3 h.bel.size (fun k hk => by injection hk with hk; subst hk; exact (hown.lt b hb).1)) hdp ?_
  show RowR _ _ 4 _ _ (upd f 21 _ 21) _ _
  rw [upd_at]
  exact ⟨h2, row_at h3 hw h4 (hown.lt b hb).2⟩
theorem st23 (ok : c.Ok) (h : At c listed 23 f who w) : wpOp Try.prog ops21 Q 23 (I21 c (listed.setIfInBounds 23 true)) (fr c.X c.Y f) w := by
  obtain ⟨o, ho⟩ := isOp23
  refine wpOp21 ho ?_
  have e1 : f 22 = .pointer (some ⟨c.ga, 3, none⟩) := h.get 22 (by decide) (.inr (.inl (by decide))) (.inr rfl)
  obtain ⟨hown, b, hb, hw⟩ : RowR c.wS.heap.size 9 1 w who (f 10) (c.pre.length + 1) (c.pre.map strV ++ [Value.string (mkB [c.d])]) := h.get 10 (by decide) (.inr (.inl (by decide))) (.inr rfl)
  obtain ⟨hrow, hwg⟩ : w.heap[c.ga]? = some (c.obj (.slice c.a3 c.pre.length c.c3)) ∧ who c.ga = 7 := h.get 26 (by decide) (.inr (.inr (by decide))) (.inl rfl)
  have hdp : ∀ d ∈ deps21 23, L21 listed d = true := fun d hd => h.need d (by revert hd; revert d; decide)
  obtain ⟨_, _, _, c3, _, _, _, f3⟩ := row4 hrow
  obtain ⟨ad, cap, e2⟩ : ∃ ad cap, f 10 = .slice (some ad) (c.pre.length + 1) cap := by
    rcases hown.2 with ⟨e, _⟩ | ⟨g, cap, _, e, _⟩
    · rw [e] at hb; cases hb
    · exact ⟨_, _, e⟩
  have hnew : ((w.setCell ⟨c.ga, 3, none⟩ (f 10)).heap[c.ga]? = some (c.obj (f 10))) := row4_set3 hrow (f 10)
  have hbel : Below c.wS.heap.size c.wS (w.setCell ⟨c.ga, 3, none⟩ (f 10)) := h.bel.setCell ok.ga _
  have hkeep := Keep.cell (r := 7) (i := 3) (w := w) hwg (f 10)
  rw [e2] at hnew hbel hkeep
  unfold Oper.wp
  simp only [execOp, ho.op, Oper.upon, fr_new ok.hX 22 (by decide) rfl, fr_new ok.hX 10 (by decide) rfl, e1, e2]
  go_simp
  show I21 c _ ((fr c.X c.Y f).put o.dst _) _
  rw [ho.dst, fr_putn]
  have hz := h.done (v := f (slot21 23)) hkeep hbel hdp (by rw [upd_self]; rw [← e2] at hnew ⊢; exact ⟨hnew, hwg⟩)
  rw [upd_self] at hz
  exact hz
theorem st25 (ok : c.Ok) (h : At c listed 25 f who w) : wpOp Try.prog ops21 Q 25 (I21 c (listed.setIfInBounds 25 true)) (fr c.X c.Y f) w := by
  obtain ⟨o, ho⟩ := isOp25
  refine wpOp21 ho ?_
  have e1 : f 23 = .pointer (some ⟨c.gb, 3, none⟩) := h.get 24 (by decide) (.inr (.inl (by decide))) (.inr rfl)
  obtain ⟨hown, b, hb, hw⟩ : RowR c.wS.heap.size 9 4 w who (f 21) (c.pre.length + 1) (c.pre.map strV ++ [Value.string (mkB [c.l])]) := h.get 21 (by decide) (.inr (.inl (by decide))) (.inr rfl)
  obtain ⟨hrow, hwg⟩ : w.heap[c.gb]? = some (c.obj (.slice c.a3 c.pre.length c.c3)) ∧ who c.gb = 8 := h.get 27 (by decide) (.inr (.inr (by decide))) (.inl rfl)
  have hdp : ∀ d ∈ deps21 25, L21 listed d = true := fun d hd => h.need d (by revert hd; revert d; decide)
  obtain ⟨_, _, _, c3, _, _, _, f3⟩ := row4 hrow
  obtain ⟨ad, cap, e2⟩ : ∃ ad cap, f 21 = .slice (some ad) (c.pre.length + 1) cap := by
    rcases hown.2 with ⟨e, _⟩ | ⟨g, cap, _, e, _⟩
    · rw [e] at hb; cases hb
    · exact ⟨_, _, e⟩
  have hnew : ((w.setCell ⟨c.gb, 3, none⟩ (f 21)).heap[c.gb]? = some (c.obj (f 21))) := row4_set3 hrow (f 21)
  have hbel : Below c.wS.heap.size c.wS (w.setCell ⟨c.gb, 3, none⟩ (f 21)) := h.bel.setCell ok.gb _
  have hkeep := Keep.cell (r := 8) (i := 3) (w := w) hwg (f 21)
  rw [e2] at hnew hbel hkeep
  unfold Oper.wp
  simp only [execOp, ho.op, Oper.upon, fr_new ok.hX 23 (by decide) rfl, fr_new ok.hX 21 (by decide) rfl, e1, e2]
  go_simp
  show I21 c _ ((fr c.X c.Y f).put o.dst _) _
  rw [ho.dst, fr_putn]
  have hz := h.done (v := f (slot21 25)) hkeep hbel hdp (by rw [upd_self]; rw [← e2] at hnew ⊢; exact ⟨hnew, hwg⟩)
  rw [upd_self] at hz
  exact hz
theorem before21 : ((List.range 26).all fun i => (ops21[i]?).any fun o => o.after.all fun e => !Region.binds .any e || decide (e.on < i)) = true := by kernel_rfl
theorem all21 {listed : Array Bool} (hs : listed.size = 26) (hr : Region.ready .any ops21 listed = []) : ∀ i, i < 26 → listed.getD i true = true := by
  intro i
  induction i using Nat.strongRecOn with
  | ind i ih =>
    intro hi
    cases hv : listed.getD i true with
    | true => rfl
    | false =>
      have h1 := before21
      simp only [List.all_eq_true, List.mem_range] at h1
      have h2 := h1 i hi
      have hm : i ∈ Region.ready .any ops21 listed := by
        unfold Region.ready
        simp only [List.mem_filter, List.mem_range, Bool.and_eq_true, Bool.not_eq_true']
        refine ⟨by rw [size21]; exact hi, hv, ?_⟩
        cases ho : ops21[i]? with
        | none => rw [ho] at h2; cases h2
        | some o =>
          rw [ho] at h2
          simp only [Option.any_some, Array.all_eq_true', Bool.or_eq_true, Bool.not_eq_true', decide_eq_true_eq] at h2
          simp only [Option.map_some, Option.getD_some, Array.all_eq_true', Bool.or_eq_true, Bool.not_eq_true']
          intro e he
          rcases h2 e he with h3 | h3
          · exact .inl h3
          · right
            have h4 := ih e.on h3 (by omega)
            rw [Array.getD_eq_getD_getElem?, Array.getElem?_eq_getElem (by omega)] at h4 ⊢
            exact h4
      rw [hr] at hm
      cases hm
theorem vslot_row {B : Nat} {r g : Nat} {w : World} {who : Nat → Nat} {v : Value} {x : UInt8} (hr : RowR B 9 r w who v (c.pre.length + 1) (c.pre.map strV ++ [Value.string (mkB [x])])) (hc : w.heap[g]? = some (c.obj v)) : ∃ a k, VSlot w g (c.p1, c.p2, c.p3, c.pre ++ [[x]]) a k := by
  have hl : (c.pre ++ [[x]]).length = c.pre.length + 1 := by simp
  have hm : (c.pre ++ [[x]]).map strV = c.pre.map strV ++ [Value.string (mkB [x])] := by rw [List.map_append]; rfl
  obtain ⟨a, k, rfl, hst, _⟩ := strsO (ls := c.pre ++ [[x]]) (by rw [hl, hm]; exact hr.1)
  exact ⟨a, k, hc, hst⟩
theorem reg21 (ok : c.Ok) {w0 : World} {f0 : Nat → Value} (hva : VSlot w0 c.ga (c.p1, c.p2, c.p3, c.pre) c.a3 c.c3) (hvb : VSlot w0 c.gb (c.p1, c.p2, c.p3, c.pre) c.a3 c.c3) (hab : c.ga ≠ c.gb) (hb : Below c.wS.heap.size c.wS w0)
    (hQ : ∀ f w', (∃ a k, VSlot w' c.ga (c.p1, c.p2, c.p3, c.pre ++ [[c.d]]) a k) → (∃ a k, VSlot w' c.gb (c.p1, c.p2, c.p3, c.pre ++ [[c.l]]) a k) → Below c.wS.heap.size c.wS w' → Q .normal (fr c.X c.Y f) w') :
    (Code.region 21 ops21 true).wp Try.prog Q (fr c.X c.Y f0) w0 := by
  refine wp_region_inv (by kernel_rfl) (I21 c) ?_ ?_ ?_
  · refine ⟨f0, fun k => if k = c.ga then 7 else if k = c.gb then 8 else 9, rfl, ?_, below_step hb (below_q ⟨1, rfl⟩)⟩
    intro j hj hL
    have hj2 : j = 26 ∨ j = 27 := by
      by_cases h26 : j < 26
      · unfold L21 at hL
        rw [if_pos h26, size21] at hL
        simp [Array.getD_eq_getD_getElem?, Array.getElem?_replicate, h26] at hL
      · have : j < 28 := hj
        omega
    rcases hj2 with rfl | rfl
    · exact ⟨(fun d hd => by cases hd), fun _ => ⟨hva.row, if_pos rfl⟩⟩
    · exact ⟨(fun d hd => by cases hd), fun _ => ⟨hvb.row, (if_neg hab.symm).trans (if_pos rfl)⟩⟩
  · rintro listed a w i hs hi ⟨f, who, rfl, hI, hbl⟩
    obtain ⟨h1, h2, h3⟩ := rdy21 hi
    rw [size21] at hs
    have hL : L21 listed i = false := by
      unfold L21
      rw [if_pos h1]
      rw [Array.getD_eq_getD_getElem?, Array.getElem?_eq_getElem (by omega)] at h2 ⊢
      exact h2
    have hneed : ∀ d ∈ need21 i, L21 listed d = true := fun d hd => by
      have h4 := h3 d hd
      unfold L21
      by_cases hd2 : d < 26
      · rw [if_pos hd2]; exact h4
      · rw [Array.getD_eq_getD_getElem?, Array.getElem?_eq_none (by omega)] at h4
        cases h4
    have h : At c listed i f who w := ⟨hs, h1, hL, hneed, hI, hbl⟩
    clear hL hneed h3 h2 hi hI hbl hs
    obtain rfl | rfl | rfl | rfl | rfl | rfl | rfl | rfl | rfl | rfl | rfl | rfl | rfl | rfl | rfl | rfl | rfl | rfl | rfl | rfl | rfl | rfl | rfl | rfl | rfl | rfl : i = 0 ∨ i = 1 ∨ i = 2 ∨ i = 3 ∨ i = 4 ∨ i = 5 ∨ i = 6 ∨ i = 7 ∨ i = 8 ∨ i = 9 ∨ i = 10 ∨ i = 11 ∨ i = 12 ∨ i = 13 ∨ i = 14 ∨ i = 15 ∨ i = 16 ∨ i = 17 ∨ i = 18 ∨ i = 19 ∨ i = 20 ∨ i = 21 ∨ i = 22 ∨ i = 23 ∨ i = 24 ∨ i = 25 := by omega
    · exact st0 ok h
    · exact st1 ok h
    · exact st2 ok h
    · exact st3 ok h
    · exact st4 ok h
    · exact st5 ok h
    · exact st6 ok h
    · exact st7 ok h
    · exact st8 ok h
    · exact st9 ok h
    · exact st10 ok h
    · exact st11 ok h
    · exact st12 ok h
    · exact st13 ok h
    · exact st14 ok h
    · exact st15 ok h
    · exact st16 ok h
    · exact st17 ok h
    · exact st18 ok h
    · exact st19 ok h
    · exact st20 ok h
    · exact st21 ok h
    · exact st22 ok h
    · exact st23 ok h
    · exact st24 ok h
    · exact st25 ok h
  · rintro listed a w hs hr ⟨f, who, rfl, hI, hbl⟩
    rw [size21] at hs
    have hall : ∀ j, j < 28 → L21 listed j = true := fun j hj => by
      unfold L21
      by_cases h26 : j < 26
      · rw [if_pos h26]
        have h4 := all21 hs hr j h26
        rw [Array.getD_eq_getD_getElem?, Array.getElem?_eq_getElem (by omega)] at h4 ⊢
        exact h4
      · rw [if_neg h26]; exact decide_eq_true hj
    have get := fun j (hj : j < 28) (ht : till21 j = 1000) => (hI j hj (hall j hj)).2 (show L21 listed (till21 j) = false by rw [ht]; rfl)
    obtain ⟨h23, _⟩ : w.heap[c.ga]? = some (c.obj (f 10)) ∧ who c.ga = 7 := get 23 (by decide) rfl
    obtain ⟨h25, _⟩ : w.heap[c.gb]? = some (c.obj (f 21)) ∧ who c.gb = 8 := get 25 (by decide) rfl
    have r10 : RowR c.wS.heap.size 9 1 w who (f 10) (c.pre.length + 1) (c.pre.map strV ++ [Value.string (mkB [c.d])]) := get 10 (by decide) rfl
    have r21 : RowR c.wS.heap.size 9 4 w who (f 21) (c.pre.length + 1) (c.pre.map strV ++ [Value.string (mkB [c.l])]) := get 21 (by decide) rfl
    exact hQ f w (vslot_row r10 h23) (vslot_row r21 h25) hbl
end
theorem fr_split (T : List Value) (hT : T.length = 182) : (⟨T.toArray, []⟩ : Act) = fr (T.take 104) (T.drop 128) (fun j => T.getD (104 + j) undef) := by
  unfold fr
  congr 2
  apply List.ext_getElem?
  intro t
  by_cases h1 : t < 104
  · rw [List.getElem?_append_left (by rw [List.length_take]; omega), List.getElem?_take, if_pos h1]
  · rw [List.getElem?_append_right (by rw [List.length_take]; omega), List.length_take, hT]
    by_cases h2 : t < 128
    · rw [List.getElem?_append_left (by simp; omega), List.getElem?_map, List.getElem?_range (by omega)]
      simp only [Option.map_some, List.getD_eq_getElem?_getD]
      have e : 104 + (t - min 104 182) = t := by omega
      rw [e, List.getElem?_eq_getElem (show t < T.length by omega), Option.getD_some]
    · rw [List.getElem?_append_right (by simp; omega), List.getElem?_drop]
      have e : t = 128 + (t - min 104 182 - ((List.range 24).map fun j => T.getD (104 + j) undef).length) := by
        rw [List.length_map, List.length_range]
        omega
      exact congrArg (fun k => T[k]?) e
end Go.Proofs.Ytcdflfjbdbofcaa
