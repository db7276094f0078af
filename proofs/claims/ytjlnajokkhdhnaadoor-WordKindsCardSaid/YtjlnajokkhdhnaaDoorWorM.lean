/- Words, octet by octet: plain facts: the states, and that they take just paths, versions, and go's numbers. -/
import Derived.Test.YtjlnajokkhdhnaaDoorPatN
import Derived.Test.YtjlnajokkhdhnaaDoorVerM
namespace Go.Proofs.YtjlnajokkhdhnaaDoor
open Go.RowKit
set_option maxRecDepth 100000

/-! ### The states -/
inductive Tag where
  | el | ine | bd | bg | nm | ze | di | lz | ld | wd | bz | iw | bzs | en | ed
deriving DecidableEq

def elO (c : Nat) : Option Nat := if c ≠ 46 ∧ hasB [1, 2, 3] (clsI (c : Int)) = true then some 1 else none
def bdO (c : Nat) : Option Nat := if c = 46 then some 2 else elO c
def woO (c : Nat) : Bool := decide (c = 45) || hasB [1, 2] (clsI (c : Int))
def dgO (c : Nat) : Bool := hasB [1] (clsI (c : Int))
def zeO (at' c : Nat) : Option Nat := if c = 46 then some (at' + 2) else none
def lzO (c : Nat) : Option Nat := if c = 45 then some 10 else none
def iwO (c : Nat) : Option Nat := if c = 46 then some 10 else if woO c = true then some 12 else none
def bzO (c : Nat) : Option Nat := if dgO c = true then some 13 else iwO c
/-- What goes on by an octet. -/
def goT : Tag → Nat → Nat → Option Nat
  | .el, _, c => elO c
  | .ine, _, c => if c = 47 then some 0 else bdO c
  | .bd, _, c => bdO c
  | .bg, a, c => if c = 118 then some (a + 1) else none
  | .nm, a, c => if c = 48 then some (a + 1) else if dgO c = true then some (a + 2) else none
  | .ze, a, c => zeO a c
  | .di, a, c => if dgO c = true then some a else zeO (a - 1) c
  | .lz, _, c => lzO c
  | .ld, a, c => if dgO c = true then some a else lzO c
  | .wd, _, c => if c = 48 then some 11 else if woO c = true then some 12 else none
  | .bz, _, c => bzO c
  | .iw, _, c => iwO c
  | .bzs, _, c => if c = 46 then none else bzO c
  | .en, _, _ => none
  | .ed, a, c => if dgO c = true then some a else none
def tagsL : List (List Tag) := [[.el, .ine, .bd], [.bg, .nm, .ze, .di, .nm, .ze, .di, .nm, .lz, .ld, .wd, .bz, .iw, .bzs], [.nm, .ze, .di, .nm, .ze, .di, .nm, .en, .ed]]
def tagAt (k a : Nat) : Option Tag := (tagsL.getD k [])[a]?
def stepO (k a c : Nat) : Option Nat := match tagAt k a with
  | none => none
  | some t => goT t a c
def restsL : List (List (List UInt8)) := [[[97], [], [97]],
  [[118, 48, 46, 48, 46, 48], [48, 46, 48, 46, 48], [46, 48, 46, 48], [46, 48, 46, 48], [48, 46, 48], [46, 48], [46, 48], [48], [], [], [48], [], [], [97]],
  [[48, 46, 48], [46, 48], [46, 48], [48], [], [], [48], [], []]]
def restO (k a : Nat) : List UInt8 := (restsL.getD k []).getD a []
def endsO (k a : Nat) : Bool := (tagAt k a).isSome && decide (restO k a = [])
/-- Where a text comes to. -/
def runO (k : Nat) : Nat → List UInt8 → Option Nat
  | a, [] => some a
  | a, c :: l => match stepO k a c.toNat with
    | none => none
    | some b => runO k b l
def accO (k a : Nat) (l : List UInt8) : Bool := match runO k a l with
  | none => false
  | some b => endsO k b
/-- How much of a text lives. -/
def liveN (k : Nat) : Nat → List UInt8 → Nat
  | _, [] => 0
  | a, c :: l => match stepO k a c.toNat with
    | none => 0
    | some b => liveN k b l + 1
/-- Where what lives comes to. -/
def lastN (k : Nat) : Nat → List UInt8 → Nat
  | a, [] => a
  | a, c :: l => match stepO k a c.toNat with
    | none => a
    | some b => lastN k b l

theorem acc_nil (k a : Nat) : accO k a [] = endsO k a := rfl
theorem acc_none {k a : Nat} {c : UInt8} (l : List UInt8) (h : stepO k a c.toNat = none) : accO k a (c :: l) = false := by
  unfold accO; rw [runO, h]
theorem acc_some {k a b : Nat} {c : UInt8} (l : List UInt8) (h : stepO k a c.toNat = some b) : accO k a (c :: l) = accO k b l := by
  unfold accO; rw [runO, h]
theorem oct_eq {c : UInt8} {n : UInt8} (h : c.toNat = n.toNat) : c = n := UInt8.toNat_inj.1 h
theorem split_form (c : Int) (l : List UInt8) : ∃ p ps, splitL c l = p :: ps := by
  cases h : splitL c l with
  | nil => exact absurd h (splitL_ne c l)
  | cons p ps => exact ⟨p, ps, rfl⟩

/-! ### Paths -/
def elT : Bool → List UInt8 → Bool
  | e, [] => e
  | _, x :: q => okC x && elT (decide (x.toNat ≠ 46)) q
theorem elT_eq : ∀ (q : List UInt8) (e : Bool), elT e q = (q.all okC && (match q.getLast? with | none => e | some y => decide (y.toNat ≠ 46)))
  | [], e => by simp [elT]
  | x :: q, e => by
    rw [elT, elT_eq q, List.all_cons, Bool.and_assoc]
    cases q with
    | nil => simp
    | cons y q => rw [List.getLast?_cons_cons]; obtain ⟨z, hz⟩ : ∃ z, (y :: q).getLast? = some z := ⟨_, List.getLast?_eq_some_getLast (by simp)⟩; rw [hz]
theorem ne46 (x : UInt8) : (x.toNat ≠ 46) ↔ x ≠ 46 := by
  rw [Ne, Ne, ← UInt8.toNat_inj]; exact Iff.rfl
theorem elem_cons (x : UInt8) (q : List UInt8) : elemB (x :: q) = (decide (x.toNat ≠ 46) && (okC x && elT true q)) := by
  rw [Bool.eq_iff_iff, elemB_iff2, elT_eq]
  simp only [Bool.and_eq_true, decide_eq_true_eq, List.all_eq_true, List.mem_cons, ne_eq, reduceCtorEq, not_false_eq_true, true_and, List.head?_cons, Option.some.injEq, forall_eq_or_imp]
  have e1 := ne46 x
  simp only [ne_eq] at e1
  rw [e1]
  cases q with
  | nil =>
    simp [and_comm]
  | cons y q =>
    rw [List.getLast?_cons_cons]
    obtain ⟨z, hz⟩ : ∃ z, (y :: q).getLast? = some z := ⟨_, List.getLast?_eq_some_getLast (by simp)⟩
    rw [hz]
    have e2 := ne46 z
    simp only [ne_eq] at e2
    simp only [Option.some.injEq, decide_eq_true_eq, e2]
    constructor
    · rintro ⟨⟨h1, h2⟩, h3, h4⟩; exact ⟨h3, h1, h2, h4⟩
    · rintro ⟨h3, h1, h2, h4⟩; exact ⟨⟨h1, h2⟩, h3, h4⟩

theorem path_oct : ∀ n : Fin 256, (n.1 ≠ 47 → n.1 ≠ 46 → (hasB [1, 2, 3] (clsI (n.1 : Int)) = true → stepO 0 0 n.1 = some 1 ∧ stepO 0 1 n.1 = some 1 ∧ stepO 0 2 n.1 = some 1) ∧
    (hasB [1, 2, 3] (clsI (n.1 : Int)) = false → stepO 0 0 n.1 = none ∧ stepO 0 1 n.1 = none ∧ stepO 0 2 n.1 = none)) := by decide +kernel

theorem acc_path : ∀ (l p : List UInt8) (ps : List (List UInt8)), splitL 47 l = p :: ps →
    accO 0 0 l = (elemB p && ps.all elemB) ∧ accO 0 1 l = (elT true p && ps.all elemB) ∧ accO 0 2 l = (elT false p && ps.all elemB)
  | [], p, ps, h => by
    rw [splitL] at h; injection h with h1 h2; subst h1; subst h2
    refine ⟨by rw [elemB_nil rfl]; rfl, rfl, rfl⟩
  | x :: l, p, ps, h => by
    obtain ⟨q, qs, hq⟩ := split_form 47 l
    obtain ⟨i0, i1, i2⟩ := acc_path l q qs hq
    rw [splitL, hq] at h
    by_cases h47 : x.toNat = 47
    · rw [if_pos (by omega)] at h
      injection h with h1 h2; subst h1; subst h2
      have hx : x = 47 := oct_eq h47
      subst hx
      rw [acc_none l (show stepO 0 0 (47 : UInt8).toNat = none by decide +kernel), acc_some l (show stepO 0 1 (47 : UInt8).toNat = some 0 by decide +kernel), acc_none l (show stepO 0 2 (47 : UInt8).toNat = none by decide +kernel), i0, elemB_nil rfl, List.all_cons]
      simp [elT]
    · rw [if_neg (by omega), consHead] at h
      injection h with h1 h2; subst h1; subst h2
      rw [List.singleton_append, elem_cons, elT, elT]
      by_cases h46 : x.toNat = 46
      · have hx : x = 46 := oct_eq h46
        subst hx
        rw [acc_none l (show stepO 0 0 (46 : UInt8).toNat = none by decide +kernel), acc_some l (show stepO 0 1 (46 : UInt8).toNat = some 2 by decide +kernel), acc_some l (show stepO 0 2 (46 : UInt8).toNat = some 2 by decide +kernel), i2]
        have ho : okC 46 = true := by decide +kernel
        rw [ho]
        simp
      · have ho := path_oct ⟨x.toNat, UInt8.toNat_lt x⟩ h47 h46
        dsimp only at ho
        have hd : decide (x.toNat ≠ 46) = true := decide_eq_true h46
        rw [hd]
        cases hx : okC x
        · obtain ⟨s0, s1, s2⟩ := ho.2 hx
          rw [acc_none l s0, acc_none l s1, acc_none l s2]; simp
        · obtain ⟨s0, s1, s2⟩ := ho.1 hx
          rw [acc_some l s0, acc_some l s1, acc_some l s2, i1]; simp

theorem path_acc (l : List UInt8) : pathB l = accO 0 0 l := by
  obtain ⟨p, ps, h⟩ := split_form 47 l
  rw [(acc_path l p ps h).1]; unfold pathB; rw [h]; rfl

/-! ### Words of versions -/
def woC (c : UInt8) : Bool := woO c.toNat
theorem wo_eq (c : UInt8) : wordOct c = woO c.toNat := by unfold wordOct woO; rw [Bool.or_comm]
theorem dg_eq (c : UInt8) : isD c = dgO c.toNat := by
  have h : ∀ n : Fin 256, (decide (48 ≤ n.1) && decide (n.1 ≤ 57)) = dgO n.1 := by decide +kernel
  exact h ⟨c.toNat, UInt8.toNat_lt c⟩
/-- Behind a 0 of a word, behind a 0 and digits. -/
def zT (q : List UInt8) : Bool := q.all wordOct && (q.isEmpty || !q.all isD)
def dT (q : List UInt8) : Bool := q.all wordOct && !q.all isD
theorem dg_wo {c : UInt8} (h : isD c = true) : wordOct c = true := by
  rw [dg_eq] at h; rw [wo_eq]
  have hh : ∀ n : Fin 256, dgO n.1 = true → woO n.1 = true := by decide +kernel
  exact hh ⟨c.toNat, UInt8.toNat_lt c⟩ h
theorem all_dw {q : List UInt8} (h : q.all isD = true) : q.all wordOct = true := by
  rw [List.all_eq_true] at h ⊢; exact fun c hc => dg_wo (h c hc)
theorem may_cons (x : UInt8) (q : List UInt8) : mayL (x :: q) = if x.toNat = 48 then q.isEmpty else (isD x && q.all isD) := by
  unfold mayL
  have e : (x = 48) ↔ x.toNat = 48 := by rw [← UInt8.toNat_inj]; exact Iff.rfl
  by_cases hx : x.toNat = 48
  · rw [if_pos hx]
    have hx' := e.2 hx
    subst hx'
    have : isD 48 = true := by decide
    cases q <;> simp [this]
  · rw [if_neg hx]
    have hx' : ¬ x = 48 := fun h => hx (e.1 h)
    simp [hx']
theorem word_cons (x : UInt8) (q : List UInt8) : wordL (x :: q) = if x.toNat = 48 then zT q else (wordOct x && q.all wordOct) := by
  unfold wordL
  rw [may_cons, List.all_cons, List.all_cons]
  by_cases hx : x.toNat = 48
  · have hd : isD x = true := by rw [oct_eq (n := 48) hx]; decide
    rw [if_pos hx, if_pos hx, hd, dg_wo hd, Bool.true_and, Bool.true_and]
    unfold zT
    cases hq : q.all isD
    · simp
    · rw [all_dw hq]; simp
  · rw [if_neg hx, if_neg hx]
    cases hd : isD x
    · simp
    · rw [dg_wo hd, Bool.true_and, Bool.true_and]
      cases hq : q.all isD
      · simp
      · rw [all_dw hq]; simp
theorem word_nil : wordL [] = false := by decide
theorem z_cons (x : UInt8) (q : List UInt8) : zT (x :: q) = if isD x = true then dT q else (wordOct x && q.all wordOct) := by
  unfold zT dT
  rw [List.all_cons, List.all_cons]
  cases hd : isD x
  · simp
  · rw [dg_wo hd]; simp
theorem d_cons (x : UInt8) (q : List UInt8) : dT (x :: q) = if isD x = true then dT q else (wordOct x && q.all wordOct) := by
  unfold dT
  rw [List.all_cons, List.all_cons]
  cases hd : isD x
  · simp
  · rw [dg_wo hd]; simp

theorem word_oct : ∀ n : Fin 256, n.1 ≠ 46 →
    (n.1 = 48 → stepO 1 10 n.1 = some 11) ∧
    (dgO n.1 = true → (n.1 ≠ 48 → stepO 1 10 n.1 = some 12) ∧ stepO 1 11 n.1 = some 13 ∧ stepO 1 12 n.1 = some 12 ∧ stepO 1 13 n.1 = some 13) ∧
    (dgO n.1 = false → woO n.1 = true → stepO 1 10 n.1 = some 12 ∧ stepO 1 11 n.1 = some 12 ∧ stepO 1 12 n.1 = some 12 ∧ stepO 1 13 n.1 = some 12) ∧
    (woO n.1 = false → stepO 1 10 n.1 = none ∧ stepO 1 11 n.1 = none ∧ stepO 1 12 n.1 = none ∧ stepO 1 13 n.1 = none) := by decide +kernel

theorem acc_words : ∀ (l p : List UInt8) (ps : List (List UInt8)), splitL 46 l = p :: ps →
    accO 1 10 l = (wordL p && ps.all wordL) ∧ accO 1 11 l = (zT p && ps.all wordL) ∧ accO 1 12 l = (p.all wordOct && ps.all wordL) ∧ accO 1 13 l = (dT p && ps.all wordL)
  | [], p, ps, h => by
    rw [splitL] at h; injection h with h1 h2; subst h1; subst h2
    exact ⟨rfl, rfl, rfl, rfl⟩
  | x :: l, p, ps, h => by
    obtain ⟨q, qs, hq⟩ := split_form 46 l
    obtain ⟨i0, i1, i2, i3⟩ := acc_words l q qs hq
    rw [splitL, hq] at h
    by_cases h46 : x.toNat = 46
    · rw [if_pos (by omega)] at h
      injection h with h1 h2; subst h1; subst h2
      have hx : x = 46 := oct_eq h46
      subst hx
      rw [acc_none l (show stepO 1 10 (46 : UInt8).toNat = none by decide +kernel), acc_some l (show stepO 1 11 (46 : UInt8).toNat = some 10 by decide +kernel),
        acc_some l (show stepO 1 12 (46 : UInt8).toNat = some 10 by decide +kernel), acc_none l (show stepO 1 13 (46 : UInt8).toNat = none by decide +kernel), i0, word_nil, List.all_cons]
      simp [zT, dT]
    · rw [if_neg (by omega), consHead] at h
      injection h with h1 h2; subst h1; subst h2
      have ho := word_oct ⟨x.toNat, UInt8.toNat_lt x⟩ h46
      dsimp only at ho
      rw [List.singleton_append, word_cons, z_cons, d_cons, List.all_cons]
      rw [← dg_eq, ← wo_eq] at ho
      obtain ⟨o0, o1, o2, o3⟩ := ho
      cases hd : isD x
      · have hn : ¬ x.toNat = 48 := by intro e; rw [oct_eq (n := 48) e] at hd; revert hd; decide
        rw [if_neg hn]
        cases hw : wordOct x
        · obtain ⟨s0, s1, s2, s3⟩ := o3 hw
          rw [acc_none l s0, acc_none l s1, acc_none l s2, acc_none l s3]; simp
        · obtain ⟨s0, s1, s2, s3⟩ := o2 hd hw
          rw [acc_some l s0, acc_some l s1, acc_some l s2, acc_some l s3, i2]; simp
      · obtain ⟨s0, s1, s2, s3⟩ := o1 hd
        rw [acc_some l s1, acc_some l s2, acc_some l s3, i2, i3, dg_wo hd]
        by_cases hz : x.toNat = 48
        · rw [if_pos hz, acc_some l (o0 hz), i1]; simp
        · rw [if_neg hz, acc_some l (s0 hz), i2]; simp

/-! ### Versions -/
/-- What is behind the first octet 45. -/
def behV (l : List UInt8) : Bool := if ixL l < l.length then (splitL 46 (l.drop (ixL l + 1))).all wordL else true
theorem ix_cons_hit (x : UInt8) (l : List UInt8) (h : x.toNat = 45) : ixL (x :: l) = 0 := by rw [ixL, if_pos (by omega)]
theorem ix_cons_miss (x : UInt8) (l : List UInt8) (h : ¬ x.toNat = 45) : ixL (x :: l) = ixL l + 1 := by rw [ixL, if_neg (by omega)]
theorem beh_cons_miss (x : UInt8) (l : List UInt8) (h : ¬ x.toNat = 45) : behV (x :: l) = behV l := by
  unfold behV
  rw [ix_cons_miss x l h, List.length_cons, List.drop_succ_cons]
  by_cases hi : ixL l < l.length
  · rw [if_pos (by omega), if_pos hi]
  · rw [if_neg (by omega), if_neg hi]
theorem words_acc (l : List UInt8) : (splitL 46 l).all wordL = accO 1 10 l := by
  obtain ⟨p, ps, h⟩ := split_form 46 l
  rw [(acc_words l p ps h).1, h]; rfl
theorem beh_cons_hit (x : UInt8) (l : List UInt8) (h : x.toNat = 45) : behV (x :: l) = accO 1 10 l := by
  unfold behV
  rw [ix_cons_hit x l h, if_pos (by simp), words_acc]; simp

/-- A number ahead, a 0, digits. -/
def jT (j : Nat) (p : List UInt8) : Bool := if j = 0 then mayL p else if j = 1 then p.isEmpty else p.all isD
def numsT (ok : Nat → Bool) (j : Nat) (p : List UInt8) (ps : List (List UInt8)) : Bool := ok ps.length && (jT j p && ps.all mayL)
theorem j_nil : jT 0 [] = false ∧ jT 1 [] = true ∧ jT 2 [] = true := by decide
theorem j_cons (x : UInt8) (q : List UInt8) : jT 0 (x :: q) = (if x.toNat = 48 then jT 1 q else (isD x && jT 2 q)) ∧ jT 1 (x :: q) = false ∧ jT 2 (x :: q) = (isD x && jT 2 q) :=
  ⟨may_cons x q, rfl, rfl⟩

theorem ver_oct : ∀ n : Fin 256, n.1 ≠ 46 → n.1 ≠ 45 → ∀ b ∈ [1, 4, 7],
    (n.1 = 48 → stepO 1 b n.1 = some (b + 1)) ∧
    (dgO n.1 = true → (n.1 ≠ 48 → stepO 1 b n.1 = some (b + 2)) ∧ stepO 1 (b + 1) n.1 = none ∧ stepO 1 (b + 2) n.1 = some (b + 2)) ∧
    (dgO n.1 = false → stepO 1 b n.1 = none ∧ stepO 1 (b + 1) n.1 = none ∧ stepO 1 (b + 2) n.1 = none) := by decide +kernel
theorem ver_dot : ∀ b ∈ [1, 4], stepO 1 b 46 = none ∧ stepO 1 (b + 1) 46 = some (b + 3) ∧ stepO 1 (b + 2) 46 = some (b + 3) := by decide +kernel
theorem ver_dot7 : stepO 1 7 46 = none ∧ stepO 1 8 46 = none ∧ stepO 1 9 46 = none := by decide +kernel
theorem ver_dash : ∀ b ∈ [1, 4], stepO 1 b 45 = none ∧ stepO 1 (b + 1) 45 = none ∧ stepO 1 (b + 2) 45 = none := by decide +kernel
theorem ver_dash7 : stepO 1 7 45 = none ∧ stepO 1 8 45 = some 10 ∧ stepO 1 9 45 = some 10 := by decide +kernel

/-- What a version's states ahead of the words take. -/
def VerA (l p : List UInt8) (ps : List (List UInt8)) (b n : Nat) : Prop := ∀ j, j < 3 → accO 1 (b + j) l = (decide (ps.length = n) && (jT j p && ps.all mayL) && behV l)
theorem three {P : Nat → Prop} (h0 : P 0) (h1 : P 1) (h2 : P 2) : ∀ j, j < 3 → P j
  | 0, _ => h0
  | 1, _ => h1
  | 2, _ => h2
theorem VerA.step {l : List UInt8} {q : List UInt8} {qs : List (List UInt8)} {b n : Nat} (h : VerA l q qs b n) (hb : b ∈ [1, 4, 7]) {x : UInt8} (h46 : x.toNat ≠ 46) (h45 : x.toNat ≠ 45) : VerA (x :: l) (x :: q) qs b n := by
  have ho := ver_oct ⟨x.toNat, UInt8.toNat_lt x⟩ h46 h45 b hb
  dsimp only at ho
  obtain ⟨o0, o1, o2⟩ := ho
  rw [← dg_eq] at o1 o2
  have i1 := h 1 (by omega); have i2 := h 2 (by omega)
  obtain ⟨j0, j1, j2⟩ := j_cons x q
  cases hd : isD x
  · obtain ⟨s0, s1, s2⟩ := o2 hd
    have hn : ¬ x.toNat = 48 := by intro e; rw [oct_eq (n := 48) e] at hd; revert hd; decide
    refine three ?_ ?_ ?_
    · rw [Nat.add_zero, acc_none l s0, j0, if_neg hn, hd]; simp
    · rw [acc_none l s1, j1]; simp
    · rw [acc_none l s2, j2, hd]; simp
  · obtain ⟨s0, s1, s2⟩ := o1 hd
    refine three ?_ ?_ ?_
    · rw [beh_cons_miss x l h45, Nat.add_zero, j0, hd, Bool.true_and]
      by_cases hz : x.toNat = 48
      · rw [if_pos hz, acc_some l (o0 hz), i1]
      · rw [if_neg hz, acc_some l (s0 hz), i2]
    · rw [acc_none l s1, j1]; simp
    · rw [beh_cons_miss x l h45, acc_some l s2, j2, hd, Bool.true_and, i2]

theorem acc_ver : ∀ (l p : List UInt8) (ps : List (List UInt8)), splitL 46 (l.take (ixL l)) = p :: ps → VerA l p ps 7 0 ∧ VerA l p ps 4 1 ∧ VerA l p ps 1 2
  | [], p, ps, h => by
    rw [List.take_nil, splitL] at h; injection h with h1 h2; subst h1; subst h2
    exact ⟨three rfl rfl rfl, three rfl rfl rfl, three rfl rfl rfl⟩
  | x :: l, p, ps, h => by
    obtain ⟨q, qs, hq⟩ := split_form 46 (l.take (ixL l))
    obtain ⟨i7, i4, i1⟩ := acc_ver l q qs hq
    by_cases h45 : x.toNat = 45
    · rw [ix_cons_hit x l h45, List.take_zero, splitL] at h
      injection h with h1 h2; subst h1; subst h2
      have hb := beh_cons_hit x l h45
      have hx : x = 45 := oct_eq h45
      subst hx
      refine ⟨three ?_ ?_ ?_, three ?_ ?_ ?_, three ?_ ?_ ?_⟩
      · rw [acc_none l (show stepO 1 (7 + 0) (45 : UInt8).toNat = none from ver_dash7.1)]; rfl
      · rw [acc_some l (show stepO 1 (7 + 1) (45 : UInt8).toNat = some 10 from ver_dash7.2.1), hb]; rfl
      · rw [acc_some l (show stepO 1 (7 + 2) (45 : UInt8).toNat = some 10 from ver_dash7.2.2), hb]; rfl
      · rw [acc_none l (show stepO 1 (4 + 0) (45 : UInt8).toNat = none from (ver_dash 4 (by decide)).1)]; rfl
      · rw [acc_none l (show stepO 1 (4 + 1) (45 : UInt8).toNat = none from (ver_dash 4 (by decide)).2.1)]; rfl
      · rw [acc_none l (show stepO 1 (4 + 2) (45 : UInt8).toNat = none from (ver_dash 4 (by decide)).2.2)]; rfl
      · rw [acc_none l (show stepO 1 (1 + 0) (45 : UInt8).toNat = none from (ver_dash 1 (by decide)).1)]; rfl
      · rw [acc_none l (show stepO 1 (1 + 1) (45 : UInt8).toNat = none from (ver_dash 1 (by decide)).2.1)]; rfl
      · rw [acc_none l (show stepO 1 (1 + 2) (45 : UInt8).toNat = none from (ver_dash 1 (by decide)).2.2)]; rfl
    · rw [ix_cons_miss x l h45, List.take_succ_cons, splitL, hq] at h
      by_cases h46 : x.toNat = 46
      · rw [if_pos (by omega)] at h
        injection h with h1 h2; subst h1; subst h2
        have hb := beh_cons_miss x l h45
        have hx : x = 46 := oct_eq h46
        subst hx
        have e7 := i7 0 (by omega); have e4 := i4 0 (by omega)
        simp only [Nat.add_zero] at e7 e4
        refine ⟨three ?_ ?_ ?_, three ?_ ?_ ?_, three ?_ ?_ ?_⟩
        · rw [acc_none l (show stepO 1 (7 + 0) (46 : UInt8).toNat = none from ver_dot7.1)]; simp
        · rw [acc_none l (show stepO 1 (7 + 1) (46 : UInt8).toNat = none from ver_dot7.2.1)]; simp
        · rw [acc_none l (show stepO 1 (7 + 2) (46 : UInt8).toNat = none from ver_dot7.2.2)]; simp
        · rw [acc_none l (show stepO 1 (4 + 0) (46 : UInt8).toNat = none from (ver_dot 4 (by decide)).1), j_nil.1]; simp
        · rw [acc_some l (show stepO 1 (4 + 1) (46 : UInt8).toNat = some 7 from (ver_dot 4 (by decide)).2.1), e7, j_nil.2.1, hb]; simp [jT]
        · rw [acc_some l (show stepO 1 (4 + 2) (46 : UInt8).toNat = some 7 from (ver_dot 4 (by decide)).2.2), e7, j_nil.2.2, hb]; simp [jT]
        · rw [acc_none l (show stepO 1 (1 + 0) (46 : UInt8).toNat = none from (ver_dot 1 (by decide)).1), j_nil.1]; simp
        · rw [acc_some l (show stepO 1 (1 + 1) (46 : UInt8).toNat = some 4 from (ver_dot 1 (by decide)).2.1), e4, j_nil.2.1, hb]; simp [jT]
        · rw [acc_some l (show stepO 1 (1 + 2) (46 : UInt8).toNat = some 4 from (ver_dot 1 (by decide)).2.2), e4, j_nil.2.2, hb]; simp [jT]
      · rw [if_neg (by omega), consHead] at h
        injection h with h1 h2; subst h1; subst h2
        exact ⟨i7.step (by decide) h46 h45, i4.step (by decide) h46 h45, i1.step (by decide) h46 h45⟩

theorem ver_first : ∀ n : Fin 256, (n.1 = 118 → stepO 1 0 n.1 = some 1) ∧ (n.1 ≠ 118 → stepO 1 0 n.1 = none) := by decide +kernel
theorem ver_acc (l : List UInt8) : okV l = accO 1 0 l := by
  cases l with
  | nil => rfl
  | cons x r =>
    have ho := ver_first ⟨x.toNat, UInt8.toNat_lt x⟩
    dsimp only at ho
    obtain ⟨s1, s0⟩ := ho
    unfold okV
    by_cases hx : x.toNat = 118
    · rw [acc_some r (s1 hx)]
      obtain ⟨p, ps, h⟩ := split_form 46 (r.take (ixL r))
      have ha := (acc_ver r p ps h).2.2 0 (by omega)
      simp only [Nat.add_zero] at ha
      rw [ha]
      have hf : ∀ a b, ps = [a, b] → fitL (cutV r) = (jT 0 p && ps.all mayL && behV r) := by
        intro a b e
        subst e
        unfold fitL cutV behV
        rw [h]
        simp only [List.getD_cons_zero, List.getD_cons_succ, List.all_cons, List.all_nil, Bool.and_true]
        have : (if ixL r < r.length then splitL 46 (r.drop (ixL r + 1)) else []).all wordL = (if ixL r < r.length then (splitL 46 (r.drop (ixL r + 1))).all wordL else true) := by
          split <;> rfl
        rw [this]
        simp only [jT, if_true, Bool.and_assoc]
      rw [splitV, h]
      by_cases hl : ps.length = 2
      · rw [decide_eq_true hl, Bool.true_and]
        match ps, hl with
        | [a, b], _ =>
          rw [← hf a b rfl]
          by_cases hq : fitL (cutV r) = true
          · rw [if_pos ⟨by omega, rfl, hq⟩, hq]; rfl
          · rw [if_neg fun e => hq e.2.2]; simp at hq; rw [hq]; rfl
      · rw [decide_eq_false hl, if_neg fun e => hl (by simpa using e.2.1)]; rfl
    · rw [acc_none r (s0 hx), splitV, if_neg fun e => hx (by have := e.1; omega)]; rfl

/-! ### go's numbers -/
def goB (l : List UInt8) : Bool := (splitL 46 l).all mayL && (decide ((splitL 46 l).length = 2) || decide ((splitL 46 l).length = 3))
theorem go_oct : ∀ n : Fin 256, n.1 ≠ 46 → ∀ b ∈ [0, 3, 6],
    (n.1 = 48 → stepO 2 b n.1 = some (b + 1)) ∧
    (dgO n.1 = true → (n.1 ≠ 48 → stepO 2 b n.1 = some (b + 2)) ∧ stepO 2 (b + 1) n.1 = none ∧ stepO 2 (b + 2) n.1 = some (b + 2)) ∧
    (dgO n.1 = false → stepO 2 b n.1 = none ∧ stepO 2 (b + 1) n.1 = none ∧ stepO 2 (b + 2) n.1 = none) := by decide +kernel
theorem go_dot : ∀ b ∈ [0, 3], stepO 2 b 46 = none ∧ stepO 2 (b + 1) 46 = some (b + 3) ∧ stepO 2 (b + 2) 46 = some (b + 3) := by decide +kernel
theorem go_dot6 : stepO 2 6 46 = none ∧ stepO 2 7 46 = none ∧ stepO 2 8 46 = none := by decide +kernel
def GoA (l p : List UInt8) (ps : List (List UInt8)) (b : Nat) (ok : Nat → Bool) : Prop := ∀ j, j < 3 → accO 2 (b + j) l = (ok ps.length && (jT j p && ps.all mayL))
theorem GoA.step {l : List UInt8} {q : List UInt8} {qs : List (List UInt8)} {b : Nat} {ok : Nat → Bool} (h : GoA l q qs b ok) (hb : b ∈ [0, 3, 6]) {x : UInt8} (h46 : x.toNat ≠ 46) : GoA (x :: l) (x :: q) qs b ok := by
  have ho := go_oct ⟨x.toNat, UInt8.toNat_lt x⟩ h46 b hb
  dsimp only at ho
  obtain ⟨o0, o1, o2⟩ := ho
  rw [← dg_eq] at o1 o2
  have i1 := h 1 (by omega); have i2 := h 2 (by omega)
  obtain ⟨j0, j1, j2⟩ := j_cons x q
  cases hd : isD x
  · obtain ⟨s0, s1, s2⟩ := o2 hd
    have hn : ¬ x.toNat = 48 := by intro e; rw [oct_eq (n := 48) e] at hd; revert hd; decide
    refine three ?_ ?_ ?_
    · rw [Nat.add_zero, acc_none l s0, j0, if_neg hn, hd]; simp
    · rw [acc_none l s1, j1]; simp
    · rw [acc_none l s2, j2, hd]; simp
  · obtain ⟨s0, s1, s2⟩ := o1 hd
    refine three ?_ ?_ ?_
    · rw [Nat.add_zero, j0, hd, Bool.true_and]
      by_cases hz : x.toNat = 48
      · rw [if_pos hz, acc_some l (o0 hz), i1]
      · rw [if_neg hz, acc_some l (s0 hz), i2]
    · rw [acc_none l s1, j1]; simp
    · rw [acc_some l s2, j2, hd, Bool.true_and, i2]
theorem acc_go : ∀ (l p : List UInt8) (ps : List (List UInt8)), splitL 46 l = p :: ps →
    GoA l p ps 6 (fun n => decide (n = 0)) ∧ GoA l p ps 3 (fun n => decide (n = 0) || decide (n = 1)) ∧ GoA l p ps 0 (fun n => decide (n = 1) || decide (n = 2))
  | [], p, ps, h => by
    rw [splitL] at h; injection h with h1 h2; subst h1; subst h2
    exact ⟨three rfl rfl rfl, three rfl rfl rfl, three rfl rfl rfl⟩
  | x :: l, p, ps, h => by
    obtain ⟨q, qs, hq⟩ := split_form 46 l
    obtain ⟨i6, i3, i0⟩ := acc_go l q qs hq
    rw [splitL, hq] at h
    by_cases h46 : x.toNat = 46
    · rw [if_pos (by omega)] at h
      injection h with h1 h2; subst h1; subst h2
      have hx : x = 46 := oct_eq h46
      subst hx
      have e6 := i6 0 (by omega); have e3 := i3 0 (by omega)
      simp only [Nat.add_zero] at e6 e3
      refine ⟨three ?_ ?_ ?_, three ?_ ?_ ?_, three ?_ ?_ ?_⟩
      · rw [acc_none l (show stepO 2 (6 + 0) (46 : UInt8).toNat = none from go_dot6.1)]; simp
      · rw [acc_none l (show stepO 2 (6 + 1) (46 : UInt8).toNat = none from go_dot6.2.1)]; simp
      · rw [acc_none l (show stepO 2 (6 + 2) (46 : UInt8).toNat = none from go_dot6.2.2)]; simp
      · rw [acc_none l (show stepO 2 (3 + 0) (46 : UInt8).toNat = none from (go_dot 3 (by decide)).1), j_nil.1]; simp
      · rw [acc_some l (show stepO 2 (3 + 1) (46 : UInt8).toNat = some 6 from (go_dot 3 (by decide)).2.1), e6, j_nil.2.1]; simp [jT]
      · rw [acc_some l (show stepO 2 (3 + 2) (46 : UInt8).toNat = some 6 from (go_dot 3 (by decide)).2.2), e6, j_nil.2.2]; simp [jT]
      · rw [acc_none l (show stepO 2 (0 + 0) (46 : UInt8).toNat = none from (go_dot 0 (by decide)).1), j_nil.1]; simp
      · rw [acc_some l (show stepO 2 (0 + 1) (46 : UInt8).toNat = some 3 from (go_dot 0 (by decide)).2.1), e3, j_nil.2.1]; simp [jT]
      · rw [acc_some l (show stepO 2 (0 + 2) (46 : UInt8).toNat = some 3 from (go_dot 0 (by decide)).2.2), e3, j_nil.2.2]; simp [jT]
    · rw [if_neg (by omega), consHead] at h
      injection h with h1 h2; subst h1; subst h2
      exact ⟨i6.step (by decide) h46, i3.step (by decide) h46, i0.step (by decide) h46⟩
theorem go_acc (l : List UInt8) : goB l = accO 2 0 l := by
  obtain ⟨p, ps, h⟩ := split_form 46 l
  have ha := (acc_go l p ps h).2.2 0 (by omega)
  simp only [Nat.add_zero] at ha
  rw [ha]; unfold goB; rw [h]
  simp only [List.all_cons, List.length_cons, jT, if_true]
  rw [Bool.and_comm]
  congr 1
  rw [Bool.eq_iff_iff]; simp

/-! ### What is a word, and what lives -/
def wholeO (k : Nat) (l : List UInt8) : Bool := if k = 0 then pathB l else if k = 1 then okV l else if k = 2 then goB l else false
theorem whole_acc (k : Nat) (hk : k < 3) (l : List UInt8) : wholeO k l = accO k 0 l := by
  rcases k with _ | _ | _ | k
  · exact path_acc l
  · exact ver_acc l
  · exact go_acc l
  · omega
theorem step_in : ∀ k : Fin 3, ∀ a : Fin 14, ∀ c : Fin 256, ((stepO k.1 a.1 c.1).all fun b => decide (b < 14) && (tagAt k.1 b).isSome) = true := by decide +kernel
theorem rest_ends : ∀ k : Fin 3, ∀ a : Fin 14, (tagAt k.1 a.1).isSome = true → accO k.1 a.1 (restO k.1 a.1) = true ∧ restO k.1 a.1 ∈ [[], [97], [48], [118, 48, 46, 48, 46, 48], [48, 46, 48, 46, 48], [46, 48, 46, 48], [48, 46, 48], [46, 48]] := by decide +kernel
def inK (k a : Nat) : Prop := a < 14 ∧ (tagAt k a).isSome = true
theorem in_zero : ∀ k : Fin 3, (tagAt k.1 0).isSome = true := by decide +kernel
theorem inK_zero {k : Nat} (hk : k < 3) : inK k 0 := ⟨by omega, in_zero ⟨k, hk⟩⟩
theorem inK_step {k a b : Nat} (hk : k < 3) (h : inK k a) {c : UInt8} (hs : stepO k a c.toNat = some b) : inK k b := by
  have := step_in ⟨k, hk⟩ ⟨a, h.1⟩ ⟨c.toNat, UInt8.toNat_lt c⟩
  simp only [hs, Option.all_some, Bool.and_eq_true, decide_eq_true_eq] at this
  exact this
theorem run_cat (k : Nat) : ∀ (l m : List UInt8) (a : Nat), runO k a (l ++ m) = (match runO k a l with | none => none | some b => runO k b m)
  | [], m, a => rfl
  | c :: l, m, a => by
    rw [List.cons_append, runO, runO]
    cases stepO k a c.toNat with
    | none => rfl
    | some b => exact run_cat k l m b
theorem inK_run {k : Nat} (hk : k < 3) : ∀ (l : List UInt8) {a b : Nat}, inK k a → runO k a l = some b → inK k b
  | [], a, b, h, e => by rw [runO] at e; injection e with e; subst e; exact h
  | c :: l, a, b, h, e => by
    rw [runO] at e
    cases hs : stepO k a c.toNat with
    | none => rw [hs] at e; cases e
    | some d => rw [hs] at e; exact inK_run hk l (inK_step hk h hs) e
/-- What may stand behind a text to make a word of it. -/
def endsL : List (List UInt8) := [[], [97], [48], [118, 48, 46, 48, 46, 48], [48, 46, 48, 46, 48], [46, 48, 46, 48], [48, 46, 48], [46, 48]]
def livesO (k : Nat) (l : List UInt8) : Bool := endsL.any fun e => wholeO k (l ++ e)
theorem acc_cat {k : Nat} {l m : List UInt8} {b : Nat} (h : runO k 0 l = some b) : accO k 0 (l ++ m) = accO k b m := by
  unfold accO; rw [run_cat, h]
theorem whole_rest {k : Nat} (hk : k < 3) {l : List UInt8} {b : Nat} (h : runO k 0 l = some b) : wholeO k (l ++ restO k b) = true := by
  have hi := inK_run hk l (inK_zero hk) h
  rw [whole_acc k hk, acc_cat h]
  exact (rest_ends ⟨k, hk⟩ ⟨b, hi.1⟩ hi.2).1
theorem lives_run {k : Nat} (hk : k < 3) (l : List UInt8) : livesO k l = (runO k 0 l).isSome := by
  unfold livesO
  cases h : runO k 0 l with
  | none =>
    rw [Option.isSome_none, List.any_eq_false]
    intro e _
    rw [whole_acc k hk]; unfold accO; rw [run_cat, h]; simp
  | some b =>
    have hi := inK_run hk l (inK_zero hk) h
    rw [Option.isSome_some, List.any_eq_true]
    exact ⟨restO k b, (rest_ends ⟨k, hk⟩ ⟨b, hi.1⟩ hi.2).2, whole_rest hk h⟩
theorem whole_ends {k : Nat} (hk : k < 3) {l : List UInt8} {b : Nat} (h : runO k 0 l = some b) : wholeO k l = endsO k b := by
  rw [whole_acc k hk]; unfold accO; rw [h]
theorem ends_rest {k a : Nat} (h : inK k a) : endsO k a = decide (restO k a = []) := by unfold endsO; rw [h.2, Bool.true_and]
end Go.Proofs.YtjlnajokkhdhnaaDoor
