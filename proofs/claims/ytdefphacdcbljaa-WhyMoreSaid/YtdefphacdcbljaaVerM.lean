/- Versions: plain facts. -/
import Derived.Test.YtdefphacdcbljaaNumH
namespace Go.Proofs.Ytdefphacdcbljaa
set_option maxRecDepth 100000

def wordOct (c : UInt8) : Bool := hasB [1, 2] (clsI c.toNat) || decide (c.toNat = 45)
/-- Is a text a word? -/
def wordL (l : List UInt8) : Bool := if l.all isD then mayL l else l.all wordOct
abbrev Ver := List UInt8 × List UInt8 × List UInt8 × List (List UInt8)
def fitL (v : Ver) : Bool := mayL v.1 && mayL v.2.1 && mayL v.2.2.1 && v.2.2.2.all wordL
/-- Where the first octet 45 is, or the length. -/
def ixL : List UInt8 → Nat
  | [] => 0
  | x :: xs => if (x.toNat : Int) = 45 then 0 else ixL xs + 1
def cutV (r : List UInt8) : Ver :=
  ((splitL 46 (r.take (ixL r))).getD 0 [], (splitL 46 (r.take (ixL r))).getD 1 [], (splitL 46 (r.take (ixL r))).getD 2 [], if ixL r < r.length then splitL 46 (r.drop (ixL r + 1)) else [])
/-- A text, taken apart. -/
def splitV (l : List UInt8) : Option Ver :=
  match l with
  | [] => none
  | x :: r => if (x.toNat : Int) = 118 ∧ (splitL 46 (r.take (ixL r))).length = 3 ∧ fitL (cutV r) = true then some (cutV r) else none
def okV (l : List UInt8) : Bool := (splitV l).isSome
def verOf (l : List UInt8) : Ver := (splitV l).getD ([], [], [], [])
def joinL (v : Ver) : List UInt8 := 118 :: (v.1 ++ 46 :: (v.2.1 ++ 46 :: v.2.2.1)) ++ (if v.2.2.2 = [] then [] else 45 :: jn 46 v.2.2.2)

theorem ixL_le (l : List UInt8) : ixL l ≤ l.length := by
  induction l with
  | nil => simp [ixL]
  | cons x l ih => rw [ixL]; split <;> simp; omega
theorem ixL_none (l : List UInt8) (h : ∀ c ∈ l, ¬ (c.toNat : Int) = 45) : ixL l = l.length := by
  induction l with
  | nil => rfl
  | cons x l ih => rw [ixL, if_neg (h x List.mem_cons_self), ih fun c hc => h c (List.mem_cons_of_mem _ hc), List.length_cons]
theorem ixL_cat (a b : List UInt8) (h : ∀ c ∈ a, ¬ (c.toNat : Int) = 45) : ixL (a ++ b) = a.length + ixL b := by
  induction a with
  | nil => simp
  | cons x a ih => rw [List.cons_append, ixL, if_neg (h x List.mem_cons_self), ih fun c hc => h c (List.mem_cons_of_mem _ hc), List.length_cons]; omega
theorem ixL_hit (l : List UInt8) (h : ixL l < l.length) : l.drop (ixL l) = 45 :: l.drop (ixL l + 1) := by
  induction l with
  | nil => simp at h
  | cons x l ih =>
    by_cases hx : (x.toNat : Int) = 45
    · have e : ixL (x :: l) = 0 := by rw [ixL, if_pos hx]
      rw [e]
      have : x = 45 := by rw [← UInt8.toNat_inj]; have : (45 : UInt8).toNat = 45 := rfl
                          omega
      simp [this]
    · have e : ixL (x :: l) = ixL l + 1 := by rw [ixL, if_neg hx]
      rw [e] at h ⊢
      have := ih (by simpa using h)
      simpa using this

theorem may_oct {l : List UInt8} (h : mayL l = true) : ∀ c ∈ l, 48 ≤ c.toNat ∧ c.toNat ≤ 57 := fun c hc => isD_bd (List.all_eq_true.1 (mayL_all h) c hc)
theorem word_no46 {l : List UInt8} (h : wordL l = true) : ∀ c ∈ l, ¬ (c.toNat : Int) = 46 := by
  intro c hc e
  have ec : c = 46 := by rw [← UInt8.toNat_inj]; have : (46 : UInt8).toNat = 46 := rfl
                         omega
  unfold wordL at h
  split at h
  · have := may_oct h c hc; omega
  · have := List.all_eq_true.1 h c hc
    subst ec
    revert this
    decide +kernel
theorem fit_parts {v : Ver} (h : fitL v = true) : mayL v.1 = true ∧ mayL v.2.1 = true ∧ mayL v.2.2.1 = true ∧ v.2.2.2.all wordL = true := by
  unfold fitL at h; simp only [Bool.and_eq_true] at h; exact ⟨h.1.1.1, h.1.1.2, h.1.2, h.2⟩

theorem split_join {v : Ver} (h : fitL v = true) : splitV (joinL v) = some v := by
  obtain ⟨ma, mi, pa, pre⟩ := v
  obtain ⟨h1, h2, h3, h4⟩ := fit_parts h
  simp only at h1 h2 h3 h4
  have o1 := may_oct h1
  have o2 := may_oct h2
  have o3 := may_oct h3
  obtain ⟨a, ha⟩ : ∃ a, a = ma ++ 46 :: (mi ++ 46 :: pa) := ⟨_, rfl⟩
  have ea : ∀ c ∈ a, ¬ (c.toNat : Int) = 45 := by
    intro c hc
    rw [ha] at hc
    simp only [List.mem_append, List.mem_cons] at hc
    rcases hc with hc | rfl | hc | rfl | hc
    · have := o1 c hc; omega
    · decide
    · have := o2 c hc; omega
    · decide
    · have := o3 c hc; omega
  have es : splitL 46 a = [ma, mi, pa] := by
    rw [ha, splitL_cat 46 46 (by decide), splitL_cat 46 46 (by decide), split_whole 46 ma (fun c hc => by have := o1 c hc; omega),
      split_whole 46 mi (fun c hc => by have := o2 c hc; omega), split_whole 46 pa (fun c hc => by have := o3 c hc; omega)]
    rfl
  have ej : joinL (ma, mi, pa, pre) = 118 :: (a ++ (if pre = [] then [] else 45 :: jn 46 pre)) := by
    unfold joinL; simp only [ha, List.cons_append]
  obtain ⟨r, hr⟩ : ∃ r, r = a ++ (if pre = [] then [] else 45 :: jn 46 pre) := ⟨_, rfl⟩
  have hix : ixL r = a.length := by
    rw [hr, ixL_cat a _ ea]
    split <;> simp [ixL]
  have htake : r.take (ixL r) = a := by rw [hix, hr]; simp
  have hc : cutV r = (ma, mi, pa, pre) := by
    unfold cutV
    rw [htake, es]
    have : (if ixL r < r.length then splitL 46 (r.drop (ixL r + 1)) else []) = pre := by
      by_cases hp : pre = []
      · rw [if_neg (by rw [hix, hr, if_pos hp]; simp), hp]
      · rw [if_pos (by rw [hix, hr, if_neg hp]; simp)]
        have hd : r.drop (ixL r + 1) = jn 46 pre := by
          rw [hix, hr, if_neg hp, List.drop_append]
          have : a.drop (a.length + 1) = [] := List.drop_eq_nil_of_le (by omega)
          rw [this]; simp
        rw [hd]
        exact split_jn 46 46 (by decide) pre hp fun l hl => word_no46 (List.all_eq_true.1 h4 l hl)
    rw [this]; rfl
  rw [ej, ← hr, splitV, if_pos ⟨by decide, by rw [htake, es]; rfl, by rw [hc]; exact h⟩, hc]

theorem join_split {l : List UInt8} {v : Ver} (h : splitV l = some v) : joinL v = l ∧ fitL v = true := by
  cases l with
  | nil => simp [splitV] at h
  | cons x r =>
    rw [splitV] at h
    split at h
    · rename_i hc
      obtain ⟨hx, h3, hf⟩ := hc
      simp only [Option.some.injEq] at h
      subst h
      refine ⟨?_, hf⟩
      have ex : x = 118 := by rw [← UInt8.toNat_inj]; have : (118 : UInt8).toNat = 118 := rfl
                              omega
      have hj := jn_split 46 46 (by decide) (r.take (ixL r))
      unfold joinL cutV
      obtain ⟨ls, hls⟩ : ∃ ls, splitL 46 (r.take (ixL r)) = ls := ⟨_, rfl⟩
      rw [hls] at h3 hj
      match ls, h3 with
      | [a, b, c], _ =>
        rw [hls]
        have e0 : ([a, b, c] : List (List UInt8)).getD 0 [] = a := rfl
        have e1 : ([a, b, c] : List (List UInt8)).getD 1 [] = b := rfl
        have e2 : ([a, b, c] : List (List UInt8)).getD 2 [] = c := rfl
        simp only [e0, e1, e2]
        have e3 : a ++ 46 :: (b ++ 46 :: c) = r.take (ixL r) := by rw [← hj]; simp [jn]
        rw [e3, ex, List.cons_append]
        congr 1
        by_cases hi : ixL r < r.length
        · rw [if_pos hi, if_neg (splitL_ne _ _), jn_split 46 46 (by decide)]
          rw [← ixL_hit r hi, List.take_append_drop]
        · rw [if_neg hi, if_pos rfl, List.append_nil, List.take_of_length_le (by omega)]
    · cases h

theorem okV_iff (l : List UInt8) : okV l = true ↔ ∃ v, splitV l = some v := by unfold okV; rw [Option.isSome_iff_exists]
theorem verOf_ok {l : List UInt8} (h : okV l = true) : splitV l = some (verOf l) := by
  obtain ⟨v, hv⟩ := (okV_iff l).1 h
  unfold verOf; rw [hv]; rfl
theorem verOf_no {l : List UInt8} (h : okV l = false) : verOf l = ([], [], [], []) := by
  unfold okV at h
  unfold verOf
  cases e : splitV l with
  | none => rfl
  | some v => rw [e] at h; cases h
theorem join_ok {l : List UInt8} (h : okV l = true) : joinL (verOf l) = l ∧ fitL (verOf l) = true := join_split (verOf_ok h)
theorem ok_join {v : Ver} (h : fitL v = true) : okV (joinL v) = true ∧ verOf (joinL v) = v := by
  have := split_join h
  unfold okV verOf; rw [this]; exact ⟨rfl, rfl⟩
theorem fit_no : fitL ([], [], [], []) = false := rfl
theorem fit_verOf (l : List UInt8) : fitL (verOf l) = okV l := by
  cases h : okV l
  · rw [verOf_no h]; rfl
  · exact (join_ok h).2
theorem ver_inj {a b : List UInt8} (ha : okV a = true) (hb : okV b = true) (h : verOf a = verOf b) : a = b := by
  rw [← (join_ok ha).1, ← (join_ok hb).1, h]
/-- What would come of some is a text of these just if they fit. -/
theorem join_iff (v : Ver) : (okV (joinL v) = true ∧ verOf (joinL v) = v) ↔ fitL v = true := by
  refine ⟨fun ⟨h1, h2⟩ => ?_, fun h => ok_join h⟩
  have := (join_ok h1).2
  rwa [h2] at this

/-! ### Order -/
/-- An order that tells each two apart. -/
structure Ord3 {α : Type} (c : α → α → Int) : Prop where
  vals : ∀ a b, c a b = -1 ∨ c a b = 0 ∨ c a b = 1
  swap : ∀ a b, c b a = - c a b
  zero : ∀ a b, c a b = 0 ↔ a = b
  trans : ∀ a b d, c a b ≤ 0 → c b d ≤ 0 → c a d ≤ 0 ∧ (c a b < 0 ∨ c b d < 0 → c a d < 0)

theorem Ord3.self {α : Type} {c : α → α → Int} (h : Ord3 c) (a : α) : c a a = 0 := (h.zero a a).2 rfl
theorem ord_cb : Ord3 Lib.compareBytes := ⟨cb_vals, cb_swap, cb_eq, cb_trans⟩
theorem ord_N : Ord3 cmpN := by
  refine ⟨fun a b => ?_, fun a b => ?_, fun a b => ?_, fun a b d h1 h2 => ?_⟩
  · unfold cmpN; have := cb_vals a b; split
    · simp
    · split
      · simp
      · exact this
  · unfold cmpN; rw [cb_swap a b]
    by_cases h1 : a.length < b.length
    · rw [if_pos h1, if_neg (by omega), if_pos h1]; rfl
    · by_cases h2 : b.length < a.length
      · rw [if_pos h2, if_neg h1, if_pos h2]
      · rw [if_neg h1, if_neg h2, if_neg h2, if_neg h1]
  · unfold cmpN
    by_cases h1 : a.length < b.length
    · rw [if_pos h1]; exact ⟨fun h => by omega, fun h => by subst h; omega⟩
    · by_cases h2 : b.length < a.length
      · rw [if_neg h1, if_pos h2]; exact ⟨fun h => by omega, fun h => by subst h; omega⟩
      · rw [if_neg h1, if_neg h2]; exact cb_eq a b
  · unfold cmpN at *
    have ht := cb_trans a b d
    by_cases a1 : a.length < b.length
    · by_cases b1 : b.length < d.length
      · rw [if_pos (by omega)]; omega
      · rw [if_neg b1] at h2
        by_cases b2 : d.length < b.length
        · rw [if_pos b2] at h2; omega
        · rw [if_pos (by omega)]; omega
    · rw [if_neg a1] at h1 ⊢
      by_cases a2 : b.length < a.length
      · rw [if_pos a2] at h1; omega
      · rw [if_neg a2] at h1 ⊢
        by_cases b1 : b.length < d.length
        · rw [if_pos (by omega)]; omega
        · rw [if_neg b1] at h2 ⊢
          by_cases b2 : d.length < b.length
          · rw [if_pos b2] at h2; omega
          · rw [if_neg b2] at h2 ⊢
            rw [if_neg (by omega), if_neg (by omega)]
            exact ht h1 h2

def wordC (a b : List UInt8) : Int := if mayL a = true then (if mayL b = true then cmpN a b else -1) else (if mayL b = true then 1 else Lib.compareBytes a b)
theorem ord_W : Ord3 wordC := by
  refine ⟨fun a b => ?_, fun a b => ?_, fun a b => ?_, fun a b d => ?_⟩
  · unfold wordC; have := cb_vals a b; have := ord_N.vals a b
    cases mayL a <;> cases mayL b <;> simp <;> assumption
  · unfold wordC; have h1 := ord_N.swap a b; have h2 := cb_swap a b
    cases mayL a <;> cases mayL b <;> simp <;> assumption
  · unfold wordC
    have h1 := ord_N.zero a b; have h2 := cb_eq a b
    cases ha : mayL a <;> cases hb : mayL b <;> simp
    · exact h2
    · intro e; subst e; rw [ha] at hb; cases hb
    · intro e; subst e; rw [ha] at hb; cases hb
    · exact h1
  · unfold wordC
    have h1 := ord_N.trans a b d; have h2 := cb_trans a b d
    have v1 := ord_N.vals a b
    cases mayL a <;> cases mayL b <;> cases mayL d <;> simp <;> first | assumption | omega

theorem then_tr {X Y Z p q r : Int} (tr : X ≤ 0 → Y ≤ 0 → Z ≤ 0 ∧ (X < 0 ∨ Y < 0 → Z < 0)) (hx : X = 0 → Z = Y) (hy : Y = 0 → Z = X)
    (pt : p ≤ 0 → q ≤ 0 → r ≤ 0 ∧ (p < 0 ∨ q < 0 → r < 0)) (h1 : (if X ≠ 0 then X else p) ≤ 0) (h2 : (if Y ≠ 0 then Y else q) ≤ 0) :
    (if Z ≠ 0 then Z else r) ≤ 0 ∧ ((if X ≠ 0 then X else p) < 0 ∨ (if Y ≠ 0 then Y else q) < 0 → (if Z ≠ 0 then Z else r) < 0) := by
  have f : ∀ U u : Int, ((U = 0 ∧ (if U ≠ 0 then U else u) = u) ∨ (U ≠ 0 ∧ (if U ≠ 0 then U else u) = U)) := by
    intro U u
    by_cases e : U = 0
    · exact .inl ⟨e, by rw [if_neg (by omega)]⟩
    · exact .inr ⟨e, by rw [if_pos e]⟩
  have f1 := f X p; have f2 := f Y q; have f3 := f Z r
  revert h1 h2 f1 f2 f3
  generalize (if X ≠ 0 then X else p) = U1
  generalize (if Y ≠ 0 then Y else q) = U2
  generalize (if Z ≠ 0 then Z else r) = U3
  intro h1 h2 f1 f2 f3
  rcases f1 with ⟨a, rfl⟩ | ⟨a, rfl⟩ <;> rcases f2 with ⟨b, rfl⟩ | ⟨b, rfl⟩ <;> rcases f3 with ⟨c, rfl⟩ | ⟨c, rfl⟩ <;> omega
def lexI {α : Type} (c : α → α → Int) : List α → List α → Int
  | [], [] => 0
  | [], _ :: _ => -1
  | _ :: _, [] => 1
  | x :: xs, y :: ys => if c x y ≠ 0 then c x y else lexI c xs ys
theorem ord_lex {α : Type} {c : α → α → Int} (h : Ord3 c) : Ord3 (lexI c) := by
  have vals : ∀ a b, lexI c a b = -1 ∨ lexI c a b = 0 ∨ lexI c a b = 1 := by
    intro a
    induction a with
    | nil => intro b; cases b <;> simp [lexI]
    | cons x a ih => intro b; cases b with
      | nil => simp [lexI]
      | cons y b => rw [lexI]; split
                    · exact h.vals x y
                    · exact ih b
  have swap : ∀ a b, lexI c b a = - lexI c a b := by
    intro a
    induction a with
    | nil => intro b; cases b <;> simp [lexI]
    | cons x a ih => intro b; cases b with
      | nil => simp [lexI]
      | cons y b =>
        rw [lexI, lexI, h.swap x y, ih b]
        by_cases e : c x y = 0
        · rw [if_neg (by omega), if_neg (by omega)]
        · rw [if_pos (by omega), if_pos e]
  have zero : ∀ a b, lexI c a b = 0 ↔ a = b := by
    intro a
    induction a with
    | nil => intro b; cases b <;> simp [lexI]
    | cons x a ih => intro b; cases b with
      | nil => simp [lexI]
      | cons y b =>
        rw [lexI]
        by_cases e : c x y = 0
        · rw [if_neg (by omega), ih b, List.cons.injEq, (h.zero x y).1 e]; simp
        · rw [if_pos e]
          refine ⟨fun h' => absurd h' e, fun h' => ?_⟩
          rw [List.cons.injEq] at h'
          exact absurd ((h.zero x y).2 h'.1) e
  refine ⟨vals, swap, zero, ?_⟩
  intro a
  induction a with
  | nil =>
    intro b d h1 h2
    cases d with
    | nil => cases b with
      | nil => simp [lexI]
      | cons y b => simp [lexI] at h2
    | cons z d => simp [lexI]
  | cons x a ih =>
    intro b d h1 h2
    cases b with
    | nil => simp [lexI] at h1
    | cons y b =>
      cases d with
      | nil => simp [lexI] at h2
      | cons z d =>
        have ih' := ih b d
        have q1 : lexI c (x :: a) (y :: b) = if c x y ≠ 0 then c x y else lexI c a b := rfl
        have q2 : lexI c (y :: b) (z :: d) = if c y z ≠ 0 then c y z else lexI c b d := rfl
        have q3 : lexI c (x :: a) (z :: d) = if c x z ≠ 0 then c x z else lexI c a d := rfl
        rw [q1] at h1; rw [q2] at h2
        rw [q1, q2, q3]
        exact then_tr (h.trans x y z) (fun e => by rw [(h.zero x y).1 e]) (fun e => by rw [(h.zero y z).1 e]) ih' h1 h2

/-- The order of words: one without them comes behind. -/
def preC (a b : List (List UInt8)) : Int := if a = [] then (if b = [] then 0 else 1) else (if b = [] then -1 else lexI wordC a b)
theorem ord_P : Ord3 preC := by
  have L := ord_lex ord_W
  refine ⟨fun a b => ?_, fun a b => ?_, fun a b => ?_, fun a b d => ?_⟩
  · unfold preC; have := L.vals a b
    by_cases ha : a = [] <;> by_cases hb : b = [] <;> simp [ha, hb]
    exact this
  · unfold preC; have := L.swap a b
    by_cases ha : a = [] <;> by_cases hb : b = [] <;> simp [ha, hb]
    exact this
  · unfold preC; have h1 := L.zero a b
    by_cases ha : a = []
    · by_cases hb : b = []
      · simp [ha, hb]
      · rw [if_pos ha, if_neg hb]; exact ⟨fun h => by omega, fun h => by rw [← h] at hb; exact absurd ha hb⟩
    · by_cases hb : b = []
      · rw [if_neg ha, if_pos hb]; exact ⟨fun h => by omega, fun h => by rw [h] at ha; exact absurd hb ha⟩
      · rw [if_neg ha, if_neg hb]; exact h1
  · unfold preC; have h1 := L.trans a b d; have h2 := L.vals a b; have h3 := L.vals b d
    by_cases ha : a = [] <;> by_cases hb : b = [] <;> by_cases hd : d = [] <;> simp [ha, hb, hd] <;> first | exact h1 | omega

def numsL (v : Ver) : List (List UInt8) := [v.1, v.2.1, v.2.2.1]
def cmpV (v w : Ver) : Int := if lexI cmpN (numsL v) (numsL w) ≠ 0 then lexI cmpN (numsL v) (numsL w) else preC v.2.2.2 w.2.2.2
theorem nums_inj {v w : Ver} (h : numsL v = numsL w) (hp : v.2.2.2 = w.2.2.2) : v = w := by
  obtain ⟨a, b, c, d⟩ := v
  obtain ⟨a', b', c', d'⟩ := w
  simp only [numsL, List.cons.injEq] at h
  obtain ⟨rfl, rfl, rfl, _⟩ := h
  simp only at hp
  rw [hp]
theorem ord_V : Ord3 cmpV := by
  have L := ord_lex ord_N
  have P := ord_P
  refine ⟨fun a b => ?_, fun a b => ?_, fun a b => ?_, fun a b d => ?_⟩
  · unfold cmpV; split
    · exact L.vals _ _
    · exact P.vals _ _
  · unfold cmpV; rw [L.swap (numsL a) (numsL b), P.swap a.2.2.2 b.2.2.2]
    by_cases e : lexI cmpN (numsL a) (numsL b) = 0
    · rw [if_neg (by omega), if_neg (by omega)]
    · rw [if_pos (by omega), if_pos e]
  · unfold cmpV
    by_cases e : lexI cmpN (numsL a) (numsL b) = 0
    · rw [if_neg (by omega), P.zero]
      exact ⟨fun h => nums_inj ((L.zero _ _).1 e) h, fun h => by rw [h]⟩
    · rw [if_pos e]
      exact ⟨fun h => absurd h e, fun h => absurd ((L.zero _ _).2 (by rw [h])) e⟩
  · intro h1 h2
    exact then_tr (L.trans (numsL a) (numsL b) (numsL d)) (fun e => by rw [(L.zero _ _).1 e]) (fun e => by rw [(L.zero _ _).1 e]) (P.trans a.2.2.2 b.2.2.2 d.2.2.2) h1 h2

/-! ### The last one of some -/
def cmpT (a b : List UInt8) : Int := cmpV (verOf a) (verOf b)
def maxF (best : List UInt8) : List (List UInt8) → List UInt8
  | [] => best
  | s :: r => maxF (if 0 < cmpT s best then s else best) r
def maxE : List (List UInt8) → List UInt8 × Int
  | [] => ([], 2)
  | s :: r => if (s :: r).all okV then (maxF s r, 0) else ([], 1)
theorem maxF_mem (r : List (List UInt8)) : ∀ b, maxF b r = b ∨ maxF b r ∈ r := by
  induction r with
  | nil => intro b; exact .inl rfl
  | cons s r ih =>
    intro b
    rw [maxF]
    rcases ih (if 0 < cmpT s b then s else b) with h | h
    · rw [h]; split
      · exact .inr List.mem_cons_self
      · exact .inl rfl
    · exact .inr (List.mem_cons_of_mem _ h)
theorem cmpT_trans {a b d : List UInt8} (h1 : cmpT a b ≤ 0) (h2 : cmpT b d ≤ 0) : cmpT a d ≤ 0 := (ord_V.trans _ _ _ h1 h2).1
theorem cmpT_self (a : List UInt8) : cmpT a a = 0 := ord_V.self _
theorem cmpT_swap (a b : List UInt8) : cmpT b a = - cmpT a b := ord_V.swap _ _
theorem maxF_top (r : List (List UInt8)) : ∀ b, cmpT b (maxF b r) ≤ 0 ∧ ∀ s ∈ r, cmpT s (maxF b r) ≤ 0 := by
  induction r with
  | nil => intro b; refine ⟨?_, fun s hs => by cases hs⟩; rw [maxF, cmpT_self]; omega
  | cons s r ih =>
    intro b
    rw [maxF]
    obtain ⟨h1, h2⟩ := ih (if 0 < cmpT s b then s else b)
    by_cases h : 0 < cmpT s b
    · rw [if_pos h] at h1 h2 ⊢
      have hb : cmpT b s ≤ 0 := by rw [cmpT_swap s b]; omega
      refine ⟨cmpT_trans hb h1, fun t ht => ?_⟩
      rcases List.mem_cons.1 ht with rfl | ht
      · exact h1
      · exact h2 t ht
    · rw [if_neg h] at h1 h2 ⊢
      refine ⟨h1, fun t ht => ?_⟩
      rcases List.mem_cons.1 ht with rfl | ht
      · exact cmpT_trans (by omega) h1
      · exact h2 t ht
theorem maxE_ok {ls : List (List UInt8)} (hn : ls ≠ []) (h : ls.all okV = true) : ∃ m, maxE ls = (m, 0) ∧ m ∈ ls ∧ ∀ s ∈ ls, cmpT s m ≤ 0 := by
  cases ls with
  | nil => exact absurd rfl hn
  | cons s r =>
    refine ⟨maxF s r, by rw [maxE, if_pos h], ?_, ?_⟩
    · rcases maxF_mem r s with h' | h'
      · rw [h']; exact List.mem_cons_self
      · exact List.mem_cons_of_mem _ h'
    · intro t ht
      rcases List.mem_cons.1 ht with rfl | ht
      · exact (maxF_top r t).1
      · exact (maxF_top r s).2 t ht
theorem maxE_no {ls : List (List UInt8)} (hn : ls ≠ []) (h : ls.all okV = false) : maxE ls = ([], 1) := by
  cases ls with
  | nil => exact absurd rfl hn
  | cons s r => rw [maxE, if_neg (by rw [h]; simp)]
theorem maxE_rev (ls : List (List UInt8)) : maxE ls.reverse = maxE ls := by
  by_cases hn : ls = []
  · rw [hn]; rfl
  · have hn' : ls.reverse ≠ [] := by simpa using hn
    cases h : ls.all okV
    · rw [maxE_no hn h, maxE_no hn' (by rw [List.all_reverse]; exact h)]
    · obtain ⟨m, hm, h1, h2⟩ := maxE_ok hn h
      obtain ⟨m', hm', h1', h2'⟩ := maxE_ok hn' (by rw [List.all_reverse]; exact h)
      rw [hm, hm']
      have a1 := h2 m' (by simpa using h1')
      have a2 := h2' m (by simpa using h1)
      have e : cmpT m m' = 0 := by have := cmpT_swap m m'; omega
      have ev := (ord_V.zero _ _).1 e
      rw [ver_inj (List.all_eq_true.1 h m h1) (List.all_eq_true.1 h m' (by simpa using h1')) ev]
end Go.Proofs.Ytdefphacdcbljaa
