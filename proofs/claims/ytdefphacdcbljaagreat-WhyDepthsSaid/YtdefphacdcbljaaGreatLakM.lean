/- Needs, and what is missing: plain facts. -/
import Derived.Test.YtdefphacdcbljaaGreatNodM
namespace Go.Proofs.YtdefphacdcbljaaGreat
set_option linter.unusedVariables false
set_option maxRecDepth 100000

abbrev Ne := Nd × Nd
abbrev zNe : Ne := (([], []), ([], []))
abbrev Lk := Nd × (List Nd × Bool)
abbrev zLk : Lk := (([], []), ([], false))
/-- The root's? -/
def rootK (d : Ne) : Bool := decide (d.1 = (([], []) : Nd))
def mayK1 (d : Ne) : Bool := okN d.2 && (rootK d || okN d.1)
def mayK (l : List Ne) : Bool := l.all mayK1
def chkK (l : List Ne) : Int := if mayK l = true then 0 else 1
theorem chkK_yes {l : List Ne} (h : mayK l = true) : chkK l = 0 := if_pos h
theorem chkK_no {l : List Ne} (h : mayK l = false) : chkK l = 1 := if_neg (by rw [h]; exact Bool.false_ne_true)
theorem ne_getD {l : List Ne} {j : Nat} (h : j < l.length) : l.getD j zNe = l[j] := by
  rw [List.getD_eq_getElem?_getD, List.getElem?_eq_getElem h]; rfl
theorem ne_mem {l : List Ne} {j : Nat} (h : j < l.length) : l.getD j zNe ∈ l := by rw [ne_getD h]; exact List.getElem_mem h
theorem lk_getD {l : List Lk} {j : Nat} (h : j < l.length) : l.getD j zLk = l[j] := by
  rw [List.getD_eq_getElem?_getD, List.getElem?_eq_getElem h]; rfl
theorem lk_mem {l : List Lk} {j : Nat} (h : j < l.length) : l.getD j zLk ∈ l := by rw [lk_getD h]; exact List.getElem_mem h
theorem ne_take {l : List Ne} {k : Nat} (h : k < l.length) : l.take (k + 1) = l.take k ++ [l.getD k zNe] := by
  rw [List.take_succ_eq_append_getElem h, ne_getD h]
theorem lk_take {l : List Lk} {k : Nat} (h : k < l.length) : l.take (k + 1) = l.take k ++ [l.getD k zLk] := by
  rw [List.take_succ_eq_append_getElem h, lk_getD h]
theorem mayK_take {l : List Ne} {k : Nat} (h : k < l.length) (o : mayK1 (l.getD k zNe) = true) (ht : mayK (l.take k) = true) : mayK (l.take (k + 1)) = true := by
  unfold mayK at *
  rw [ne_take h, List.all_append, ht]
  simp only [List.all_cons, List.all_nil, o]; rfl
theorem mayK_no {l : List Ne} {k : Nat} (h : k < l.length) (o : mayK1 (l.getD k zNe) = false) : mayK l = false := by
  unfold mayK
  rw [List.all_eq_false]
  exact ⟨_, ne_mem h, by rw [o]; exact Bool.false_ne_true⟩
theorem mayK_mem {l : List Ne} (h : mayK l = true) {d : Ne} (hd : d ∈ l) : okN d.2 = true ∧ (rootK d = false → okN d.1 = true) := by
  have := List.all_eq_true.1 h d hd
  unfold mayK1 at this
  rw [Bool.and_eq_true, Bool.or_eq_true] at this
  exact ⟨this.1, fun k => this.2.resolve_left (by rw [k]; exact Bool.false_ne_true)⟩
theorem mayK_sub {l m : List Ne} (h : mayK l = true) (hs : ∀ d ∈ m, d ∈ l) : mayK m = true := List.all_eq_true.2 fun d hd => List.all_eq_true.1 h d (hs d hd)
theorem mayK_filter {l : List Ne} (h : mayK l = true) (p : Ne → Bool) : mayK (l.filter p) = true := mayK_sub h fun _ hd => (List.mem_filter.1 hd).1
theorem mayK_app {l m : List Ne} (h : mayK l = true) (k : mayK m = true) : mayK (l ++ m) = true := by
  unfold mayK at *; rw [List.all_append, h, k]; rfl

/-- Of n? -/
def toK (n : Nd) (d : Ne) : Bool := decide (d.2 = n)
theorem toK_iff {n : Nd} {d : Ne} : toK n d = true ↔ d.2 = n := decide_eq_true_iff
def fromK (l : List Ne) : List Nd := (l.filter fun d => !rootK d).map (·.1)
theorem fromK_mem {l : List Ne} {x : Nd} : x ∈ fromK l ↔ ∃ d ∈ l, rootK d = false ∧ d.1 = x := by
  unfold fromK
  rw [List.mem_map]
  constructor
  · rintro ⟨d, hd, rfl⟩
    obtain ⟨h1, h2⟩ := List.mem_filter.1 hd
    exact ⟨d, h1, by simpa using h2, rfl⟩
  · rintro ⟨d, hd, h, rfl⟩
    exact ⟨d, List.mem_filter.2 ⟨hd, by simp [h]⟩, rfl⟩
theorem fromK_ok {l : List Ne} (h : mayK l = true) : ∀ x ∈ fromK l, okN x = true := fun x hx => by
  obtain ⟨d, hd, hr, rfl⟩ := fromK_mem.1 hx
  exact (mayK_mem h hd).2 hr
theorem fromK_len (l : List Ne) : (fromK l).length ≤ l.length := by
  unfold fromK; rw [List.length_map]; exact List.length_filter_le _ _
/-- Where needs come from: the set of nodes, and whether the root. -/
def whK (l : List Ne) : List Nd × Bool := (setN (fromK l), l.any rootK)
def byK (l : List Ne) (n : Nd) : List Nd × Bool := whK (l.filter (toK n))
def byKE (l : List Ne) (n : Nd) : List Nd × (Bool × Int) := if (mayK l && okN n) = true then ((byK l n).1, ((byK l n).2, 0)) else ([], (false, 1))
theorem byKE_yes {l : List Ne} {n : Nd} (h : mayK l = true) (k : okN n = true) : byKE l n = ((byK l n).1, ((byK l n).2, 0)) := by unfold byKE; rw [h, k]; rfl
theorem byKE_no {l : List Ne} {n : Nd} (h : (mayK l && okN n) = false) : byKE l n = ([], (false, 1)) := by unfold byKE; rw [h]; rfl
/-- Needs of what is reached, or of the root. -/
def liveK (live : List Nd) (l : List Ne) : List Ne := l.filter fun d => hasN live d.1 || rootK d
def lackK (live miss : List Nd) (l : List Ne) : List Lk := miss.map fun n => (n, byK (liveK live l) n)
def lackKE (live keys : List Nd) (l : List Ne) : List Lk × Int := if ((checkN live && checkN keys) && mayK l) = true then (lackK live (minusN live keys) l, 0) else ([], 1)
theorem lackKE_yes {live keys : List Nd} {l : List Ne} (h : checkN live = true) (k : checkN keys = true) (m : mayK l = true) : lackKE live keys l = (lackK live (minusN live keys) l, 0) := by unfold lackKE; rw [h, k, m]; rfl
theorem lackKE_no {live keys : List Nd} {l : List Ne} (h : ((checkN live && checkN keys) && mayK l) = false) : lackKE live keys l = ([], 1) := by unfold lackKE; rw [h]; rfl
/-- What is not wanted of all needs. -/
def delK (live miss : List Nd) (d : Ne) : Bool := !hasN miss d.2 || (!hasN live d.1 && !rootK d)
def needK (live miss : List Nd) (l : List Ne) : List Ne := l.filter fun d => !delK live miss d
theorem besideK {live miss : List Nd} {l : List Ne} {n : Nd} (hn : n ∈ miss) : (needK live miss l).filter (toK n) = (liveK live l).filter (toK n) := by
  unfold needK liveK
  rw [List.filter_filter, List.filter_filter]
  refine List.filter_congr fun d _ => ?_
  cases h : toK n d
  · rfl
  · rw [toK_iff] at h
    have hm : hasN miss d.2 = true := by rw [h]; exact hasN_iff.2 hn
    unfold delK
    rw [hm]
    cases hasN live d.1 <;> cases rootK d <;> rfl
theorem lackK_len (live miss : List Nd) (l : List Ne) : (lackK live miss l).length = miss.length := by unfold lackK; rw [List.length_map]
theorem lackK_at {live miss : List Nd} {l : List Ne} {k : Nat} (h : k < miss.length) : (lackK live miss l).getD k zLk = (miss.getD k ([], []), byK (liveK live l) (miss.getD k ([], []))) := by
  rw [lk_getD (by rw [lackK_len]; exact h), nd_getD h]
  unfold lackK
  rw [List.getElem_map]
theorem lackK_take {live miss : List Nd} {l : List Ne} {k : Nat} (h : k < miss.length) : lackK live (miss.take (k + 1)) l = lackK live (miss.take k) l ++ [(miss.getD k ([], []), byK (liveK live l) (miss.getD k ([], [])))] := by
  unfold lackK
  rw [List.take_succ_eq_append_getElem h, List.map_append, nd_getD h]; rfl

/-! ### Who needs: the same, told of what is in lists -/
theorem whK_same {l m : List Ne} (hm : mayK m = true) (h : ∀ d, d ∈ l ↔ d ∈ m) : whK l = whK m := by
  have hl : mayK l = true := mayK_sub hm fun d hd => (h d).1 hd
  unfold whK
  congr 1
  · refine setN_is (fromK_ok hm) (setN_rises _) fun x => ?_
    rw [setN_mem (fromK_ok hl), fromK_mem, fromK_mem]
    exact ⟨fun ⟨d, a, b⟩ => ⟨d, (h d).1 a, b⟩, fun ⟨d, a, b⟩ => ⟨d, (h d).2 a, b⟩⟩
  · rw [Bool.eq_iff_iff, List.any_eq_true, List.any_eq_true]
    exact ⟨fun ⟨d, a, b⟩ => ⟨d, (h d).1 a, b⟩, fun ⟨d, a, b⟩ => ⟨d, (h d).2 a, b⟩⟩
theorem byK_same {l m : List Ne} (hm : mayK m = true) (h : ∀ d, d ∈ l ↔ d ∈ m) (n : Nd) : byK l n = byK m n :=
  whK_same (mayK_filter hm _) fun d => by rw [List.mem_filter, List.mem_filter, h d]
theorem liveK_mem {live : List Nd} {l : List Ne} {d : Ne} : d ∈ liveK live l ↔ d ∈ l ∧ (hasN live d.1 || rootK d) = true := List.mem_filter
theorem liveK_may {live : List Nd} {l : List Ne} (h : mayK l = true) : mayK (liveK live l) = true := mayK_filter h _
theorem lackK_same {live miss : List Nd} {l m : List Ne} (hm : mayK m = true) (h : ∀ d, d ∈ l ↔ d ∈ m) : lackK live miss l = lackK live miss m := by
  unfold lackK
  refine List.map_congr_left fun n _ => ?_
  rw [byK_same (liveK_may hm) (fun d => by rw [liveK_mem, liveK_mem, h d]) n]
/-- The document's: the set of all, of which those that are reached. -/
theorem byK_live {live : List Nd} {l : List Ne} (h : mayK l = true) (n : Nd) : byK (liveK live l) n = ((byK l n).1.filter (hasN live), (byK l n).2) := by
  have h1 : mayK (l.filter (toK n)) = true := mayK_filter h _
  have h2 : mayK ((liveK live l).filter (toK n)) = true := mayK_filter (liveK_may h) _
  unfold byK whK
  congr 1
  · refine (setN_is (fromK_ok h2) ((setN_rises _).filter _) fun x => ?_).symm
    rw [List.mem_filter, setN_mem (fromK_ok h1), fromK_mem, fromK_mem]
    constructor
    · rintro ⟨⟨d, hd, hr, rfl⟩, hx⟩
      obtain ⟨a, b⟩ := List.mem_filter.1 hd
      exact ⟨d, List.mem_filter.2 ⟨liveK_mem.2 ⟨a, by rw [hx]; rfl⟩, b⟩, hr, rfl⟩
    · rintro ⟨d, hd, hr, rfl⟩
      obtain ⟨a, b⟩ := List.mem_filter.1 hd
      obtain ⟨c, e⟩ := liveK_mem.1 a
      rw [hr, Bool.or_false] at e
      exact ⟨⟨d, List.mem_filter.2 ⟨c, b⟩, hr, rfl⟩, e⟩
  · rw [Bool.eq_iff_iff, List.any_eq_true, List.any_eq_true]
    constructor
    · rintro ⟨d, hd, hr⟩
      obtain ⟨a, b⟩ := List.mem_filter.1 hd
      exact ⟨d, List.mem_filter.2 ⟨(liveK_mem.1 a).1, b⟩, hr⟩
    · rintro ⟨d, hd, hr⟩
      obtain ⟨a, b⟩ := List.mem_filter.1 hd
      exact ⟨d, List.mem_filter.2 ⟨liveK_mem.2 ⟨a, by rw [hr, Bool.or_true]⟩, b⟩, hr⟩
theorem byK_len (l : List Ne) (n : Nd) : (byK l n).1.length ≤ (l.filter (toK n)).length := Nat.le_trans (setN_len _) (fromK_len _)
theorem byK_mem {l : List Ne} (h : mayK l = true) {n x : Nd} (hx : x ∈ (byK l n).1) : ∃ d ∈ l, d.2 = n ∧ rootK d = false ∧ d.1 = x := by
  obtain ⟨d, hd, hr, e⟩ := fromK_mem.1 ((setN_mem (fromK_ok (mayK_filter h _)) x).1 hx)
  obtain ⟨a, b⟩ := List.mem_filter.1 hd
  exact ⟨d, a, toK_iff.1 b, hr, e⟩
theorem byK_liveMem {live : List Nd} {l : List Ne} (h : mayK l = true) {n x : Nd} (hx : x ∈ (byK (liveK live l) n).1) : x ∈ live := by
  obtain ⟨d, hd, -, hr, rfl⟩ := byK_mem (liveK_may h) hx
  have := (liveK_mem.1 hd).2
  rw [hr, Bool.or_false] at this
  exact hasN_iff.1 this
/-- One by one, the document's way. -/
theorem fromK_snoc (l : List Ne) (d : Ne) : fromK (l ++ [d]) = if rootK d = true then fromK l else fromK l ++ [d.1] := by
  unfold fromK
  rw [List.filter_append, List.map_append]
  cases h : rootK d
  · simp [h]
  · simp [h]
theorem whK_snoc (l : List Ne) (d : Ne) : whK (l ++ [d]) = if rootK d = true then ((whK l).1, true) else (withN (whK l).1 d.1, (whK l).2) := by
  unfold whK
  rw [fromK_snoc, List.any_append]
  cases h : rootK d
  · simp only [Bool.false_eq_true, if_false, List.any_cons, h, List.any_nil, Bool.or_false]
    unfold setN; rw [List.foldl_append]; rfl
  · simp only [if_true, List.any_cons, h, Bool.true_or, Bool.or_true]
theorem byK_take {l : List Ne} {k : Nat} (h : k < l.length) (n : Nd) : byK (l.take (k + 1)) n =
    if toK n (l.getD k zNe) = true then (if rootK (l.getD k zNe) = true then ((byK (l.take k) n).1, true) else (withN (byK (l.take k) n).1 (l.getD k zNe).1, (byK (l.take k) n).2)) else byK (l.take k) n := by
  unfold byK
  rw [ne_take h, List.filter_append]
  cases e : toK n (l.getD k zNe)
  · rw [List.filter_cons, e]; simp
  · rw [List.filter_cons, e]; simp only [if_true, List.filter_nil]
    exact whK_snoc _ _
end Go.Proofs.YtdefphacdcbljaaGreat
