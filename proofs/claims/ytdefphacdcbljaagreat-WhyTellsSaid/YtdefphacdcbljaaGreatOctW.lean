/- A region that draws its order, by what each operation leaves and what it finds: each is kept by the others. -/
import Derived.Test.YtdefphacdcbljaaGreatOctO
import Derived.Orders
namespace Go.Proofs.YtdefphacdcbljaaGreat
open Go.RowKit
set_option maxRecDepth 100000

theorem lane_count {l : Array Bool} {i : Nat} (h : l.getD i true = false) : (l.setIfInBounds i true).toList.count false + 1 = l.toList.count false := by
  obtain ⟨l⟩ := l
  rw [Array.toList_setIfInBounds]
  have hi : i < l.length := by
    by_cases hi : i < l.length
    · exact hi
    · rw [Array.getD_eq_getD_getElem?] at h
      simp [List.getElem?_eq_none (Nat.le_of_not_lt hi)] at h
  have hv : l[i] = false := by
    rw [Array.getD_eq_getD_getElem?] at h
    simpa [List.getElem?_eq_getElem hi] using h
  have hc : 0 < l.count false := List.count_pos_iff.2 (hv ▸ List.getElem_mem hi)
  simp only
  rw [List.count_set hi, hv]
  simp
  omega
theorem lane_inv {P : Program} {md : Region.Mode} {ops : Array Oper} {Q : Exit → Act → World → Prop} (I : Array Bool → Act → World → Prop)
    (hstep : ∀ listed a w i, listed.size = ops.size → i ∈ Region.ready md ops listed → I listed a w → wpOp P ops Q i (I (listed.setIfInBounds i true)) a w)
    (hend : ∀ listed a w, listed.size = ops.size → Region.ready md ops listed = [] → I listed a w → Q .normal a w) :
    ∀ (fuel : Nat) (listed : Array Bool) (a : Act) (w : World), listed.size = ops.size → listed.toList.count false ≤ fuel → I listed a w → wpAny P md ops Q fuel listed a w := by
  intro fuel
  induction fuel with
  | zero =>
    intro listed a w hs hc hI
    have hr : Region.ready md ops listed = [] := by
      rw [List.eq_nil_iff_forall_not_mem]
      intro i hi
      have h := lane_count (mem_ready.1 hi).1
      omega
    exact ⟨hr, hend _ _ _ hs hr hI⟩
  | succ fuel ih =>
    intro listed a w hs hc hI
    refine ⟨fun hr => hend _ _ _ hs hr hI, fun i hi => ?_⟩
    refine wpOp_mono (fun a' w' h => ih _ a' w' ?_ ?_ h) (hstep _ _ _ i hs hi hI)
    · rw [Array.size_setIfInBounds]; exact hs
    · have h := lane_count (mem_ready.1 hi).1
      omega

/-- What stands ahead of an operation, told by the region itself. -/
def laneDeps (ops : Array Oper) (i : Nat) : List Nat := match ops[i]? with
  | some o => o.after.toList.filterMap fun e => if Region.binds .any e then some e.on else none
  | none => []
def laneGood (ops : Array Oper) (deps : List (List Nat)) : Bool :=
  (List.range ops.size).all fun i => ((deps.getD i []).all fun d => decide (d < i) && ((laneDeps ops i).contains d || (laneDeps ops i).any fun e => (deps.getD e []).contains d)) && (laneDeps ops i).all fun e => decide (e < i)

theorem lane_set {l : Array Bool} {i j : Nat} (h : (l.setIfInBounds i true).getD j true = true) (hne : j ≠ i) : l.getD j true = true := by
  rwa [getD_set_ne true (Ne.symm hne)] at h
theorem getD_false {l : Array Bool} {j : Nat} (h : l.getD j false = true) : l.getD j true = true := by
  rw [Array.getD_eq_getD_getElem?] at h ⊢
  cases e : l[j]? with
  | none => rfl
  | some b => rw [e] at h; simpa using h
theorem getD_true {l : Array Bool} {j : Nat} (hj : j < l.size) (h : l.getD j true = true) : l.getD j false = true := by
  rw [Array.getD_eq_getD_getElem?] at h ⊢
  rw [Array.getElem?_eq_getElem hj] at h ⊢
  exact h
theorem mem_laneDeps {ops : Array Oper} {i d : Nat} {o : Oper} (ho : ops[i]? = some o) : d ∈ laneDeps ops i ↔ ∃ e ∈ o.after, Region.binds .any e = true ∧ e.on = d := by
  unfold laneDeps
  rw [ho]
  simp only [List.mem_filterMap, Array.mem_toList_iff]
  constructor
  · rintro ⟨e, he, h⟩
    by_cases hb : Region.binds .any e = true
    · rw [if_pos hb] at h; exact ⟨e, he, hb, Option.some.inj h⟩
    · rw [if_neg hb] at h; cases h
  · rintro ⟨e, he, hb, rfl⟩
    exact ⟨e, he, by rw [if_pos hb]⟩

theorem wp_region_lane {P : Program} {ops : Array Oper} {Q : Exit → Act → World → Prop} {id : Nat} {a : Act} {w : World} (hm : P.follows .mixedOrders = true) (deps : List (List Nat)) (hg : laneGood ops deps = true)
    (G : Act → World → Prop) (F E : Nat → Act → World → Prop)
    (h0 : G a w.drew) (hE0 : ∀ j, j < ops.size → E j a w.drew)
    (hstep : ∀ i, i < ops.size → ∀ a w, G a w → (∀ d ∈ deps.getD i [], F d a w) → (∀ k, k < ops.size → k = i ∨ i ∈ deps.getD k [] → E k a w) →
      wpOp P ops Q i (fun a' w' => G a' w' ∧ F i a' w' ∧ ∀ j, j < ops.size → j ≠ i → (F j a w → F j a' w') ∧ (E j a w → E j a' w')) a w)
    (hend : ∀ a w, G a w → (∀ j, j < ops.size → F j a w) → Q .normal a w) : (Code.region id ops true).wp P Q a w := by
  have hgood : ∀ i, i < ops.size → (∀ d ∈ deps.getD i [], d < i ∧ (d ∈ laneDeps ops i ∨ ∃ e ∈ laneDeps ops i, d ∈ deps.getD e [])) ∧ ∀ e ∈ laneDeps ops i, e < i := fun i hi => by
    unfold laneGood at hg
    have h := List.all_eq_true.1 hg i (List.mem_range.2 hi)
    rw [Bool.and_eq_true] at h
    refine ⟨fun d hd => ?_, fun e he => of_decide_eq_true (List.all_eq_true.1 h.2 e he)⟩
    have h1 := List.all_eq_true.1 h.1 d hd
    rw [Bool.and_eq_true, Bool.or_eq_true] at h1
    refine ⟨of_decide_eq_true h1.1, h1.2.imp (fun k => by simpa using k) fun k => ?_⟩
    obtain ⟨e, he, k⟩ := List.any_eq_true.1 k
    exact ⟨e, he, by simpa using k⟩
  refine wp_region_any hm (lane_inv (fun listed a w => listed.size = ops.size ∧ G a w ∧ (∀ j, j < ops.size → listed.getD j true = true → F j a w) ∧ (∀ j, j < ops.size → listed.getD j true = false → E j a w) ∧ (∀ j, j < ops.size → listed.getD j true = true → ∀ d ∈ deps.getD j [], listed.getD d true = true)) ?_ ?_ _ _ _ _ (by simp) (by simp) ?_)
  · rintro listed a w i hsz hi ⟨_, hG, hF, hE, hC⟩
    obtain ⟨hun, o, ho, hall⟩ := mem_ready.1 hi
    have hin : i < ops.size := (Array.getElem?_eq_some_iff.1 ho).1
    have hdir : ∀ e ∈ laneDeps ops i, listed.getD e true = true := fun e he => by
      obtain ⟨x, hx, hb, rfl⟩ := (mem_laneDeps ho).1 he
      exact getD_false (hall x hx hb)
    have hdl : ∀ d ∈ deps.getD i [], listed.getD d true = true := fun d hd => by
      rcases ((hgood i hin).1 d hd).2 with h | ⟨e, he, h⟩
      · exact hdir d h
      · exact hC e (Nat.lt_trans ((hgood i hin).2 e he) hin) (hdir e he) d h
    have hd2 : ∀ d ∈ deps.getD i [], F d a w := fun d hd => hF d (Nat.lt_trans ((hgood i hin).1 d hd).1 hin) (hdl d hd)
    have hE2 : ∀ k, k < ops.size → k = i ∨ i ∈ deps.getD k [] → E k a w := fun k hk h => by
      rcases h with rfl | h
      · exact hE k hk hun
      · cases e : listed.getD k true with
        | false => exact hE k hk e
        | true => have := hC k hk e i h; rw [this] at hun; cases hun
    refine wpOp_mono ?_ (hstep i hin a w hG hd2 hE2)
    rintro a' w' ⟨hG', hF', hk⟩
    refine ⟨by rw [Array.size_setIfInBounds]; exact hsz, hG', fun j hj hl => ?_, fun j hj hl => ?_, fun j hj hl d hd => ?_⟩
    · by_cases hji : j = i
      · rw [hji]; exact hF'
      · exact (hk j hj hji).1 (hF j hj (lane_set hl hji))
    · by_cases hji : j = i
      · subst hji
        rw [Array.getD_eq_getD_getElem?, Array.getElem?_setIfInBounds_self_of_lt (by omega)] at hl
        cases hl
      · rw [getD_set_ne true (Ne.symm hji)] at hl
        exact (hk j hj hji).2 (hE j hj hl)
    · have : listed.getD d true = true := by
        by_cases hji : j = i
        · rw [hji] at hd; exact hdl d hd
        · exact hC j hj (lane_set hl hji) d hd
      by_cases hdi : d = i
      · rw [hdi, Array.getD_eq_getD_getElem?, Array.getElem?_setIfInBounds_self_of_lt (by omega)]; rfl
      · rw [getD_set_ne true (Ne.symm hdi)]; exact this
  · rintro listed a w hsz hr ⟨_, hG, hF, _, _⟩
    refine hend a w hG fun j hj => hF j hj ?_
    have hall : ∀ m j, j < m → j < ops.size → listed.getD j true = true := by
      intro m
      induction m with
      | zero => intro j h; exact absurd h (Nat.not_lt_zero j)
      | succ m ih =>
        intro j hjm hjs
        cases e : listed.getD j true with
        | true => rfl
        | false =>
          exfalso
          have hmem : j ∈ Region.ready .any ops listed := mem_ready.2 ⟨e, ops[j], Array.getElem?_eq_getElem hjs, fun x hx hb => by
            have hlt := (hgood j hjs).2 x.on ((mem_laneDeps (Array.getElem?_eq_getElem hjs)).2 ⟨x, hx, hb, rfl⟩)
            exact getD_true (by omega) (ih x.on (by omega) (by omega))⟩
          rw [hr] at hmem
          cases hmem
    exact hall (j + 1) j (Nat.lt_succ_self j) hj
  · refine ⟨by simp, h0, fun j hj hl => ?_, fun j hj _ => hE0 j hj, fun j hj hl => ?_⟩
    all_goals
      exfalso
      rw [Array.getD_eq_getD_getElem?, Array.getElem?_replicate, if_pos hj] at hl
      cases hl
end Go.Proofs.YtdefphacdcbljaaGreat
