/- A region in whatever order: an invariant over which operations are listed. -/
import Derived.Test.YtcdflfjbdbofcaaVerT
namespace Go.Proofs.Ytcdflfjbdbofcaa
open Go.RowKit
theorem ready_out {md : Region.Mode} {ops : Array Oper} {listed : Array Bool} {i : Nat} (h : i ∈ Region.ready md ops listed) : i < ops.size ∧ listed.getD i true = false := by
  unfold Region.ready at h
  simp only [List.mem_filter, List.mem_range, Bool.and_eq_true, Bool.not_eq_true'] at h
  exact ⟨h.1, h.2.1⟩
theorem count_set {l : Array Bool} {i : Nat} (h : l.getD i true = false) : (l.setIfInBounds i true).toList.count false + 1 = l.toList.count false := by
  obtain ⟨l⟩ := l
  rw [Array.toList_setIfInBounds]
  have hi : i < l.length := by
    by_cases hi : i < l.length
    · exact hi
    · rw [Array.getD_eq_getD_getElem?] at h
      simp [List.getElem?_eq_none (Nat.le_of_not_lt hi)] at h
  have hv : l[i] = false := by
    rw [Array.getD_eq_getD_getElem?] at h
    simpa [List.getElem?_eq_getElem hi] using h
  have hc : 0 < l.count false := List.count_pos_iff.2 (hv ▸ List.getElem_mem hi)
  simp only
  rw [List.count_set hi, hv]
  simp
  omega
/-- A region in whatever order, by an invariant over which operations are listed. -/
theorem wpAny_inv {P : Program} {md : Region.Mode} {ops : Array Oper} {Q : Exit → Act → World → Prop} (I : Array Bool → Act → World → Prop)
    (hstep : ∀ listed a w i, listed.size = ops.size → i ∈ Region.ready md ops listed → I listed a w → wpOp P ops Q i (I (listed.setIfInBounds i true)) a w)
    (hend : ∀ listed a w, listed.size = ops.size → Region.ready md ops listed = [] → I listed a w → Q .normal a w) :
    ∀ (fuel : Nat) (listed : Array Bool) (a : Act) (w : World), listed.size = ops.size → listed.toList.count false ≤ fuel → I listed a w → wpAny P md ops Q fuel listed a w := by
  intro fuel
  induction fuel with
  | zero =>
    intro listed a w hs hc hI
    have hr : Region.ready md ops listed = [] := by
      rw [List.eq_nil_iff_forall_not_mem]
      intro i hi
      have h := count_set (ready_out hi).2
      omega
    exact ⟨hr, hend _ _ _ hs hr hI⟩
  | succ fuel ih =>
    intro listed a w hs hc hI
    refine ⟨fun hr => hend _ _ _ hs hr hI, fun i hi => ?_⟩
    refine wpOp_mono (fun a' w' h => ih _ a' w' ?_ ?_ h) (hstep _ _ _ i hs hi hI)
    · rw [Array.size_setIfInBounds]; exact hs
    · have h := count_set (ready_out hi).2
      omega
theorem wp_region_inv {P : Program} {ops : Array Oper} {Q : Exit → Act → World → Prop} {id : Nat} {a : Act} {w : World} (hm : P.follows .mixedOrders = true) (I : Array Bool → Act → World → Prop)
    (h0 : I (Array.replicate ops.size false) a { w with drawn := w.drawn + 1 })
    (hstep : ∀ listed a w i, listed.size = ops.size → i ∈ Region.ready .any ops listed → I listed a w → wpOp P ops Q i (I (listed.setIfInBounds i true)) a w)
    (hend : ∀ listed a w, listed.size = ops.size → Region.ready .any ops listed = [] → I listed a w → Q .normal a w) : (Code.region id ops true).wp P Q a w :=
  wp_region_any hm (wpAny_inv I hstep hend _ _ _ _ (by simp) (by simp) h0)

/-! ### What VersionSteps' walk needs of the order -/
theorem lex_more {α : Type} {c : α → α → Int} (h : Ord3 c) (x : α) : ∀ l : List α, lexI c l (l ++ [x]) = -1
  | [] => rfl
  | a :: l => by
    show (if c a a ≠ 0 then c a a else lexI c l (l ++ [x])) = -1
    rw [h.self a, if_neg (by simp)]
    exact lex_more h x l
theorem lex_last {α : Type} {c : α → α → Int} (h : Ord3 c) (x y : α) (hc : c x y = -1) : ∀ l : List α, lexI c (l ++ [x]) (l ++ [y]) = -1
  | [] => by
    show (if c x y ≠ 0 then c x y else lexI c [] []) = -1
    rw [hc, if_pos (by simp)]
  | a :: l => by
    show (if c a a ≠ 0 then c a a else lexI c (l ++ [x]) (l ++ [y])) = -1
    rw [h.self a, if_neg (by simp)]
    exact lex_last h x y hc l
/-- A word more. -/
theorem steps_word (a b c : List UInt8) (pre : List (List UInt8)) (wd : List UInt8) : cmpV (a, b, c, pre) (a, b, c, pre ++ [wd]) = if pre = [] then 1 else -1 := by
  refine (cmpV_eq (v := (a, b, c, pre)) (u := (a, b, c, pre ++ [wd])) rfl).trans ?_
  show preC pre (pre ++ [wd]) = _
  unfold preC
  have hne : ¬ pre ++ [wd] = [] := by simp
  by_cases hp : pre = []
  · rw [if_pos hp, if_neg hne, if_pos hp]
  · rw [if_neg hp, if_neg hne, if_neg hp]
    exact lex_more ord_W wd pre
/-- A number ahead of a word. -/
theorem steps_kind (a b c : List UInt8) (pre : List (List UInt8)) (x y : List UInt8) (hx : mayL x = true) (hy : mayL y = false) : cmpV (a, b, c, pre ++ [x]) (a, b, c, pre ++ [y]) = -1 := by
  refine (cmpV_eq (v := (a, b, c, pre ++ [x])) (u := (a, b, c, pre ++ [y])) rfl).trans ?_
  show preC (pre ++ [x]) (pre ++ [y]) = _
  unfold preC
  rw [if_neg (by simp), if_neg (by simp)]
  refine lex_last ord_W x y ?_ pre
  unfold wordC
  rw [if_pos hx, if_neg (by rw [hy]; simp)]
theorem cmpV_third {a b c c' : List UInt8} {pre pre' : List (List UInt8)} (h : cmpN c c' = -1) : cmpV (a, b, c, pre) (a, b, c', pre') = -1 := by
  have e : lexI cmpN (numsL (a, b, c, pre)) (numsL (a, b, c', pre')) = -1 := by
    show (if cmpN a a ≠ 0 then cmpN a a else if cmpN b b ≠ 0 then cmpN b b else if cmpN c c' ≠ 0 then cmpN c c' else 0) = -1
    rw [ord_N.self a, if_neg (by simp), ord_N.self b, if_neg (by simp), h, if_pos (by simp)]
  unfold cmpV
  simp only [e]
  rfl
/-- A higher patch. -/
theorem steps_up (a b c : List UInt8) (pre pre' : List (List UInt8)) : cmpV (a, b, c, pre) (a, b, 49 :: c, pre') = -1 :=
  cmpV_third (by unfold cmpN; rw [if_pos (by simp)])
theorem steps_seven (a b : List UInt8) (pre pre' : List (List UInt8)) : cmpV (a, b, [48], pre) (a, b, [55], pre') = -1 :=
  cmpV_third (by decide)
theorem may_one {l : List UInt8} (h : mayL l = true) : mayL (49 :: l) = true := by
  unfold mayL at h ⊢
  simp only [Bool.and_eq_true] at h
  simp only [List.isEmpty_cons, Bool.not_false, Bool.true_and, List.all_cons, h.1.2, Bool.and_true, List.head?_cons]
  rfl
theorem u8_all {p : UInt8 → Prop} (h : ∀ k : Fin 256, p ⟨⟨k⟩⟩) (n : UInt8) : p n := h n.toBitVec.toFin
set_option maxRecDepth 100000 in
theorem may_dig (n : UInt8) : mayL [49 + n % 9] = true := u8_all (p := fun n => mayL [49 + n % 9] = true) (by decide) n
set_option maxRecDepth 100000 in
theorem may_let (n : UInt8) : mayL [97 + n % 26] = false := u8_all (p := fun n => mayL [97 + n % 26] = false) (by decide) n
set_option maxRecDepth 100000 in
theorem word_let (n : UInt8) : wordL [97 + n % 26] = true := u8_all (p := fun n => wordL [97 + n % 26] = true) (by decide) n
set_option maxRecDepth 100000 in
theorem word_dig (n : UInt8) : wordL [49 + n % 9] = true := u8_all (p := fun n => wordL [49 + n % 9] = true) (by decide) n
theorem fit_more {a b c : List UInt8} {pre : List (List UInt8)} (h : fitL (a, b, c, pre) = true) (x : List UInt8) (hx : wordL x = true) : fitL (a, b, c, pre ++ [x]) = true := by
  unfold fitL at h ⊢
  simp only [Bool.and_eq_true, List.all_append, List.all_cons, List.all_nil] at h ⊢
  exact ⟨h.1, h.2, hx, trivial⟩
theorem fit_patch {a b c c' : List UInt8} {pre pre' : List (List UInt8)} (h : fitL (a, b, c, pre) = true) (h' : fitL (a, b, c, pre') = true) (hc : mayL c' = true) : fitL (a, b, c', pre') = true := by
  unfold fitL at h h' ⊢
  simp only [Bool.and_eq_true] at h h' ⊢
  exact ⟨⟨h.1.1, hc⟩, h'.2⟩
theorem small_more {n : Nat} {a b c : List UInt8} {pre : List (List UInt8)} (h : smallV n (a, b, c, pre)) (x : List UInt8) (hx : x.length ≤ n) : smallV (n + 1) (a, b, c, pre ++ [x]) := by
  obtain ⟨h1, h2, h3, h4, h5⟩ := h
  simp only at h1 h2 h3 h4 h5
  refine ⟨by simp only; omega, by simp only; omega, by simp only; omega, by simp only [List.length_append, List.length_singleton]; omega, fun l hl => ?_⟩
  simp only [List.mem_append, List.mem_singleton] at hl
  rcases hl with hl | rfl
  · have := h5 l hl; omega
  · omega
theorem small_patch {n : Nat} {a b c : List UInt8} {pre : List (List UInt8)} (h : smallV n (a, b, c, pre)) {x : UInt8} : smallV (n + 1) (a, b, x :: c, pre) := by
  obtain ⟨h1, h2, h3, h4, h5⟩ := h
  simp only at h1 h2 h3 h4 h5
  exact ⟨by simp only; omega, by simp only; omega, by simp only [List.length_cons]; omega, by simp only; omega, fun l hl => by have := h5 l hl; omega⟩
theorem VSlot.patch {w : World} {g c c' : Nat} {a b p p' : List UInt8} {pre px : List (List UInt8)} {ad ad' : Option Addr} {s : ByteArray} (h : VSlot w g (a, b, p, pre) ad c) (hs : s = mkB p')
    (hst : Strs (((w.setCell ⟨g, 2, none⟩ (.string s)).setCell ⟨g, 3, none⟩ (.slice ad' px.length c')).drew) (.slice ad' px.length c') px) :
    VSlot (((w.setCell ⟨g, 2, none⟩ (.string s)).setCell ⟨g, 3, none⟩ (.slice ad' px.length c')).drew) g (a, b, p', px) ad' c' := by
  refine ⟨?_, hst⟩
  have := h.row
  simp only at this
  subst hs
  show ((w.setCell ⟨g, 2, none⟩ (.string (mkB p'))).setCell ⟨g, 3, none⟩ (.slice ad' px.length c')).heap[g]? = _
  simp [World.setCell, Array.getElem?_modify, this]
theorem VSlot.patch2 {w : World} {g c : Nat} {a b p p' : List UInt8} {px : List (List UInt8)} {ad : Option Addr} {s : ByteArray} (h : VSlot w g (a, b, p, px) ad c) (hs : s = mkB p')
    (hst : Strs (w.setCell ⟨g, 2, none⟩ (.string s)) (.slice ad px.length c) px) :
    VSlot (w.setCell ⟨g, 2, none⟩ (.string s)) g (a, b, p', px) ad c := by
  refine ⟨?_, hst⟩
  have := h.row
  simp only at this
  subst hs
  simp [World.setCell, Array.getElem?_modify, this]
theorem mkB_cons (x : UInt8) (p : List UInt8) : (⟨#[x]⟩ : ByteArray) ++ mkB p = mkB (x :: p) := mkB_of' (by simp only [cat_list, mkB_list]; simp)
theorem small_seven {n : Nat} {a b c : List UInt8} {pre : List (List UInt8)} {x y : UInt8} (h : smallV n (a, b, x :: c, pre)) : smallV n (a, b, [y], pre) := by
  obtain ⟨h1, h2, h3, h4, h5⟩ := h
  simp only [List.length_cons] at h1 h2 h3 h4 h5
  exact ⟨by simp only; omega, by simp only; omega, by simp only [List.length_cons, List.length_nil]; omega, by simp only; omega, h5⟩
theorem Strs.far0 {w0 w : World} {a : Option Addr} {n c : Nat} {ls : List (List UInt8)} (h0 : Strs w0 (.slice a n c) ls) {g i : Nat} {y : Value} (hg : w0.heap.size ≤ g) (h : Strs w (.slice a n c) ls) : Strs (w.setCell ⟨g, i, none⟩ y) (.slice a n c) ls := by
  by_cases hl : 0 < ls.length
  · refine h.far fun ad ha => ?_
    obtain ⟨a', c', hv, h1, h2, hn, h3⟩ := h0.ex
    obtain ⟨b, off, hb, hlt, _⟩ := h3 hl
    injection hv with e1 e2 e3
    rw [← e1, ha] at hb
    injection hb with hb
    rw [hb]
    show b ≠ g
    omega
  · obtain ⟨a', c', hv, h1, h2, hn, h3⟩ := h.ex
    exact ⟨a', c', hv, h1, h2, hn, fun hp => absurd hp hl⟩
theorem VSlot.far0 {w0 w : World} {g g' i c : Nat} {v : Ver} {a : Option Addr} {y : Value} (h0 : Strs w0 (.slice a v.2.2.2.length c) v.2.2.2) (hg : w0.heap.size ≤ g) (hn : g' ≠ g) (h : VSlot w g' v a c) : VSlot (w.setCell ⟨g, i, none⟩ y) g' v a c :=
  ⟨row_far h.row hn _, h0.far0 hg h.st⟩
theorem two_new {w : World} {c : Nat} {a b p : List UInt8} {pre : List (List UInt8)} {ad : Option Addr} (h : Strs w (.slice ad pre.length c) pre) {W : World}
    (hW : W = ((w.alloc (.cells #[.string (mkB a), .string (mkB b), .string (mkB p), .slice ad pre.length c] 24)).alloc (.cells #[.string (mkB a), .string (mkB b), .string (mkB p), .slice ad pre.length c] 24)).drew) :
    VSlot W w.heap.size (a, b, p, pre) ad c ∧ VSlot W (w.heap.size + 1) (a, b, p, pre) ad c ∧ Below w.heap.size w W := by
  have h1 := VSlot.new (v := (a, b, p, pre)) (c := c) (a := ad) h
  have h2 := VSlot.new (v := (a, b, p, pre)) (c := c) (a := ad) h1.st
  have h3 := (h1.alloc (.cells #[.string (mkB a), .string (mkB b), .string (mkB p), .slice ad pre.length c] 24)).drewN 1
  have h4 := h2.drewN 1
  simp only at h3 h4
  have e : (w.alloc (.cells #[.string (mkB a), .string (mkB b), .string (mkB p), .slice ad pre.length c] 24)).heap.size = w.heap.size + 1 := by simp
  rw [e] at h4
  subst hW
  exact ⟨h3, h4, below_step (((Below.refl _ _).alloc (Nat.le_refl _) _).alloc (by simp) _) (below_q ⟨1, rfl⟩)⟩
end Go.Proofs.Ytcdflfjbdbofcaa
