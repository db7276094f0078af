/- THE TEXTS OF OctZ LisM LisA LisB LisC LisD LisE: A contract of the library's sort at this translation, by the shelf's own command, in plain words. Build lists: which may be, each path's version, what changes, and the list then: plain facts. Changes in memory: slices of them, rows of the call's own, what comes in, what operations on them come to. Maps by paths of two versions each; a map's paths in order, by the library's sort. Which lists are build lists, a path's version, both lists' versions beside one another: of the program. Both lists' versions beside one another: of the program. Which changes may be: of the program. -/
import Derived.Shelf.SlIter.Nil
import Derived.Shelf.SortM.Plain
import Derived.Shelf.SortM.SortNone
import Derived.Ground.GgzProg
import Derived.Ground.SlgmProg
import Derived.Shelf.SlGeneric
import Derived.Test.YtlbibgofhhdgoaaGreatProg
import Derived.Test.YtlbibgofhhdgoaaGreatTalM
import Derived.Sort.KeysCollected
import Derived.Sort.Walk0
import Derived.Test.YtlbibgofhhdgoaaGreatStoA
import Derived.Test.YtlbibgofhhdgoaaGreatRolM
import Derived.Test.YtlbibgofhhdgoaaGreatNodY
import Derived.Test.YtlbibgofhhdgoaaGreatNodR
import Derived.Laws.StructEq
import Derived.Deep.SlicePairs
import Derived.Deep.QuietTactic
import Derived.BigQuiet
import Derived.Maps.OwnOps
import Derived.Maps.OwnSet
import Derived.StringKeys
import Derived.Test.YtlbibgofhhdgoaaGreatTalJ
import Derived.Test.YtlbibgofhhdgoaaGreatNodI
namespace Go.Proofs
open Go.Shelf
def Tryz.keysT_ren : Go.Shelf.Ren := ⟨fun | 7 => 68 | 10 => 86 | n => n, fun | 23 => 70 | 26 => 9 | 3 => 73 | 28 => 95 | 0 => 0 | 27 => 94 | 33 => 37 | 4 => 4 | n => n, fun | n => n⟩
theorem Tryz.keysT : Go.Proofs.SlLaysZ.n7 Tryz.prog Tryz.keysT_ren := {
  mixed := by kernel_rfl
  f7 := ⟨Tryz.f68.name, by decide, Tryz.func68.trans (congrArg some (by kernel_rfl))⟩
  f10 := ⟨Tryz.f86.name, by decide, Tryz.func86.trans (congrArg some (by kernel_rfl))⟩
  t0 := Tryz.underlying0
  a0 := Tryz.isAgg0
  z0 := Tryz.sizeOf0
  v0 := Tryz.zeroValue0
  t4 := Tryz.underlying4
  a4 := Tryz.isAgg4
  z4 := Tryz.sizeOf4
  v4 := Tryz.zeroValue4
  t23 := Tryz.underlying70
  a23 := Tryz.isAgg70
  z23 := Tryz.sizeOf70
  v23 := Tryz.zeroValue70
  t26 := Tryz.underlying9
  a26 := Tryz.isAgg9
  z26 := Tryz.sizeOf9
  v26 := Tryz.zeroValue9
  t27 := Tryz.underlying94
  a27 := Tryz.isAgg94
  z27 := Tryz.sizeOf94
  v27 := Tryz.zeroValue94
  t28 := Tryz.underlying95
  a28 := Tryz.isAgg95
  z28 := Tryz.sizeOf95
  v28 := Tryz.zeroValue95
  t33 := Tryz.underlying37
  a33 := Tryz.isAgg37
  z33 := Tryz.sizeOf37
  v33 := Tryz.zeroValue37 }
def Tryz.sortedT_ren : Go.Shelf.Ren := ⟨fun | 6 => 67 | 8 => 84 | 9 => 85 | 11 => 95 | 13 => 97 | 12 => 96 | 23 => 119 | 24 => 120 | 14 => 110 | 15 => 111 | 16 => 112 | 17 => 113 | 18 => 114 | 19 => 115 | 20 => 116 | 21 => 117 | 22 => 118 | 25 => 129 | 26 => 130 | 27 => 131 | 28 => 132 | 29 => 133 | 30 => 134 | 31 => 141 | n => n, fun | 26 => 9 | 28 => 95 | 24 => 61 | 0 => 0 | 3 => 3 | 37 => 105 | 48 => 135 | 50 => 137 | 4 => 4 | 40 => 129 | 39 => 128 | 45 => 81 | 5 => 5 | 9 => 9 | 51 => 141 | 55 => 145 | 57 => 151 | 58 => 152 | 33 => 37 | n => n, fun | n => n⟩
theorem Tryz.sortedT : Go.Proofs.SlLaysZ.n6 Tryz.prog Tryz.sortedT_ren := {
  mixed := by kernel_rfl
  f6 := ⟨Tryz.f67.name, by decide, Tryz.func67.trans (congrArg some (by kernel_rfl))⟩
  f8 := ⟨Tryz.f84.name, by decide, Tryz.func84.trans (congrArg some (by kernel_rfl))⟩
  f11 := ⟨Tryz.f95.name, by decide, Tryz.func95.trans (congrArg some (by kernel_rfl))⟩
  t0 := Tryz.underlying0
  a0 := Tryz.isAgg0
  z0 := Tryz.sizeOf0
  v0 := Tryz.zeroValue0
  t24 := Tryz.underlying61
  a24 := Tryz.isAgg61
  z24 := Tryz.sizeOf61
  v24 := Tryz.zeroValue61
  t26 := Tryz.underlying9
  a26 := Tryz.isAgg9
  z26 := Tryz.sizeOf9
  v26 := Tryz.zeroValue9
  t28 := Tryz.underlying95
  a28 := Tryz.isAgg95
  z28 := Tryz.sizeOf95
  v28 := Tryz.zeroValue95
  i26 := by kernel_rfl }
def Tryz.sortT_ren : Go.Shelf.Ren := ⟨fun | 6 => 85 | 8 => 97 | 9 => 96 | 19 => 119 | 20 => 120 | 21 => 110 | 22 => 111 | 23 => 112 | 24 => 113 | 25 => 114 | 26 => 115 | 27 => 116 | 28 => 117 | 29 => 118 | 36 => 129 | 31 => 130 | 32 => 131 | 37 => 132 | 38 => 133 | 39 => 134 | 41 => 141 | n => n, fun | 27 => 61 | 29 => 9 | 3 => 3 | 32 => 105 | 26 => 61 | 0 => 0 | 44 => 135 | 46 => 137 | 4 => 4 | 36 => 129 | 35 => 128 | 41 => 81 | 5 => 5 | 9 => 9 | 53 => 141 | 57 => 145 | 63 => 151 | 64 => 152 | n => n, fun | n => n⟩
theorem Tryz.sortT : Go.Proofs.SlLaysM.n6 Tryz.prog Tryz.sortT_ren := {
  mixed := by kernel_rfl
  f6 := ⟨Tryz.f85.name, by decide, Tryz.func85.trans (congrArg some (by kernel_rfl))⟩
  f8 := Tryz.func97.trans (congrArg some (by kernel_rfl))
  f9 := ⟨Tryz.f96.name, by decide, Tryz.func96.trans (congrArg some (by kernel_rfl))⟩
  f19 := Tryz.func119.trans (congrArg some (by kernel_rfl))
  f20 := Tryz.func120.trans (congrArg some (by kernel_rfl))
  f21 := ⟨Tryz.f110.name, by decide, Tryz.func110.trans (congrArg some (by kernel_rfl))⟩
  f22 := ⟨Tryz.f111.name, by decide, Tryz.func111.trans (congrArg some (by kernel_rfl))⟩
  f23 := ⟨Tryz.f112.name, by decide, Tryz.func112.trans (congrArg some (by kernel_rfl))⟩
  f24 := ⟨Tryz.f113.name, by decide, Tryz.func113.trans (congrArg some (by kernel_rfl))⟩
  f25 := ⟨Tryz.f114.name, by decide, Tryz.func114.trans (congrArg some (by kernel_rfl))⟩
  f26 := ⟨Tryz.f115.name, by decide, Tryz.func115.trans (congrArg some (by kernel_rfl))⟩
  f27 := ⟨Tryz.f116.name, by decide, Tryz.func116.trans (congrArg some (by kernel_rfl))⟩
  f28 := ⟨Tryz.f117.name, by decide, Tryz.func117.trans (congrArg some (by kernel_rfl))⟩
  f29 := ⟨Tryz.f118.name, by decide, Tryz.func118.trans (congrArg some (by kernel_rfl))⟩
  f31 := Tryz.func130.trans (congrArg some (by kernel_rfl))
  f32 := Tryz.func131.trans (congrArg some (by kernel_rfl))
  f36 := ⟨Tryz.f129.name, by decide, Tryz.func129.trans (congrArg some (by kernel_rfl))⟩
  f37 := ⟨Tryz.f132.name, by decide, Tryz.func132.trans (congrArg some (by kernel_rfl))⟩
  f38 := ⟨Tryz.f133.name, by decide, Tryz.func133.trans (congrArg some (by kernel_rfl))⟩
  f39 := ⟨Tryz.f134.name, by decide, Tryz.func134.trans (congrArg some (by kernel_rfl))⟩
  f41 := ⟨Tryz.f141.name, by decide, Tryz.func141.trans (congrArg some (by kernel_rfl))⟩
  t0 := Tryz.underlying0
  a0 := Tryz.isAgg0
  z0 := Tryz.sizeOf0
  v0 := Tryz.zeroValue0
  t3 := Tryz.underlying3
  a3 := Tryz.isAgg3
  z3 := Tryz.sizeOf3
  v3 := Tryz.zeroValue3
  t4 := Tryz.underlying4
  a4 := Tryz.isAgg4
  z4 := Tryz.sizeOf4
  v4 := Tryz.zeroValue4
  t5 := Tryz.underlying5
  a5 := Tryz.isAgg5
  z5 := Tryz.sizeOf5
  v5 := Tryz.zeroValue5
  t9 := Tryz.underlying9
  a9 := Tryz.isAgg9
  z9 := Tryz.sizeOf9
  v9 := Tryz.zeroValue9
  t26 := Tryz.underlying61
  a26 := Tryz.isAgg61
  z26 := Tryz.sizeOf61
  v26 := Tryz.zeroValue61
  t27 := Tryz.underlying61
  a27 := Tryz.isAgg61
  z27 := Tryz.sizeOf61
  v27 := Tryz.zeroValue61
  t29 := Tryz.underlying9
  a29 := Tryz.isAgg9
  z29 := Tryz.sizeOf9
  v29 := Tryz.zeroValue9
  t32 := Tryz.underlying105
  a32 := Tryz.isAgg105
  z32 := Tryz.sizeOf105
  v32 := Tryz.zeroValue105
  t35 := Tryz.underlying128
  a35 := Tryz.isAgg128
  z35 := Tryz.sizeOf128
  v35 := Tryz.zeroValue128
  t36 := Tryz.underlying129
  a36 := Tryz.isAgg129
  z36 := Tryz.sizeOf129
  v36 := Tryz.zeroValue129
  t41 := Tryz.underlying81
  a41 := Tryz.isAgg81
  z41 := Tryz.sizeOf81
  v41 := Tryz.zeroValue81
  t44 := Tryz.underlying135
  a44 := Tryz.isAgg135
  z44 := Tryz.sizeOf135
  v44 := Tryz.zeroValue135
  t46 := Tryz.underlying137
  a46 := Tryz.isAgg137
  z46 := Tryz.sizeOf137
  v46 := Tryz.zeroValue137
  t53 := Tryz.underlying141
  a53 := Tryz.isAgg141
  z53 := Tryz.sizeOf141
  v53 := Tryz.zeroValue141
  t57 := Tryz.underlying145
  a57 := Tryz.isAgg145
  z57 := Tryz.sizeOf145
  v57 := Tryz.zeroValue145
  t63 := Tryz.underlying151
  a63 := Tryz.isAgg151
  z63 := Tryz.sizeOf151
  v63 := Tryz.zeroValue151
  t64 := Tryz.underlying152
  a64 := Tryz.isAgg152
  z64 := Tryz.sizeOf152
  v64 := Tryz.zeroValue152 }
end Go.Proofs

namespace Go.Proofs.YtlbibgofhhdgoaaGreat
set_option linter.unusedVariables false
set_option maxRecDepth 100000

abbrev Tx := List UInt8
abbrev Ch := Tx × Tx × Tx
abbrev zC : Ch := ([], [], [])

/-! ### Texts that rise -/
theorem lessT_cb : ∀ a b : Tx, Op.bytesLess a b = decide (Lib.compareBytes a b < 0)
  | [], [] => rfl
  | [], _ :: _ => rfl
  | _ :: _, [] => rfl
  | x :: a, y :: b => by
    rw [Op.bytesLess, Lib.compareBytes, lessT_cb a b]
    by_cases h1 : x < y
    · simp [h1]
    · by_cases h2 : y < x
      · have h3 : ¬ x = y := fun e => h1 (by rw [e]; rw [e] at h2; exact h2)
        simp [h1, h2, h3]
      · have h3 : x = y := UInt8.le_antisymm (UInt8.not_lt.1 h2) (UInt8.not_lt.1 h1)
        subst h3
        simp [h1]
def ltB (a b : Tx) : Bool := decide (Lib.compareBytes a b < 0)
theorem ltB_iff {a b : Tx} : ltB a b = true ↔ Lib.compareBytes a b < 0 := by unfold ltB; exact decide_eq_true_iff
theorem ltB_no {a b : Tx} : ltB a b = false ↔ 0 ≤ Lib.compareBytes a b := by unfold ltB; rw [decide_eq_false_iff_not]; omega
theorem ltB_trans (a b c : Tx) (h : ltB a b = true) (k : ltB b c = true) : ltB a c = true := by
  rw [ltB_iff] at *
  exact (cb_trans _ _ _ (Int.le_of_lt h) (Int.le_of_lt k)).2 (.inl h)
theorem ltB_irrefl (a : Tx) : ltB a a = false := by rw [ltB_no, cb_self]; exact Int.le_refl 0
theorem ltB_asym {a b : Tx} (h : ltB a b = true) : ltB b a = false := by
  rw [ltB_iff] at h; rw [ltB_no, cb_swap]; omega
theorem ltB_tri (a b : Tx) : ltB a b = true ∨ a = b ∨ ltB b a = true := by
  rcases cb_vals a b with h | h | h
  · exact .inl (ltB_iff.2 (by omega))
  · exact .inr (.inl (cb_zero _ _ h))
  · exact .inr (.inr (ltB_iff.2 (by rw [cb_swap]; omega)))
theorem ltB_ne {a b : Tx} (h : ltB a b = true) : a ≠ b := fun e => by subst e; rw [ltB_irrefl] at h; cases h
theorem lt_ltB {a b : Tx} : a < b ↔ ltB a b = true := by
  have h1 := bytesLess_eq a b
  have h2 := lessT_cb a b
  rw [h1] at h2
  unfold ltB
  rw [← h2]; simp
theorem le_ltB {a b : Tx} : a ≤ b ↔ ltB b a = false := by
  rw [← Bool.not_eq_true, ← lt_ltB]; exact List.not_lt.symm
abbrev RiseT (l : List Tx) : Prop := l.Pairwise fun a b => ltB a b = true
theorem riseT_eq : ∀ {l m : List Tx}, RiseT l → RiseT m → (∀ n, n ∈ l ↔ n ∈ m) → l = m
  | [], m, _, _, h => by
    cases m with
    | nil => rfl
    | cons y r => exact absurd ((h y).2 List.mem_cons_self) (by simp)
  | x :: l, [], _, _, h => absurd ((h x).1 List.mem_cons_self) (by simp)
  | x :: l, y :: m, hl, hm, h => by
    obtain ⟨h1, h2⟩ := List.pairwise_cons.1 hl
    obtain ⟨k1, k2⟩ := List.pairwise_cons.1 hm
    have e : x = y := by
      rcases List.mem_cons.1 ((h x).1 List.mem_cons_self) with e | hx
      · exact e
      · rcases List.mem_cons.1 ((h y).2 List.mem_cons_self) with e | hy
        · exact e.symm
        · have a := k1 x hx
          have b := h1 y hy
          rw [ltB_asym a] at b; cases b
    subst e
    have nx : x ∉ l := fun hx => by have := h1 x hx; rw [ltB_irrefl] at this; cases this
    have mx : x ∉ m := fun hx => by have := k1 x hx; rw [ltB_irrefl] at this; cases this
    rw [riseT_eq h2 k2 (fun n => ?_)]
    constructor
    · intro hn
      rcases List.mem_cons.1 ((h n).1 (List.mem_cons_of_mem _ hn)) with e | hm'
      · subst e; exact absurd hn nx
      · exact hm'
    · intro hn
      rcases List.mem_cons.1 ((h n).2 (List.mem_cons_of_mem _ hn)) with e | hm'
      · subst e; exact absurd hn mx
      · exact hm'
theorem riseT_nodup {l : List Tx} (h : RiseT l) : l.Nodup := List.Pairwise.imp (fun {a b} k => ltB_ne k) h
def insT (l : List Tx) (n : Tx) : List Tx := (l.filter fun x => ltB x n) ++ n :: (l.filter fun x => ltB n x)
def setT (l : List Tx) : List Tx := l.foldl insT []
theorem insT_mem {l : List Tx} {n : Tx} (x : Tx) : x ∈ insT l n ↔ x ∈ l ∨ x = n := by
  unfold insT
  simp only [List.mem_append, List.mem_filter, List.mem_cons]
  constructor
  · rintro (⟨h, _⟩ | rfl | ⟨h, _⟩)
    · exact .inl h
    · exact .inr rfl
    · exact .inl h
  · rintro (h | rfl)
    · rcases ltB_tri x n with k | k | k
      · exact .inl ⟨h, k⟩
      · exact .inr (.inl k)
      · exact .inr (.inr ⟨h, k⟩)
    · exact .inr (.inl rfl)
theorem insT_rise {l : List Tx} {n : Tx} (h : RiseT l) : RiseT (insT l n) := by
  unfold insT
  refine List.pairwise_append.2 ⟨h.filter _, List.pairwise_cons.2 ⟨fun x hx => (List.mem_filter.1 hx).2, h.filter _⟩, fun x hx y hy => ?_⟩
  have hx' := (List.mem_filter.1 hx).2
  rcases List.mem_cons.1 hy with rfl | hy
  · exact hx'
  · exact ltB_trans _ _ _ hx' (List.mem_filter.1 hy).2
theorem foldT_mem {l : List Tx} : ∀ {s : List Tx} (x : Tx), x ∈ l.foldl insT s ↔ x ∈ s ∨ x ∈ l := by
  induction l with
  | nil => intro s x; simp
  | cons y l ih => intro s x; rw [List.foldl_cons, ih x, insT_mem, List.mem_cons]; exact or_assoc
theorem foldT_rise {l : List Tx} : ∀ {s : List Tx}, RiseT s → RiseT (l.foldl insT s) := by
  induction l with
  | nil => intro s hs; exact hs
  | cons y l ih => intro s hs; exact ih (insT_rise hs)
theorem setT_mem {l : List Tx} {x : Tx} : x ∈ setT l ↔ x ∈ l := by unfold setT; rw [foldT_mem]; simp
theorem setT_rise (l : List Tx) : RiseT (setT l) := foldT_rise List.Pairwise.nil
theorem setT_is {l s : List Tx} (hs : RiseT s) (hm : ∀ x, x ∈ s ↔ x ∈ l) : s = setT l := riseT_eq hs (setT_rise l) fun x => (hm x).trans setT_mem.symm
theorem setT_congr {l m : List Tx} (h : ∀ x, x ∈ l ↔ x ∈ m) : setT l = setT m := setT_is (setT_rise l) fun x => setT_mem.trans (h x)
theorem insT_len (l : List Tx) (n : Tx) : (insT l n).length ≤ l.length + 1 := by
  unfold insT
  have h : ∀ l : List Tx, (l.filter fun x => ltB x n).length + (l.filter fun x => ltB n x).length ≤ l.length := by
    intro l
    induction l with
    | nil => simp
    | cons x l ih =>
      cases h1 : ltB x n
      · cases h2 : ltB n x
        · simp only [List.filter_cons, h1, h2, List.length_cons]; simp only [Bool.false_eq_true, if_false]; omega
        · simp only [List.filter_cons, h1, h2, List.length_cons]; simp only [Bool.false_eq_true, if_false, if_true, List.length_cons]; omega
      · have h2 := ltB_asym h1
        simp only [List.filter_cons, h1, h2, List.length_cons]; simp only [Bool.false_eq_true, if_false, if_true, List.length_cons]; omega
  have := h l
  simp only [List.length_append, List.length_cons]
  omega
theorem foldT_len (l : List Tx) : ∀ s : List Tx, (l.foldl insT s).length ≤ s.length + l.length := by
  induction l with
  | nil => intro s; simp
  | cons y l ih => intro s; have := ih (insT s y); have := insT_len s y; rw [List.foldl_cons, List.length_cons]; omega
theorem setT_len (l : List Tx) : (setT l).length ≤ l.length := by have := foldT_len l []; simpa [setT] using this
theorem setT_snoc (l : List Tx) (x : Tx) : setT (l ++ [x]) = insT (setT l) x := by unfold setT; rw [List.foldl_append]; rfl
theorem insT_same {l : List Tx} {n : Tx} (h : RiseT l) (hm : n ∈ l) : insT l n = l := riseT_eq (insT_rise h) h fun x => by
  rw [insT_mem]; exact ⟨fun k => k.elim id fun e => e ▸ hm, .inl⟩
/-- What a sort makes of keys each of which is there once. -/
theorem sort_setT {l K : List Tx} (hn : l.Nodup) (hm : ∀ x, x ∈ l ↔ x ∈ K) : l.mergeSort (fun x y => decide (x ≤ y)) = setT K := by
  have hp := List.mergeSort_perm l fun x y => decide (x ≤ y)
  have h1 : (l.mergeSort fun x y => decide (x ≤ y)).Pairwise fun a b => decide (a ≤ b) = true := List.pairwise_mergeSort (fun a b c h k => by simp only [decide_eq_true_eq] at *; exact List.le_trans h k) (fun a b => by simp only [Bool.or_eq_true, decide_eq_true_eq]; exact List.le_total a b) l
  have h2 : (l.mergeSort fun x y => decide (x ≤ y)).Nodup := hp.nodup_iff.2 hn
  refine setT_is ?_ fun x => (hp.mem_iff).trans (hm x)
  refine List.Pairwise.imp₂ (fun {a b} h k => ?_) h1 h2
  rcases ltB_tri a b with q | q | q
  · exact q
  · exact absurd q k
  · rw [decide_eq_true_eq, le_ltB, q] at h; cases h

/-! ### Build lists -/
def neP (a b : Nd) : Bool := decide (a.1 ≠ b.1)
def onceP (l : List Nd) : Bool := chainA (fun _ => true) neP ([], []) l
def okL (l : List Nd) : Bool := checkN l && onceP l
abbrev RiseP (l : List Nd) : Prop := l.Pairwise fun a b => ltB a.1 b.1 = true
theorem okL_iff {l : List Nd} : okL l = true ↔ (∀ n ∈ l, okN n = true) ∧ RiseP l := by
  unfold okL onceP
  rw [Bool.and_eq_true, checkN_iff]
  constructor
  · rintro ⟨⟨h1, h2⟩, h3⟩
    refine ⟨h1, pair_of_next (lt := fun a b : Nd => ltB a.1 b.1) (fun a b c h k => ltB_trans a.1 b.1 c.1 h k) fun j hj => ?_⟩
    have h4 := chain_at h3 hj
    unfold chainB neP at h4
    rw [gd_at hj, Nat.add_sub_cancel, gd_at (show j < l.length by omega)] at h4
    have h5 : (l[j]'(by omega)).1 ≠ l[j + 1].1 := by simpa using h4
    have h6 := List.pairwise_iff_getElem.1 h2 j (j + 1) (by omega) hj (by omega)
    rcases ltN_le h6 with k | k
    · exact absurd k h5
    · exact ltB_iff.2 k
  · rintro ⟨h1, h2⟩
    refine ⟨⟨h1, h2.imp fun {a b} k => ltN_path (ltB_iff.1 k)⟩, chain_yes fun j hj => ?_⟩
    unfold chainB neP
    by_cases h0 : j = 0
    · simp [h0]
    · rw [decide_eq_false h0, Bool.false_or, gd_at hj, gd_at (show j - 1 < l.length by omega)]
      have := List.pairwise_iff_getElem.1 h2 (j - 1) j (by omega) hj (by omega)
      simpa using ltB_ne this
theorem okL_check {l : List Nd} (h : okL l = true) : checkN l = true := by unfold okL at h; rw [Bool.and_eq_true] at h; exact h.1
theorem okN_ver {n : Nd} (h : okN n = true) : n.2 ≠ [] := fun e => by have := (okN_parts h).2; rw [e, okV_nil] at this; cases this
/-- A path's version, empty if it is not there. -/
def pickL : List Nd → Tx → Tx
  | [], _ => []
  | n :: l, p => if n.1 = p then n.2 else pickL l p
theorem pick_none : ∀ {l : List Nd} {p : Tx}, (∀ n ∈ l, n.1 ≠ p) → pickL l p = []
  | [], _, _ => rfl
  | n :: l, p, h => by rw [pickL, if_neg (h n List.mem_cons_self)]; exact pick_none fun m hm => h m (List.mem_cons_of_mem _ hm)
theorem pick_mem : ∀ {l : List Nd} {p : Tx}, pickL l p ≠ [] → (p, pickL l p) ∈ l
  | [], _, h => absurd rfl h
  | n :: l, p, h => by
    rw [pickL] at h ⊢
    by_cases e : n.1 = p
    · rw [if_pos e]; subst e; exact List.mem_cons_self
    · rw [if_neg e] at h ⊢; exact List.mem_cons_of_mem _ (pick_mem h)
theorem pick_in : ∀ {l : List Nd} {n : Nd}, RiseP l → n ∈ l → pickL l n.1 = n.2
  | [], n, _, h => by cases h
  | m :: l, n, hr, h => by
    obtain ⟨h1, h2⟩ := List.pairwise_cons.1 hr
    rw [pickL]
    rcases List.mem_cons.1 h with rfl | h
    · rw [if_pos rfl]
    · rw [if_neg (ltB_ne (h1 n h))]; exact pick_in h2 h
theorem pick_hit {l : List Nd} {k : Nat} (hk : k < l.length) (h : ∀ j, j < k → (l.getD j ([], [])).1 ≠ (l.getD k ([], [])).1) : pickL l (l.getD k ([], [])).1 = (l.getD k ([], [])).2 := by
  induction l generalizing k with
  | nil => exact absurd hk (Nat.not_lt_zero k)
  | cons n l ih =>
    cases k with
    | zero => show pickL (n :: l) n.1 = n.2; rw [pickL, if_pos rfl]
    | succ k =>
      have h0 := h 0 (Nat.succ_pos k)
      rw [pickL, if_neg (by simpa using h0)]
      exact ih (by simpa using hk) fun j hj => by simpa using h (j + 1) (by omega)
theorem pick_some {l : List Nd} (h : ∀ n ∈ l, okN n = true) {p : Tx} : pickL l p = [] ↔ ∀ n ∈ l, n.1 ≠ p := by
  constructor
  · intro e n hn q
    induction l with
    | nil => cases hn
    | cons m l ih =>
      rw [pickL] at e
      by_cases q2 : m.1 = p
      · rw [if_pos q2] at e; exact okN_ver (h m List.mem_cons_self) e
      · rw [if_neg q2] at e
        rcases List.mem_cons.1 hn with rfl | hn
        · exact q2 q
        · exact ih (fun x hx => h x (List.mem_cons_of_mem _ hx)) e hn
  · exact pick_none
theorem pick_iff {l : List Nd} (h : okL l = true) {p v : Tx} (hv : v ≠ []) : pickL l p = v ↔ (p, v) ∈ l := by
  constructor
  · intro e; have := pick_mem (l := l) (p := p) (by rw [e]; exact hv); rwa [e] at this
  · exact fun k => pick_in (okL_iff.1 h).2 k
theorem pick_ext {a b : List Nd} (ha : okL a = true) (hb : okL b = true) (h : ∀ p, pickL a p = pickL b p) : a = b := by
  refine rises_eq (checkN_rises (okL_check ha)) (checkN_rises (okL_check hb)) fun n => ?_
  obtain ⟨p, v⟩ := n
  constructor
  · intro hn
    have hv := okN_ver ((okL_iff.1 ha).1 _ hn)
    rw [← pick_iff hb hv, ← h, pick_iff ha hv]; exact hn
  · intro hn
    have hv := okN_ver ((okL_iff.1 hb).1 _ hn)
    rw [← pick_iff ha hv, h, pick_iff hb hv]; exact hn
theorem pick_ok {l : List Nd} (h : ∀ n ∈ l, okN n = true) (p : Tx) : pickL l p = [] ∨ okV (pickL l p) = true := by
  by_cases e : pickL l p = []
  · exact .inl e
  · exact .inr (okN_parts (h _ (pick_mem e))).2
theorem pick_small {l : List Nd} {k : Nat} (h : ∀ n ∈ l, n.2.length ≤ k) (p : Tx) : (pickL l p).length ≤ k := by
  by_cases e : pickL l p = []
  · rw [e]; exact Nat.zero_le _
  · exact h _ (pick_mem e)
theorem pick_app (a b : List Nd) (p : Tx) : pickL (a ++ b) p = if (∃ n ∈ a, n.1 = p) then pickL a p else pickL b p := by
  induction a with
  | nil => simp
  | cons n a ih =>
    rw [List.cons_append, pickL, pickL, ih]
    by_cases e : n.1 = p
    · rw [if_pos e, if_pos ⟨n, List.mem_cons_self, e⟩, if_pos e]
    · rw [if_neg e, if_neg e]
      by_cases q : ∃ m ∈ a, m.1 = p
      · rw [if_pos q, if_pos]; obtain ⟨m, hm, hq⟩ := q; exact ⟨m, List.mem_cons_of_mem _ hm, hq⟩
      · rw [if_neg q, if_neg]
        rintro ⟨m, hm, hq⟩
        rcases List.mem_cons.1 hm with rfl | hm
        · exact e hq
        · exact q ⟨m, hm, hq⟩

/-! ### The list of some paths' versions -/
def ofP (K : List Tx) (f : Tx → Tx) : List Nd := (K.filter fun p => decide (f p ≠ [])).map fun p => (p, f p)
theorem ofP_mem {K : List Tx} {f : Tx → Tx} {n : Nd} : n ∈ ofP K f ↔ n.1 ∈ K ∧ n.2 = f n.1 ∧ n.2 ≠ [] := by
  unfold ofP
  rw [List.mem_map]
  constructor
  · rintro ⟨p, hp, rfl⟩
    obtain ⟨h1, h2⟩ := List.mem_filter.1 hp
    exact ⟨h1, rfl, of_decide_eq_true h2⟩
  · rintro ⟨h1, h2, h3⟩
    exact ⟨n.1, List.mem_filter.2 ⟨h1, decide_eq_true (by rw [← h2]; exact h3)⟩, by rw [← h2]⟩
theorem ofP_rise {K : List Tx} {f : Tx → Tx} (h : RiseT K) : RiseP (ofP K f) := by
  unfold ofP
  exact List.pairwise_map.2 ((h.filter _).imp fun {a b} k => k)
theorem ofP_ok {K : List Tx} {f : Tx → Tx} (h : RiseT K) (hp : ∀ p ∈ K, f p ≠ [] → pathB p = true) (hv : ∀ p ∈ K, f p = [] ∨ okV (f p) = true) : okL (ofP K f) = true := okL_iff.2 ⟨fun n hn => by
  obtain ⟨h1, h2, h3⟩ := ofP_mem.1 hn
  refine okN_of (hp _ h1 (by rw [← h2]; exact h3)) ?_
  rcases hv _ h1 with k | k
  · rw [h2] at h3; exact absurd k h3
  · rw [h2]; exact k, ofP_rise h⟩
theorem ofP_pick {K : List Tx} {f : Tx → Tx} (h : RiseT K) (h0 : ∀ p, p ∉ K → f p = []) (p : Tx) : pickL (ofP K f) p = f p := by
  by_cases e : f p = []
  · rw [e]
    refine pick_none fun n hn q => ?_
    obtain ⟨-, h2, h3⟩ := ofP_mem.1 hn
    rw [h2, q] at h3; exact h3 e
  · have hk : p ∈ K := Classical.byContradiction fun k => e (h0 p k)
    exact pick_in (n := (p, f p)) (ofP_rise h) (ofP_mem.2 ⟨hk, rfl, e⟩)
theorem ofP_len (K : List Tx) (f : Tx → Tx) : (ofP K f).length ≤ K.length := by unfold ofP; rw [List.length_map]; exact List.length_filter_le _ _
theorem ofP_succ {K : List Tx} {f : Tx → Tx} {k : Nat} (h : k < K.length) : ofP (K.take (k + 1)) f = ofP (K.take k) f ++ (if f (K.getD k []) = [] then [] else [(K.getD k [], f (K.getD k []))]) := by
  unfold ofP
  rw [List.take_succ_eq_append_getElem h, List.filter_append, List.map_append, gd_at h]
  congr 1
  by_cases e : f K[k] = [] <;> simp [e]
/-! ### What changes -/
def deltaP (K : List Tx) (f g : Tx → Tx) : List Ch := (K.filter fun p => decide (f p ≠ g p)).map fun p => (p, f p, g p)
theorem deltaP_len (K : List Tx) (f g : Tx → Tx) : (deltaP K f g).length ≤ K.length := by unfold deltaP; rw [List.length_map]; exact List.length_filter_le _ _
theorem deltaP_succ {K : List Tx} {f g : Tx → Tx} {k : Nat} (h : k < K.length) : deltaP (K.take (k + 1)) f g = deltaP (K.take k) f g ++ (if f (K.getD k []) = g (K.getD k []) then [] else [(K.getD k [], f (K.getD k []), g (K.getD k []))]) := by
  unfold deltaP
  rw [List.take_succ_eq_append_getElem h, List.filter_append, List.map_append, gd_at h]
  congr 1
  by_cases e : f K[k] = g K[k] <;> simp [e]
def pathsL (a b : List Nd) : List Tx := setT (a.map (·.1) ++ b.map (·.1))
def deltaL (a b : List Nd) : List Ch := deltaP (pathsL a b) (pickL a) (pickL b)
def deltaE (a b : List Nd) : List Ch × Int := if (okL a && okL b) = true then (deltaL a b, 0) else ([], 1)
theorem deltaE_yes {a b : List Nd} (h : okL a = true) (k : okL b = true) : deltaE a b = (deltaL a b, 0) := by unfold deltaE; rw [h, k]; rfl
theorem deltaE_no {a b : List Nd} (h : (okL a && okL b) = false) : deltaE a b = ([], 1) := by unfold deltaE; rw [h]; rfl
theorem pathsL_len (a b : List Nd) : (pathsL a b).length ≤ a.length + b.length := by
  have := setT_len (a.map (·.1) ++ b.map (·.1)); unfold pathsL; rw [List.length_append, List.length_map, List.length_map] at this; exact this
theorem deltaL_len (a b : List Nd) : (deltaL a b).length ≤ a.length + b.length := Nat.le_trans (deltaP_len _ _ _) (pathsL_len a b)

/-! ### Changes that may be -/
def okTx (v : Tx) : Bool := decide (v = []) || okV v
theorem okTx_iff {v : Tx} : okTx v = true ↔ v = [] ∨ okV v = true := by unfold okTx; rw [Bool.or_eq_true, decide_eq_true_iff]
def okCh (x : Ch) : Bool := pathB x.1 && (okTx x.2.1 && okTx x.2.2 && decide (x.2.1 ≠ x.2.2))
def ltC (a b : Ch) : Bool := ltB a.1 b.1
def okCs (c : List Ch) : Bool := chainA okCh ltC zC c
theorem okCs_iff {c : List Ch} : okCs c = true ↔ (∀ x ∈ c, okCh x = true) ∧ c.Pairwise fun a b => ltC a b = true := chain_iff fun _ _ _ h k => ltB_trans _ _ _ h k
theorem okCh_iff {x : Ch} : okCh x = true ↔ pathB x.1 = true ∧ (x.2.1 = [] ∨ okV x.2.1 = true) ∧ (x.2.2 = [] ∨ okV x.2.2 = true) ∧ x.2.1 ≠ x.2.2 := by
  unfold okCh; rw [Bool.and_eq_true, Bool.and_eq_true, Bool.and_eq_true, okTx_iff, okTx_iff, decide_eq_true_iff, and_assoc]

/-! ### A list that changes -/
def setF (f : Tx → Tx) (x : Ch) : Tx → Tx := fun p => if p = x.1 then x.2.2 else f p
def updF (f : Tx → Tx) (c : List Ch) : Tx → Tx := c.foldl setF f
theorem updF_snoc (f : Tx → Tx) (c : List Ch) (x : Ch) : updF f (c ++ [x]) = setF (updF f c) x := by unfold updF; rw [List.foldl_append]; rfl
theorem updF_none : ∀ {c : List Ch} {f : Tx → Tx} {p : Tx}, (∀ x ∈ c, x.1 ≠ p) → updF f c p = f p
  | [], _, _, _ => rfl
  | x :: c, f, p, h => by
    show updF (setF f x) c p = f p
    rw [updF_none fun y hy => h y (List.mem_cons_of_mem _ hy)]
    unfold setF; rw [if_neg fun e => h x List.mem_cons_self e.symm]
theorem updF_ok {c : List Ch} (hc : ∀ x ∈ c, okCh x = true) : ∀ {f : Tx → Tx}, (∀ p, f p = [] ∨ okV (f p) = true) → ∀ p, updF f c p = [] ∨ okV (updF f c p) = true := by
  induction c with
  | nil => intro f hf; exact hf
  | cons x c ih =>
    intro f hf
    refine ih (fun y hy => hc y (List.mem_cons_of_mem _ hy)) (f := setF f x) fun p => ?_
    unfold setF
    by_cases e : p = x.1
    · rw [if_pos e]; exact (okCh_iff.1 (hc x List.mem_cons_self)).2.2.1
    · rw [if_neg e]; exact hf p
def fitsL (l : List Nd) (c : List Ch) : Bool := c.all fun x => decide (pickL l x.1 = x.2.1)
theorem fitsL_iff {l : List Nd} {c : List Ch} : fitsL l c = true ↔ ∀ x ∈ c, pickL l x.1 = x.2.1 := by
  unfold fitsL; rw [List.all_eq_true]; simp only [decide_eq_true_eq]
theorem fitsL_no {l : List Nd} {c : List Ch} {k : Nat} (hk : k < c.length) (h : pickL l (c.getD k zC).1 ≠ (c.getD k zC).2.1) : fitsL l c = false := by
  cases e : fitsL l c with
  | false => rfl
  | true => exact absurd (fitsL_iff.1 e _ (gd_in hk)) h
def pathsC (l : List Nd) (c : List Ch) : List Tx := setT (l.map (·.1) ++ c.map (·.1))
theorem pathsC_mem {l : List Nd} {c : List Ch} {p : Tx} : p ∈ pathsC l c ↔ (∃ n ∈ l, n.1 = p) ∨ ∃ x ∈ c, x.1 = p := by
  unfold pathsC; rw [setT_mem, List.mem_append, List.mem_map, List.mem_map]
def applyL (l : List Nd) (c : List Ch) : List Nd := ofP (pathsC l c) (updF (pickL l) c)
def applyE (l : List Nd) (c : List Ch) : List Nd × Int := if (okL l && okCs c) = true then (if fitsL l c = true then (applyL l c, 0) else ([], 2)) else ([], 1)
theorem applyE_no {l : List Nd} {c : List Ch} (h : (okL l && okCs c) = false) : applyE l c = ([], 1) := by unfold applyE; rw [h]; rfl
theorem applyE_off {l : List Nd} {c : List Ch} (h : okL l = true) (k : okCs c = true) (q : fitsL l c = false) : applyE l c = ([], 2) := by unfold applyE; rw [h, k, q]; rfl
theorem applyE_yes {l : List Nd} {c : List Ch} (h : okL l = true) (k : okCs c = true) (q : fitsL l c = true) : applyE l c = (applyL l c, 0) := by unfold applyE; rw [h, k, q]; rfl
theorem updF_off {l : List Nd} {c : List Ch} {p : Tx} (h : p ∉ pathsC l c) : updF (pickL l) c p = [] := by
  rw [pathsC_mem, not_or] at h
  rw [updF_none fun x hx e => h.2 ⟨x, hx, e⟩]
  exact pick_none fun n hn e => h.1 ⟨n, hn, e⟩
theorem apply_pick (l : List Nd) (c : List Ch) (p : Tx) : pickL (applyL l c) p = updF (pickL l) c p := ofP_pick (setT_rise _) (fun _ h => updF_off h) p
theorem apply_ok {l : List Nd} {c : List Ch} (h : okL l = true) (k : okCs c = true) : okL (applyL l c) = true := by
  have h1 := (okL_iff.1 h).1
  have k1 := (okCs_iff.1 k).1
  refine ofP_ok (setT_rise _) (fun p hp _ => ?_) fun p _ => updF_ok k1 (pick_ok h1) p
  rcases pathsC_mem.1 hp with ⟨n, hn, rfl⟩ | ⟨x, hx, rfl⟩
  · exact (okN_parts (h1 n hn)).1
  · exact (okCh_iff.1 (k1 x hx)).1
theorem apply_len (l : List Nd) (c : List Ch) : (applyL l c).length ≤ l.length + c.length := by
  have := setT_len (l.map (·.1) ++ c.map (·.1)); rw [List.length_append, List.length_map, List.length_map] at this; exact Nat.le_trans (ofP_len _ _) this
/-- .. one by one, as the document has it. -/
def stepL (l : List Nd) (x : Ch) : List Nd :=
  let o := if x.2.1 = [] then l else minusN l [(x.1, x.2.1)]
  if x.2.2 = [] then o else withN o (x.1, x.2.2)
theorem step_is {l : List Nd} {x : Ch} (h : okL l = true) (hx : okCh x = true) (hp : pickL l x.1 = x.2.1) : okL (stepL l x) = true ∧ ∀ p, pickL (stepL l x) p = setF (pickL l) x p := by
  obtain ⟨x0, x1, x2⟩ := x
  obtain ⟨c1, c2, c3, c4⟩ := okCh_iff.1 hx
  simp only at c1 c2 c3 c4 hp
  obtain ⟨h1, h2⟩ := okL_iff.1 h
  -- without the old one
  obtain ⟨o, ho⟩ : ∃ o, (if x1 = [] then l else minusN l [(x0, x1)]) = o := ⟨_, rfl⟩
  have hom : ∀ n, n ∈ o ↔ n ∈ l ∧ n.1 ≠ x0 := fun n => by
    rw [← ho]
    by_cases e : x1 = []
    · rw [if_pos e]
      rw [e] at hp
      have := (pick_some h1).1 hp
      exact ⟨fun k => ⟨k, this n k⟩, fun k => k.1⟩
    · rw [if_neg e, minusN_mem, List.mem_singleton]
      have hin : (x0, x1) ∈ l := (pick_iff h e).1 hp
      constructor
      · rintro ⟨k1, k2⟩
        refine ⟨k1, fun q => k2 ?_⟩
        have h3 := pick_in h2 k1
        rw [q, hp] at h3
        exact Prod.ext q h3.symm
      · rintro ⟨k1, k2⟩
        exact ⟨k1, fun q => k2 (by rw [q])⟩
  have hos : RiseP o := by
    rw [← ho]
    by_cases e : x1 = []
    · rw [if_pos e]; exact h2
    · rw [if_neg e]; exact h2.filter _
  have hoo : ∀ n ∈ o, okN n = true := fun n hn => h1 n ((hom n).1 hn).1
  have hol : okL o = true := okL_iff.2 ⟨hoo, hos⟩
  have hop : ∀ p, pickL o p = if p = x0 then [] else pickL l p := fun p => by
    by_cases e : p = x0
    · rw [if_pos e]; exact pick_none fun n hn q => ((hom n).1 hn).2 (q.trans e)
    · rw [if_neg e]
      by_cases q : pickL l p = []
      · rw [q]; exact pick_none fun n hn k => (pick_some h1).1 q n ((hom n).1 hn).1 k
      · exact (pick_iff hol q).2 ((hom _).2 ⟨pick_mem q, e⟩)
  have hst : stepL l (x0, x1, x2) = if x2 = [] then o else withN o (x0, x2) := by unfold stepL; rw [← ho]
  rw [hst]
  by_cases e : x2 = []
  · rw [if_pos e]
    refine ⟨hol, fun p => ?_⟩
    rw [hop]; unfold setF; simp only
    by_cases q : p = x0
    · rw [if_pos q, if_pos q, e]
    · rw [if_neg q, if_neg q]
  · rw [if_neg e]
    have hn : okN (x0, x2) = true := okN_of c1 (c3.resolve_left e)
    have hwm := withN_mem hoo hn
    have hwr : RiseP (withN o (x0, x2)) := by
      have hr := withN_rises (n := (x0, x2)) (checkN_rises (okL_check hol))
      refine hr.imp_of_mem fun {a b} ha hb k => ?_
      rcases ltN_le k with q | q
      · rcases (hwm a).1 ha with ka | ka
        · rcases (hwm b).1 hb with kb | kb
          · have e1 := pick_in hos ka
            have e2 := pick_in hos kb
            rw [q, e2] at e1
            have : a = b := Prod.ext q e1.symm
            subst this; rw [ltN_irrefl] at k; cases k
          · exact absurd (q.trans (by rw [kb])) ((hom a).1 ka).2
        · rcases (hwm b).1 hb with kb | kb
          · exact absurd (q.symm.trans (by rw [ka])) ((hom b).1 kb).2
          · rw [ka, kb, ltN_irrefl] at k; cases k
      · exact ltB_iff.2 q
    have hwo : okL (withN o (x0, x2)) = true := okL_iff.2 ⟨withN_ok hoo hn, hwr⟩
    refine ⟨hwo, fun p => ?_⟩
    unfold setF; simp only
    by_cases q : p = x0
    · rw [if_pos q, q]; exact pick_in (n := (x0, x2)) hwr ((hwm _).2 (.inr rfl))
    · rw [if_neg q]
      by_cases k : pickL l p = []
      · rw [k]
        refine pick_none fun n hn q2 => ?_
        rcases (hwm n).1 hn with k2 | k2
        · exact (pick_some h1).1 k n ((hom n).1 k2).1 q2
        · exact q (by rw [← q2, k2])
      · exact (pick_iff hwo k).2 ((hwm _).2 (.inl ((hom _).2 ⟨pick_mem k, q⟩)))
theorem steps_is {l : List Nd} (h : okL l = true) : ∀ (c : List Ch), (∀ x ∈ c, okCh x = true) → (c.Pairwise fun a b => ltC a b = true) → (∀ x ∈ c, pickL l x.1 = x.2.1) → okL (c.foldl stepL l) = true ∧ ∀ p, pickL (c.foldl stepL l) p = updF (pickL l) c p
  | [], _, _, _ => ⟨h, fun _ => rfl⟩
  | x :: c, hc, hr, hf => by
    obtain ⟨r1, r2⟩ := List.pairwise_cons.1 hr
    obtain ⟨s1, s2⟩ := step_is h (hc x List.mem_cons_self) (hf x List.mem_cons_self)
    obtain ⟨i1, i2⟩ := steps_is s1 c (fun y hy => hc y (List.mem_cons_of_mem _ hy)) r2 fun y hy => by
      rw [s2]; unfold setF; rw [if_neg fun e => ltB_ne (r1 y hy) e.symm]; exact hf y (List.mem_cons_of_mem _ hy)
    refine ⟨i1, fun p => (i2 p).trans ?_⟩
    show updF _ c p = updF (setF (pickL l) x) c p
    rw [show pickL (stepL l x) = setF (pickL l) x from funext s2]
theorem steps_apply {l : List Nd} {c : List Ch} (h : okL l = true) (k : okCs c = true) (f : fitsL l c = true) : c.foldl stepL l = applyL l c := by
  obtain ⟨i1, i2⟩ := steps_is h c (okCs_iff.1 k).1 (okCs_iff.1 k).2 (fitsL_iff.1 f)
  exact pick_ext i1 (apply_ok h k) fun p => (i2 p).trans (apply_pick l c p).symm

/-! ### Above -/
/-! ### Picking, building -/
def pickE (l : List Nd) (p : Tx) : Tx × Int := if (okL l && pathB p) = true then (if pickL l p = [] then ([], 2) else (pickL l p, 0)) else ([], 1)
theorem pickE_no {l : List Nd} {p : Tx} (h : (okL l && pathB p) = false) : pickE l p = ([], 1) := by unfold pickE; rw [h]; rfl
theorem pickE_none {l : List Nd} {p : Tx} (h : okL l = true) (k : pathB p = true) (e : pickL l p = []) : pickE l p = ([], 2) := by unfold pickE; rw [h, k]; simp [e]
theorem pickE_yes {l : List Nd} {p : Tx} (h : okL l = true) (k : pathB p = true) (e : pickL l p ≠ []) : pickE l p = (pickL l p, 0) := by unfold pickE; rw [h, k]; simp [e]
def buildL (l : List Rw) : List Nd := l.map fun r => (r.1, lastV r.2)
def buildE (l : List Rw) : List Nd × Int := if okR l = true then (buildL l, 0) else ([], 1)
theorem buildE_no {l : List Rw} (h : okR l = false) : buildE l = ([], 1) := by unfold buildE; rw [if_neg (by rw [h]; decide)]
theorem buildE_yes {l : List Rw} (h : okR l = true) : buildE l = (buildL l, 0) := by unfold buildE; rw [if_pos h]
def lchkE (l : List Nd) : Int := if okL l = true then 0 else 1
theorem lchkE_yes {l : List Nd} (h : okL l = true) : lchkE l = 0 := by unfold lchkE; rw [if_pos h]
theorem lchkE_no {l : List Nd} (h : okL l = false) : lchkE l = 1 := by unfold lchkE; rw [if_neg (by rw [h]; decide)]
end Go.Proofs.YtlbibgofhhdgoaaGreat

namespace Go.Proofs.YtlbibgofhhdgoaaGreat
open Go.RowKit Go.ChangeShapes Go.WideShapes
set_option linter.unusedVariables false
set_option maxRecDepth 100000

/-- A slice of changes, in memory: nil, empty, or cells that hold them, three each. -/
structure Chs (w : World) (v : Value) (es : List Ch) : Prop where
  ex : ∃ a c, v = .slice a es.length c ∧ es.length ≤ c ∧ c ≤ maxLen ∧ (a = none → c = 0) ∧ (0 < es.length → ∃ b off, a = some ⟨b, off, none⟩ ∧ b < w.heap.size ∧ ∀ j, j < es.length →
    w.cell? ⟨b, off + j * 3, none⟩ = some (.string (mkB (es.getD j zC).1)) ∧ w.cell? ⟨b, off + j * 3 + 1, none⟩ = some (.string (mkB (es.getD j zC).2.1)) ∧ w.cell? ⟨b, off + j * 3 + 2, none⟩ = some (.string (mkB (es.getD j zC).2.2)))
theorem Chs.below {w w' : World} {v : Value} {zs : List Ch} (h : Chs w v zs) (hb : Below w.heap.size w w') : Chs w' v zs := by
  obtain ⟨a, c, hv, h1, h2, hn, h3⟩ := h.ex
  refine ⟨a, c, hv, h1, h2, hn, fun hp => ?_⟩
  obtain ⟨b, off, ha, hlt, hc⟩ := h3 hp
  exact ⟨b, off, ha, Nat.lt_of_lt_of_le hlt hb.size, fun j hj => by rw [hb.cell (by exact hlt), hb.cell (by exact hlt), hb.cell (by exact hlt)]; exact hc j hj⟩
theorem Chs.at {w : World} {a : Option Addr} {n c : Nat} {es : List Ch} (h : Chs w (.slice a n c) es) (k : Nat) (hk : k < es.length) :
    ∃ b off, a = some ⟨b, off, none⟩ ∧ b < w.heap.size ∧ w.cell? ⟨b, off + k * 3, none⟩ = some (.string (mkB (es.getD k zC).1)) ∧ w.cell? ⟨b, off + k * 3 + 1, none⟩ = some (.string (mkB (es.getD k zC).2.1)) ∧ w.cell? ⟨b, off + k * 3 + 2, none⟩ = some (.string (mkB (es.getD k zC).2.2)) := by
  obtain ⟨a', c', hv, _, _, _, h3⟩ := h.ex
  injection hv with e1 e2 e3
  subst e1
  obtain ⟨b, off, ha, hlt, hc⟩ := h3 (by omega)
  exact ⟨b, off, ha, hlt, hc k hk⟩
theorem chs_none (w : World) : Chs w (.slice none 0 0) [] := ⟨none, 0, rfl, Nat.le_refl _, by unfold maxLen; omega, fun _ => rfl, fun h => absurd h (by simp)⟩
theorem Chs.nil {w : World} {n c : Nat} {l : List Ch} {a : Option Addr} (h : Chs w (.slice a n c) l) (ha : a = none) : n = 0 ∧ c = 0 := by
  obtain ⟨a', c', hv, h1, h2, h3, -⟩ := h.ex
  injection hv with e1 e2 e3
  subst e1 e2 e3
  have := h3 ha
  omega
theorem Chs.lenE {w : World} {A : Option Addr} {n c : Nat} {l : List Ch} (h : Chs w (.slice A n c) l) : l.length = n ∧ n ≤ c ∧ c ≤ maxLen := by
  obtain ⟨_, _, hv, h1, h2, _⟩ := h.ex
  injection hv with e1 e2 e3
  subst e2 e3; exact ⟨rfl, h1, h2⟩
/-- The ones from the i-th on. -/
theorem Chs.cut {w : World} {a : Option Addr} {n c : Nat} {l : List Ch} (h : Chs w (.slice a n c) l) {i : Nat} (hi : i ≤ l.length) : Chs w (sliced a i n c 3) (l.drop i) := by
  obtain ⟨a', c', hv, h1, h2, h3, h4⟩ := h.ex
  injection hv with e1 e2 e3
  subst e1 e2 e3
  unfold sliced
  refine ⟨_, _, by rw [List.length_drop], by rw [List.length_drop]; omega, by omega, fun hn => ?_, fun hp => ?_⟩
  · by_cases hc : c = i
    · omega
    · rw [if_neg hc] at hn
      have : a = none := by cases a <;> simp_all
      have := h3 this; omega
  · rw [List.length_drop] at hp
    obtain ⟨b, off, rfl, hb, hc⟩ := h4 (by omega)
    refine ⟨b, off + i * 3, ?_, hb, fun j hj => ?_⟩
    · rw [if_neg (by omega)]; simp [addr_add]
    · rw [List.length_drop] at hj
      have := hc (i + j) (by omega)
      have hg : (l.drop i).getD j zC = l.getD (i + j) zC := by simp [List.getD_eq_getElem?_getD, List.getElem?_drop]
      rw [hg, show off + i * 3 + j * 3 = off + (i + j) * 3 by omega]
      exact this
/-! ### Changes as cells -/
abbrev chV (e : Ch) : Value := .agg #[.string (mkB e.1), .string (mkB e.2.1), .string (mkB e.2.2)]
abbrev chC1 (e : Ch) : List Value := [.string (mkB e.1), .string (mkB e.2.1), .string (mkB e.2.2)]
def chC (es : List Ch) : List Value := es.flatMap chC1
theorem chC_len (es : List Ch) : (chC es).length = es.length * 3 := by
  induction es with
  | nil => rfl
  | cons x l ih => simp only [chC, List.flatMap_cons, List.length_append, List.length_cons, List.length_nil] at ih ⊢; omega
theorem chC_app (l m : List Ch) : chC (l ++ m) = chC l ++ chC m := by simp [chC]
theorem chC_one (l : List Ch) : ((chC l).all fun u => u.oneCell') = true := by
  induction l with
  | nil => rfl
  | cons x l ih =>
    have e : chC (x :: l) = .string (mkB x.1) :: .string (mkB x.2.1) :: .string (mkB x.2.2) :: chC l := rfl
    rw [e, List.all_cons, List.all_cons, List.all_cons, ih]; rfl
theorem chC_at (es : List Ch) : ∀ j, j < es.length → (chC es)[j * 3]? = some (.string (mkB (es.getD j zC).1)) ∧ (chC es)[j * 3 + 1]? = some (.string (mkB (es.getD j zC).2.1)) ∧ (chC es)[j * 3 + 2]? = some (.string (mkB (es.getD j zC).2.2)) := by
  induction es with
  | nil => intro j hj; exact absurd hj (Nat.not_lt_zero j)
  | cons x l ih =>
    intro j hj
    have e : chC (x :: l) = .string (mkB x.1) :: .string (mkB x.2.1) :: .string (mkB x.2.2) :: chC l := rfl
    rw [e]
    cases j with
    | zero => exact ⟨rfl, rfl, rfl⟩
    | succ j =>
      have := ih j (by simpa using hj)
      rw [show (j + 1) * 3 = j * 3 + 1 + 1 + 1 by omega, show j * 3 + 1 + 1 + 1 + 1 = (j * 3 + 1) + 1 + 1 + 1 by omega, show j * 3 + 1 + 1 + 1 + 2 = (j * 3 + 2) + 1 + 1 + 1 by omega]
      simpa using this
abbrev zCV : Value := .agg #[.string ByteArray.empty, .string ByteArray.empty, .string ByteArray.empty]
theorem Tryz.info_ch : (Tryz.prog.info? 69).map (fun i => (i.zero, i.size, i.bytes)) = some (some zCV, 3, 48) := by kernel_rfl
theorem Chs.owned {w : World} {base : Nat} {e : TypeId} {v : Value} {es : List Ch} (h : w.ownsRow base e 3 v es.length (chC es)) : Chs w v es := by
  rcases Joins.ownsRow_forms h with ⟨rfl, h0⟩ | ⟨g, cap, rfl⟩
  · have : es = [] := List.eq_nil_of_length_eq_zero h0
    subst this
    exact chs_none w
  · have hlt := h.lt g rfl
    have hcap : es.length ≤ cap ∧ cap ≤ maxLen := by
      obtain ⟨_, h | ⟨g', cap', cur, hv, _, _, h1, h2, _⟩⟩ := h
      · cases h.1
      · injection hv with _ _ hc; subst hc; exact ⟨h1, h2⟩
    refine ⟨some ⟨g, 0, none⟩, cap, rfl, hcap.1, hcap.2, (fun h => by cases h), fun _ => ⟨g, 0, rfl, hlt.2, fun j hj => ?_⟩⟩
    have := chC_at es j hj
    rw [Nat.zero_add, h.cellAt (j * 3) (by omega), h.cellAt (j * 3 + 1) (by omega), h.cellAt (j * 3 + 2) (by omega)]
    exact this
theorem chsO {w : World} {base : Nat} {e : TypeId} {v : Value} {es : List Ch} (h : w.ownsRow base e 3 v es.length (chC es)) : ∃ a c, v = .slice a es.length c ∧ Chs w (.slice a es.length c) es := by
  have hst := Chs.owned h
  obtain ⟨a, c, rfl, _⟩ := hst.ex
  exact ⟨a, c, rfl, hst⟩
theorem Chs.cells {w : World} {ad : Addr} {n c : Nat} {l : List Ch} (h : Chs w (.slice (some ad) n c) l) : ∀ j u, (chC l)[j]? = some u → w.cell? (ad.add j) = some u := by
  intro j u hj
  have hlt : j < (chC l).length := (List.getElem?_eq_some_iff.1 hj).1
  rw [chC_len] at hlt
  obtain ⟨k, hk⟩ : ∃ k, j = k * 3 ∨ j = k * 3 + 1 ∨ j = k * 3 + 2 := ⟨j / 3, by omega⟩
  have hkl : k < l.length := by omega
  obtain ⟨b, off, ha, -, c0, c1, c2⟩ := h.at k hkl
  obtain ⟨d0, d1, d2⟩ := chC_at l k hkl
  cases ha
  rw [addr_add]
  rcases hk with rfl | rfl | rfl
  · rw [d0] at hj; cases hj; exact c0
  · rw [d1] at hj; cases hj; exact c1
  · rw [d2] at hj; cases hj; exact c2
theorem Chs.src {w : World} {A : Option Addr} {n c : Nat} {l : List Ch} (h : Chs w (.slice A n c) l) : ∀ ad, A = some ad → ∀ j u, (chC l)[j]? = some u → w.cell? (ad.add j) = some u := fun _ e => by subst e; exact h.cells
theorem row3c {w : World} {g : Nat} {x0 x1 x2 : Value} {t : TypeId} (h : w.heap[g]? = some (.cells #[x0, x1, x2] t (0, 0))) :
    w.cell? ⟨g, 0, none⟩ = some x0 ∧ w.cell? ⟨g, 1, none⟩ = some x1 ∧ w.cell? ⟨g, 2, none⟩ = some x2 ∧ w.frozen? ⟨g, 0, none⟩ = false ∧ w.frozen? ⟨g, 1, none⟩ = false ∧ w.frozen? ⟨g, 2, none⟩ = false := by
  simp [World.cell?, World.frozen?, h]
/-- A parameter's own cells, just laid; the world named. -/
theorem boxC1 (w : World) (x y z : Value) (t : TypeId) : ∃ W p, w.alloc (.cells #[x, y, z] t) = W ∧ w.heap.size = p ∧ W.cell? ⟨p, 0, none⟩ = some x ∧ W.cell? ⟨p, 1, none⟩ = some y ∧ W.cell? ⟨p, 2, none⟩ = some z ∧ Below w.heap.size w W :=
  ⟨_, _, rfl, rfl, cell_new rfl rfl, cell_new rfl rfl, cell_new rfl rfl, (Below.refl _ _).alloc (Nat.le_refl _) _⟩

/-! ### Two changes' sameness -/
theorem ch_fields : Tryz.prog.underlying 69 = some (.struct (Tryz.prog.fieldsOf 69)) := by kernel_rfl
theorem ch_held : Tryz.prog.stoodInHeld 69 = false := by kernel_rfl
theorem eqin_ch (p v u p' v' u' : List UInt8) (w : World) : Sem.run Tryz.prog (Op.equalIn 10000 69 (chV (p, v, u)) (chV (p', v', u'))) w = .ok (decide ((p, v, u) = (p', v', u'))) w := by
  have hs := fun a b w => str_eq 9998 a b w
  have ha : ∀ w, Sem.run Tryz.prog (isAgg 9) w = .ok false w := by intro w; kernel_rfl
  have hz : ∀ w, Sem.run Tryz.prog (sizeOf 9) w = .ok 1 w := by intro w; kernel_rfl
  rw [show (10000 : Nat) = 9999 + 1 from rfl, run_equalIn_agg w 9999 69 _ _ ch_fields ch_held]
  simp only [Program.fieldsOf, Tryz.underlying69]
  go_simp
  simp only [mkB_beq]
  by_cases h1 : p = p' <;> by_cases h2 : v = v' <;> by_cases h3 : u = u' <;> simp [h1, h2, h3]
theorem neq_ch (p v u p' v' u' : List UInt8) (w : World) : Sem.run Tryz.prog (binOp .neq 69 (chV (p, v, u)) (chV (p', v', u'))) w = .ok (.bool (!decide ((p, v, u) = (p', v', u')))) w := by
  rw [run_neq_struct, eqin_ch]; rfl
theorem guard_ch (op : BinOp) (a b : Operand) (xs ys : Array Value) (w : World) : Sem.run Tryz.prog (eqGuard op 69 a b (.agg xs) (.agg ys)) w = .ok () w := run_eqGuard_agg w op _ a b xs ys (by kernel_rfl)

/-! ### What comes in -/
def fitC (e : Ch) : Prop := e.1.length ≤ maxLen ∧ e.2.1.length ≤ maxLen ∧ e.2.2.length ≤ maxLen
section
variable {H : Type} {enc : TypeId × Value → H} {w : World} {base : Nat} {spare : Nat → Bool} {held : Bool}
theorem chs_of {a : Addr} {len cap m : Nat} {E : Nat → Ch} (hl : len ≤ cap) (hm : cap ≤ maxLen) (hlm : len ≤ m) (hx : ∀ i, i < m → w.cell? (a.add (i * 3)) = some (.string (mkB (E i).1)) ∧ w.cell? (a.add (i * 3 + 1)) = some (.string (mkB (E i).2.1)) ∧ w.cell? (a.add (i * 3 + 2)) = some (.string (mkB (E i).2.2)) ∧ fitC (E i)) :
    ∃ l, Chs w (.slice (some a) len cap) l ∧ ∀ e ∈ l, fitC e := by
  refine ⟨(List.range len).map E, ?_, fun e he => ?_⟩
  · have e : ((List.range len).map E).length = len := by simp
    refine ⟨some a, cap, by rw [e], by rw [e]; exact hl, hm, (fun h => by cases h), fun hp => ?_⟩
    rw [e] at hp ⊢
    obtain ⟨b, off, spot⟩ := a
    have h0 := (hx 0 (by omega)).1
    have hspot : spot = none := by simpa [Addr.add] using World.cell?_spot h0
    subst hspot
    refine ⟨b, off, rfl, ?_, fun j hj => ?_⟩
    · have := World.block_lt_of_cell? w _ h0
      simpa [Addr.add] using this
    · obtain ⟨h1, h2, h3, _⟩ := hx j (by omega)
      have hd : ((List.range len).map E).getD j zC = E j := by simp [List.getD_eq_getElem?_getD, hj]
      rw [addr_add] at h1 h2 h3
      rw [← Nat.add_assoc] at h2 h3
      rw [hd, h1, h2, h3]
      exact ⟨rfl, rfl, rfl⟩
  · obtain ⟨i, hi, rfl⟩ := List.mem_map.1 he
    exact (hx i (by have := List.mem_range.1 hi; omega)).2.2.2
theorem chs_open {fuel : Nat} {a : Option Addr} {len cap : Nat} {x : DataW H × List MemPlace} (h : DataW.trod enc Tryz.prog w base spare held fuel 41 [.slice a len cap] = some x) :
    ∃ l, Chs w (.slice a len cap) l ∧ ∀ e ∈ l, fitC e := by
  rcases Go.Deep.open_slice Tryz.underlying41 h with ⟨hcs, _⟩ | ⟨ad, l, c, m, n, D, Pl, hcs, hb, hl, hm, hmm, -, hx⟩
  · simp only [List.cons.injEq, Value.slice.injEq, and_true] at hcs
    obtain ⟨rfl, rfl, rfl⟩ := hcs
    exact ⟨[], chs_none w, fun l hl => by cases hl⟩
  · simp only [List.cons.injEq, Value.slice.injEq, and_true] at hcs
    obtain ⟨rfl, rfl, rfl⟩ := hcs
    have ce : Tryz.prog.cellsOf 69 = 3 := by kernel_rfl
    have cs : Tryz.prog.cellsOf 9 = 1 := by kernel_rfl
    have each : ∀ i, i < m → ∃ e : Ch, w.cell? (ad.add (i * 3)) = some (.string (mkB e.1)) ∧ w.cell? (ad.add (i * 3 + 1)) = some (.string (mkB e.2.1)) ∧ w.cell? (ad.add (i * 3 + 2)) = some (.string (mkB e.2.2)) ∧ fitC e := by
      intro i hi
      obtain ⟨cs', h1, h2⟩ := hx i hi
      rw [ce] at h1
      obtain ⟨_, hlen, hcell⟩ := World.cells?_some h1
      obtain ⟨xs, k, hk, hxy, _, hxl, hf⟩ := DataW.trod_struct Tryz.underlying69 h2
      match xs, hxl, cs', hlen with
      | [y0, y1, y2], _, [v0, v1, v2], _ =>
        have g0 := hf 0 _ rfl
        have g1 := hf 1 _ rfl
        have g2 := hf 2 _ rfl
        simp [cs] at g0 g1 g2
        obtain ⟨s0, q0, _, e0⟩ := DataW.trod_string Tryz.underlying9 g0
        obtain ⟨s1, q1, _, e1⟩ := DataW.trod_string Tryz.underlying9 g1
        obtain ⟨s2, q2, _, e2⟩ := DataW.trod_string Tryz.underlying9 g2
        simp only [List.cons.injEq, and_true] at q0 q1 q2
        subst q0 q1 q2
        rw [Lib.size_eq] at e0 e1 e2
        have c0 := hcell 0 (by omega)
        have c1 := hcell 1 (by omega)
        have c2 := hcell 2 (by omega)
        rw [Go.Deep.add_add] at c0 c1 c2
        exact ⟨(s0.data.toList, s1.data.toList, s2.data.toList), by simpa [mkB, Lib.mk_data] using c0, by simpa [mkB, Lib.mk_data] using c1, by simpa [mkB, Lib.mk_data] using c2, e0, e1, e2⟩
    obtain ⟨E, hE⟩ := Go.Deep.choose_lt each
    exact chs_of (m := m) (E := E) hl hm (by rw [hmm]; split <;> omega) hE
end
/-! ### Operations -/
theorem idx_ch {w : World} {b off n c k : Nat} (h : k < n) : (Instr.indexAt 41 (.slice (some ⟨b, off, none⟩) n c) (.int .i64 (k : Int))).run Tryz.prog w = .ok (.pointer (some ⟨b, off + k * 3, none⟩)) w := by
  have h1 : (0 : Int) ≤ (k : Int) := by omega
  have h3 : (k : Int) < (n : Int) := by omega
  go_simp
theorem build_ch {w : World} {p v u : List UInt8} : Sem.run Tryz.prog (Instr.build 69 #[(0, .string (mkB p)), (1, .string (mkB v)), (2, .string (mkB u))]) w = .ok (.agg #[.string (mkB p), .string (mkB v), .string (mkB u)]) w := by go_simp
theorem blkG.chs {w : World} {b : Nat} {p v u : List UInt8} (h : w.heap[b]? = some (.cells #[.string (mkB p), .string (mkB v), .string (mkB u)] 69 (0, 0))) : Chs w (.slice (some ⟨b, 0, none⟩) 1 1) [(p, v, u)] := by
  obtain ⟨d0, d1, d2, -⟩ := row3c h
  refine ⟨some ⟨b, 0, none⟩, 1, rfl, Nat.le_refl _, by unfold maxLen; omega, (fun h => by cases h), fun _ => ⟨b, 0, rfl, (Array.getElem?_eq_some_iff.1 h).1, fun j hj => ?_⟩⟩
  have hj2 : j = 0 := by simp at hj; omega
  subst hj2
  exact ⟨d0, d1, d2⟩
theorem run_app_ch {w : World} {base n : Nat} {v : Value} {K : List Ch} (hown : w.ownsRow base 69 3 v n (chC K)) {a0 : Option Addr} {m c : Nat} {L : List Ch} (hN : Chs w (.slice a0 m c) L) (hlen : n + m ≤ 2000000) (hbase : base ≤ w.heap.size) (t : TypeId) :
    ∃ v' w', (Builtin.append_ #[41, 41] t #[v, .slice a0 m c]).run Tryz.prog w = .ok v' w' ∧ w'.ownsRow base 69 3 v' (n + m) (chC (K ++ L)) ∧ w.grownBy w' v.ownBlock ∧ (v'.ownBlock = v.ownBlock ∨ v'.ownBlock = some w.heap.size ∧ w.heap.size < w'.heap.size) := by
  obtain ⟨i, hi, hz, hsize, hby⟩ := info_parts Tryz.info_ch
  have hm : m = L.length := hN.lenE.1.symm
  cases a0 with
  | none =>
    obtain ⟨rfl, rfl⟩ := hN.nil rfl
    have hL : L = [] := List.eq_nil_of_length_eq_zero hm.symm
    subst hL
    have hr := run_append_owned_none (P := Tryz.prog) (w := w) base 41 t 69 i 3 Tryz.underlying41 hi v n _ hown
    exact ⟨v, w, hr, by simpa using hown, ⟨rfl, rfl, rfl, Nat.le_refl _, fun _ _ _ => rfl⟩, .inl rfl⟩
  | some ad =>
    obtain ⟨v', w', hr, h2, h3, _, h5⟩ := run_append_own_at (P := Tryz.prog) w base 41 t 69 i zCV 3 48 Tryz.underlying41 hi hz hsize hby rfl (by decide) v n _ hown ad m c (chC L) (by rw [chC_len, hm]) (hN.src ad rfl) (fun u hu => List.all_eq_true.1 (chC_one L) u hu) (by unfold maxLen; omega) (by omega) hbase
    rw [← chC_app] at h2
    refine ⟨v', w', hr, h2, h3, h5.imp id fun e => ⟨e, ?_⟩⟩
    exact (h2.lt _ e).2
section
variable {ops : Array Oper} {Q : Exit → Act → World → Prop} {a : Act} {w w0 : World} {who : Nat → Nat} {i B r ro : Nat} {o : Oper}
end
section
variable {wr : World} {ops : Array Oper} {rest : List Oper} {o : Oper} {a : Act} {Q : Exit → Act → World → Prop}
/-- 'l = append(l, x)', l the call's own: x has just been laid in a block of its own. -/
theorem wpList_push_ch (hgd : o.guard = none) (s x : Operand) (ho : o.op = .call { callee := .builtin .append, args := #[s, x], argTypes := #[41, 41] })
    (base : Nat) (V : Value) (K : List Ch) (n : Nat) (hn : K.length = n) (hs : a.eval s = V) (hown : wr.ownsRow base 69 3 V n (chC K)) (p v u : List UInt8) (N : Nat) (hN : wr.heap.size = N) (hx : a.eval x = .slice (some ⟨N, 0, none⟩) 1 1) (hlen : n ≤ 1000000) (hbase : base ≤ wr.heap.size)
    (h : ∀ a' c' w', w'.ownsRow base 69 3 (.slice a' (n + 1) c') (n + 1) (chC (K ++ [(p, v, u)])) → wr.grownBy w' V.ownBlock → wpList Tryz.prog ops Q rest (a.put o.dst (.slice a' (n + 1) c')) w') :
    wpList Tryz.prog ops Q (o :: rest) a (wr.alloc (.cells #[.string (mkB p), .string (mkB v), .string (mkB u)] 69)) := by
  subst hN
  refine wpList_plain hgd fun K' hK' => ?_
  obtain ⟨v', w', hr, h2, h3, -⟩ := run_app_ch (hown.alloc (.cells #[.string (mkB p), .string (mkB v), .string (mkB u)] 69)) (blkG.chs (heap_alloc_new wr (.cells #[.string (mkB p), .string (mkB v), .string (mkB u)] 69))) (m := 1) (c := 1) (by omega) (by simp; omega) o.type
  have ho2 : w'.ownsRow base 69 3 v' (K ++ [(p, v, u)]).length (chC (K ++ [(p, v, u)])) := by rw [List.length_append, hn]; exact h2
  obtain ⟨a', c', hv, _⟩ := chsO ho2
  rw [List.length_append, hn, List.length_singleton] at hv
  subst hv
  have hk := h a' c' w' h2 ((World.grownBy_alloc wr _ _).trans h3)
  unfold Oper.wp
  simp [execOp, ho, resolve, invoke, builtin, hs, hx, hr, Result.andThen]
  exact hK' _ _ hk
end
end Go.Proofs.YtlbibgofhhdgoaaGreat

namespace Go.Proofs.YtlbibgofhhdgoaaGreat
open Go.RowKit Go.Maps Go.Sort Go.Shelf
set_option linter.unusedVariables false
set_option maxRecDepth 100000

theorem path_keyed : Keyed Tryz.prog 9 := string_keyed Tryz.underlying9
theorem key_path {p : Tx} (h : p.length ≤ maxLen) : keyOf Tryz.prog 9 (.string (mkB p)) = some (.string p) := by
  have := Go.WideMaps.keyOf_string_mk Tryz.underlying9 (s := mkB p) (by rw [mkB_size]; exact h)
  rwa [mkB_list] at this
abbrev Two := Tx × Tx
def twoV (x : Two) : Value := .agg #[.string (mkB x.1), .string (mkB x.2)]
def twoD (x : Two) : DataW Unit := .agg [.lit (.string x.1), .lit (.string x.2)]
theorem twoV_inj {x y : Two} (h : twoV x = twoV y) : x = y := by
  unfold twoV at h
  simp only [Value.agg.injEq, Array.mk.injEq, List.cons.injEq, Value.string.injEq, and_true] at h
  exact Prod.ext (mkB_inj h.1) (mkB_inj h.2)
theorem twoD_inj {x y : Two} (h : twoD x = twoD y) : x = y := by
  unfold twoD at h
  simp at h
  exact Prod.ext h.1 h.2
open Classical in
/-- How a map's element, two versions, reads. -/
noncomputable def twoR (v : Value) : Option (DataW Unit × List MemPlace) := if h : ∃ x, v = twoV x then some (twoD (Classical.choose h), []) else none
theorem twoR_mk (x : Two) : twoR (twoV x) = some (twoD x, []) := by
  unfold twoR
  have h : ∃ y, twoV x = twoV y := ⟨x, rfl⟩
  rw [dif_pos h, ← twoV_inj (Classical.choose_spec h)]
theorem twoR_inv {v : Value} {d : DataW Unit} {ps : List MemPlace} (h : twoR v = some (d, ps)) : ∃ x, v = twoV x ∧ d = twoD x := by
  unfold twoR at h
  by_cases q : ∃ x, v = twoV x
  · rw [dif_pos q] at h
    injection h with h
    injection h with h1 h2
    exact ⟨_, Classical.choose_spec q, h1.symm⟩
  · rw [dif_neg q] at h; cases h
/-- Block b is a map of at most nn entries: its keys are the paths of K, and f tells the two versions of each (of all others both are empty). -/
structure PMap (w : World) (b nn : Nat) (K : List Tx) (f : Tx → Two) : Prop where
  fits : ∀ p ∈ K, p.length ≤ maxLen
  ex : ∃ D : DataW Unit, w.ownsMap Tryz.prog 9 twoR b nn D ∧ ∀ p : Tx, p.length ≤ maxLen → (has D (.string p) = true ↔ p ∈ K) ∧ D.atKey (.string p) (twoD ([], [])) = twoD (f p)
theorem PMap.made (w : World) : PMap (w.alloc (.map #[] 0)) w.heap.size 0 [] fun _ => ([], []) :=
  ⟨(fun p hp => by cases hp), _, World.ownsMap_made w _ _ _, fun p _ => ⟨by simp [has], by rw [atKey_of_not_has (by simp [has])]⟩⟩
theorem PMap.lt {w : World} {b nn : Nat} {K : List Tx} {f : Tx → Two} (h : PMap w b nn K f) : b < w.heap.size := by obtain ⟨_, D, ho, _⟩ := h; exact ho.lt
theorem PMap.near {w w' : World} {b nn : Nat} {K : List Tx} {f : Tx → Two} (h : PMap w b nn K f) (hb : w'.heap[b]? = w.heap[b]?) : PMap w' b nn K f := by
  obtain ⟨hf, D, ⟨es, clock, he, rest⟩, hD⟩ := h
  exact ⟨hf, D, ⟨es, clock, hb.trans he, rest⟩, hD⟩
theorem PMap.below {w w' : World} {b nn : Nat} {K : List Tx} {f : Tx → Two} (h : PMap w b nn K f) (hb : Below w.heap.size w w') : PMap w' b nn K f := h.near (hb.block b h.lt)
theorem PMap.alloc {w : World} {b nn : Nat} {K : List Tx} {f : Tx → Two} (h : PMap w b nn K f) (o : Obj) : PMap (w.alloc o) b nn K f := h.below ((Below.refl _ _).alloc (Nat.le_refl _) o)
theorem PMap.mono {w : World} {b nn m : Nat} {K : List Tx} {f : Tx → Two} (h : PMap w b nn K f) (e : nn ≤ m) : PMap w b m K f := by
  obtain ⟨hf, D, ho, hD⟩ := h
  exact ⟨hf, D, ho.mono e, hD⟩
theorem zero_two (w : World) : (zeroValue 73).run Tryz.prog w = .ok (twoV ([], [])) w := by
  have := Tryz.zeroValue73 w
  exact this
theorem make_pmap (n : Int) (w : World) : (Instr.makeMap 70 (some (.int .i64 n))).run Tryz.prog w = .ok (.map (some w.heap.size)) (w.alloc (.map #[] 0)) := by
  simp [Instr.makeMap, run_underlying Tryz.underlying70, asInt, asIntOf, Result.andThen]
theorem look_pmap {w : World} {b nn : Nat} {K : List Tx} {f : Tx → Two} {p : Tx} (h : PMap w b nn K f) (hp : p.length ≤ maxLen) :
    Sem.run Tryz.prog (Instr.lookup 70 (.map (some b)) (.string (mkB p)) false) w = .ok (.agg #[.string (mkB (f p).1), .string (mkB (f p).2)]) w := by
  obtain ⟨_, D, hown, hD⟩ := h
  obtain ⟨v, ps, hr, hv⟩ := hown.lookup path_keyed Tryz.underlying70 (zero_two w) (twoR_mk ([], [])) (key_path hp)
  obtain ⟨x, rfl, hx⟩ := twoR_inv hv
  rw [(hD p hp).2] at hx
  have e := twoD_inj hx
  rw [hr, ← e]; rfl
theorem pmap_put {D : DataW Unit} {K : List Tx} {f : Tx → Two} {p : Tx} {x : Two} (hi : IsMap D) (hp : p.length ≤ maxLen)
    (hD : ∀ q : Tx, q.length ≤ maxLen → (has D (.string q) = true ↔ q ∈ K) ∧ D.atKey (.string q) (twoD ([], [])) = twoD (f q)) :
    ∀ q : Tx, q.length ≤ maxLen → (has (D.put (.string p) (twoD x)) (.string q) = true ↔ q ∈ K ++ [p]) ∧ (D.put (.string p) (twoD x)).atKey (.string q) (twoD ([], [])) = twoD (if q = p then x else f q) := by
  have hk : WideAt.IsKeyLit (.string p) := path_keyed.key (key_path hp)
  intro q hq
  by_cases e : q = p
  · subst e
    rw [has_put_same hi hk, atKey_put_same hi hk, if_pos rfl]
    exact ⟨by simp, rfl⟩
  · have hne : (Lit.string q) ≠ .string p := fun h => e (by injection h)
    rw [has_put_other hne, atKey_put_other hne, if_neg e]
    exact ⟨by rw [(hD q hq).1]; simp [e], (hD q hq).2⟩
theorem PMap.put {w' : World} {b nn : Nat} {K : List Tx} {f : Tx → Two} {p : Tx} {x : Two} {D : DataW Unit} (hf : ∀ p ∈ K, p.length ≤ maxLen) (hi : IsMap D)
    (hD : ∀ q : Tx, q.length ≤ maxLen → (has D (.string q) = true ↔ q ∈ K) ∧ D.atKey (.string q) (twoD ([], [])) = twoD (f q)) (hp : p.length ≤ maxLen) (ho : w'.ownsMap Tryz.prog 9 twoR b nn (D.put (.string p) (twoD x))) :
    PMap w' b nn (K ++ [p]) (fun q => if q = p then x else f q) := ⟨fun q hq => by
  rcases List.mem_append.1 hq with k | k
  · exact hf q k
  · rw [List.mem_singleton.1 k]; exact hp, _, ho, pmap_put hi hp hD⟩
/-- A store, where the region calls it by its run. -/
theorem PMap.stored {w : World} {b nn : Nat} {K : List Tx} {f : Tx → Two} {p : Tx} (x : Two) (h : PMap w b nn K f) (hp : p.length ≤ maxLen) (hnn : nn < maxLen) :
    ∃ w', (Instr.mapUpdate 70 (.map (some b)) (.string (mkB p)) (twoV x)).run Tryz.prog w = .ok () w' ∧ PMap w' b (nn + 1) (K ++ [p]) (fun q => if q = p then x else f q) ∧ w.grownBy w' (some b) := by
  obtain ⟨hf, D, hown, hD⟩ := h
  obtain ⟨w2, hrun, hown2, hturn⟩ := hown.store path_keyed Tryz.underlying70 hnn (key_path hp) (twoR_mk x)
  exact ⟨w2, hrun, PMap.put hf hown.isMap hD hp hown2, hturn.grown⟩
section
variable {wr : World} {ops : Array Oper} {rest : List Oper} {o : Oper} {a : Act} {Q : Exit → Act → World → Prop}
/-- 'm[p] = x', for the walk. -/
theorem wpList_put_pmap (hg : o.guard = none) (m x v : Operand) (hop : o.op = Op.mapUpdate 70 m x v) (b nn : Nat) (K : List Tx) (f : Tx → Two) (hm : a.eval m = .map (some b)) (h : PMap wr b nn K f) (hn : nn < maxLen) (p y z : Tx) (hx : a.eval x = .string (mkB p)) (hv : a.eval v = .agg #[.string (mkB y), .string (mkB z)]) (hp : p.length ≤ maxLen)
    (hK : ∀ w', PMap w' b (nn + 1) (K ++ [p]) (fun q => if q = p then (y, z) else f q) → wr.grownBy w' (some b) → wpList Tryz.prog ops Q rest (a.put o.dst undef) w') :
    wpList Tryz.prog ops Q (o :: rest) a wr := by
  refine wpList_plain hg fun K' hK' => ?_
  obtain ⟨w', hrun, r1, r2⟩ := h.stored (p := p) (y, z) hp hn
  have hrun2 : (Instr.mapUpdate 70 (.map (some b)) (.string (mkB p)) (.agg #[.string (mkB y), .string (mkB z)])).run Tryz.prog wr = .ok () w' := hrun
  unfold Oper.wp
  simp [execOp, hop, hm, hx, hv, hrun2, Result.andThen]
  exact hK' _ _ (hK w' r1 r2)
end

/-! ### The paths in order -/
theorem pmap_perm {w : World} {b nn : Nat} {K : List Tx} {D : DataW Unit} (hown : w.ownsMap Tryz.prog 9 twoR b nn D) (hD : ∀ p : Tx, p.length ≤ maxLen → (has D (.string p) = true ↔ p ∈ K)) (hf : ∀ p ∈ K, p.length ≤ maxLen) : (setT K).Perm (strKeys D) := by
  obtain ⟨es, hE, hpw, _⟩ := hown.entries path_keyed
  obtain ⟨es', hE', hko⟩ := hown.keysOf
  obtain rfl : es = es' := by rw [hE] at hE'; simpa using hE'
  subst hE
  have hk : ∀ p ∈ es, ∃ x, p.1 = .string x ∧ x.length ≤ maxLen := fun p hp => by
    obtain ⟨v, hv⟩ := hko p hp
    obtain ⟨x, _, hx, hw⟩ := Maps.keyOf_str Tryz.underlying9 hv
    exact ⟨x, hx, hw⟩
  refine perm_strKeys hpw (fun p hp => by obtain ⟨x, hx, _⟩ := hk p hp; exact ⟨x, hx⟩) (riseT_nodup (setT_rise K)) fun x => ?_
  rw [setT_mem]
  by_cases hx : x.length ≤ maxLen
  · exact (hD x hx).symm
  · refine ⟨fun h => absurd (hf x h) hx, fun h => ?_⟩
    rw [has_eq, List.any_eq_true] at h
    obtain ⟨p, hp, hs⟩ := h
    obtain ⟨y, hy, hfy⟩ := hk p hp
    rw [hy] at hs
    have : y = x := by simpa [Lit.sameKey] using hs
    exact absurd (this ▸ hfy) hx
theorem sortsT (m : Nat) : AnyZ.SortsIn Tryz.prog Tryz.sortedT_ren Fence.wide m :=
  ⟨fun blk off cap ss W hH hblk hsz => callsIn_wide.2 (AnyM.slices_Sort_string Tryz.sortT blk off cap ss W hH hblk hsz),
   fun p cap W => callsIn_wide.2 (AnyM.slices_Sort_string_none Tryz.sortT p cap W)⟩

set_option maxHeartbeats 1000000 in
theorem inorder_any (b nn : Nat) (K : List Tx) (f : Tx → Two) (w : World) (h : PMap w b nn K f) (hnn : nn ≤ 3000000) :
    Calls Tryz.prog 42 #[.map (some b)] w fun e w' => ∃ v, e = .returned v ∧ w'.ownsRow w.heap.size 9 1 v (setT K).length (strC (setT K)) ∧ Below w.heap.size w w' := by
  obtain ⟨hf, D0, hown, hD⟩ := h
  have hperm := pmap_perm hown (fun p hp => (hD p hp).1) hf
  have hsl := hown.size_le
  have hmax : Maps.size D0 ≤ maxLen := by unfold maxLen; omega
  have hbytes : Maps.size D0 * 16 ≤ 140737488355328 := by omega
  refine (callsIn_wide (n := 6)).1 ?_
  have hbl := hown.lt
  have hseq : SeqGives Fence.wide 2 Tryz.prog 86 #[.pointer (some ⟨w.heap.size, 0, none⟩)] encStr (fun ss => ss.Perm (strKeys D0)) (Maps.size D0) (w.alloc (.cells #[.map (some b)] 70)) :=
    AnyZ.keys_gives (ρ := Tryz.keysT_ren) { Tryz.keysT with } Fence.wide _ trivial rfl (by omega) w.heap.size b nn D0 _ (by simp) (by simp) (by
      obtain ⟨es, clock, hb, Ft, hs, hD⟩ := hown
      exact ⟨es, clock, (Below.heap_alloc _ _ b hbl).trans hb, Ft, hs, hD⟩)
  have cK : ∀ mb W, CallsIn Fence.wide 5 Tryz.prog 68 #[.map mb] W fun e w' => e = .returned (.func (.func 86) #[] #[.pointer (some ⟨W.heap.size, 0, none⟩)]) ∧ w' = W.alloc (.cells #[.map mb] 70) := fun mb W => AnyZ.keys_in Tryz.keysT Fence.wide 5 trivial rfl mb W
  have cS := AnyZ.sorted_in Tryz.sortedT Fence.wide 5 trivial trivial trivial trivial rfl (by omega) (sortsT _) (enters_of Tryz.func85 (by kernel_rfl) rfl) 86 #[.pointer (some ⟨w.heap.size, 0, none⟩)] trivial (enters_of Tryz.func86 (by kernel_rfl) rfl) _ _ hmax hbytes _ hseq
  change CallsIn _ _ Tryz.prog 67 _ _ _ at cS
  have hfK : Fence.wide.fn 68 := trivial
  have hfS : Fence.wide.fn 67 := trivial
  refine callsIn_of_wp Tryz.func42 rfl trivial ?_ rfl
  simp only [Tryz.ntmps42, List.size_toArray, List.length_cons, List.length_nil, Nat.reduceAdd, Nat.reduceSub, Array.replicate_succ, Array.replicate_zero, List.push_toArray, List.append_toArray, List.nil_append, List.cons_append]
  gi_wp2_with (first
    | (gi_at_call 68; refine (cK _ _).mono ?_; rintro e w' ⟨rfl, rfl⟩)
    | (gi_at_call 67; refine cS.mono ?_; rintro e w' ⟨v, ss, rfl, hS, hrow, hnil, hb⟩))
  go_ret
  have e1 : setT K = ss.mergeSort (fun x y => decide (x ≤ y)) := by
    have := sort_setT (riseT_nodup (setT_rise K)) (K := K) fun x => setT_mem
    rw [← this]; exact mergeSort_of_perm (hperm.trans hS.symm)
  have e2 : (setT K).length = ss.length := by rw [e1, List.length_mergeSort]
  refine ⟨v, rfl, ?_, ((Below.refl _ w).alloc (Nat.le_refl _) _).trans (hb.mono (by simp))⟩
  rw [e2, e1]
  exact ownsRow_base_a hrow (by simp)
end Go.Proofs.YtlbibgofhhdgoaaGreat

namespace Go.Proofs.YtlbibgofhhdgoaaGreat
open Go.RowKit
set_option linter.unusedVariables false
set_option maxRecDepth 100000

theorem once_step {l : List Nd} {k : Nat} (h0 : ¬ k = 0) : chainB (fun _ => true) neP ([], []) l k = !decide ((l.getD (k - 1) ([], [])).1 = (l.getD k ([], [])).1) := by
  unfold chainB neP
  rw [decide_eq_false h0]; simp
theorem once_zero {l : List Nd} : chainB (fun _ => true) neP ([], []) l 0 = true := by unfold chainB; simp

set_option maxHeartbeats 1600000 in
theorem lcheck_any (V : Value) (l : List Nd) (w : World) (h : Nds w V l) (hs : ∀ n ∈ l, smallN n) :
    Calls Tryz.prog 12 #[V] w fun e w' => e = .returned (.int .i64 (lchkE l)) ∧ Below w.heap.size w w' := by
  obtain ⟨A, c, rfl, h1, h2, -, -⟩ := h.ex
  unfold maxLen at h2
  have kc := fun V w h => ncheck_e V l w h hs
  obtain ⟨n, hn⟩ : ∃ n, l.length = n := ⟨_, rfl⟩
  rw [hn] at h1 h ⊢
  have HN := Lib.hid hn; have ST := Lib.hid h
  cases hc : checkN l with
  | false =>
    have e1 : lchkE l = 1 := lchkE_no (by unfold okL; rw [hc]; rfl)
    rw [e1]; rw [chkE_no hc] at kc
    have KC := Lib.hid kc
    clear kc hn h hs hc e1
    go_enter Tryz.func12, Tryz.ntmps12
    go_wp2_with (go_at_call 34; refine (KC.out _ _ ST.out).mono ?_; rintro e w1 ⟨rfl, hb1⟩; have B := Lib.hid hb1; clear hb1)
    go_ret
    exact ⟨rfl, B.out⟩
  | true =>
    rw [chkE_yes hc] at kc
    have ht : lchkE l = if onceP l = true then 0 else 1 := by unfold lchkE okL; rw [hc, Bool.true_and]
    obtain ⟨T, hT⟩ : ∃ T : Int, lchkE l = T := ⟨_, rfl⟩
    rw [hT] at ht ⊢
    have KC := Lib.hid kc; have HT := Lib.hid ht
    clear kc hn h hs hc hT ht
    go_enter Tryz.func12, Tryz.ntmps12
    go_wp2_with (go_at_call 34; refine (KC.out _ _ ST.out).mono ?_; rintro e w1 ⟨rfl, hb1⟩; have B := Lib.hid hb1; clear hb1)
    go_loopw [4] (fun i wr => ∃ k : Nat, 1 ≤ k ∧ (k ≤ n ∨ k = 1) ∧ i = .int .i64 k ∧ Hid (∀ j, j < k → chainB (fun _ => true) neP ([], []) l j = true) ∧ Hid (Below w.heap.size w wr)) (fun i _ => n - (intOf i).toNat)
    case atStart => exact ⟨1, Nat.le_refl _, .inr rfl, rfl, Lib.hid fun j hj => by rw [show j = 0 by omega]; exact once_zero, B⟩
    case round =>
      obtain ⟨k, hk1, hk, rfl, HM, HB⟩ := hrel
      by_cases hlt : k < n
      · have hkl : k < l.length := by rw [HN.out]; exact hlt
        have hkb : (k : Int) < (n : Int) := by omega
        have hk0 : (1 : Int) ≤ (k : Int) := by omega
        obtain ⟨m, hm⟩ : ∃ m, k - 1 = m := ⟨_, rfl⟩
        have hkm : (k : Int) - 1 = (m : Int) := by omega
        have hmn : (m : Int) < (n : Int) := by omega
        obtain ⟨b, off, rfl, -, c0, -⟩ := (ST.out.below HB.out).at k hkl
        have d0 : wr.cell? ⟨b, off + m * 2, none⟩ = some (.string (mkB (l.getD m ([], [])).1)) := by
          obtain ⟨b', off', e, -, q, -⟩ := (ST.out.below HB.out).at m (by omega)
          cases e; exact q
        have hst := once_step (l := l) (k := k) (by omega)
        rw [hm] at hst
        obtain ⟨y, hy⟩ : ∃ y, (l.getD k ([], [])).1 = y := ⟨_, rfl⟩
        obtain ⟨x, hx⟩ : ∃ x, (l.getD m ([], [])).1 = x := ⟨_, rfl⟩
        rw [hy] at c0 hst
        rw [hx] at d0 hst
        have hpq := mk_beq x y
        obtain ⟨o, ho⟩ : ∃ o, decide (x = y) = o := ⟨_, rfl⟩
        rw [ho] at hst hpq
        have HST := Lib.hid hst; have HKL := Lib.hid hkl
        clear hst hkl hm hy hx ho
        cases o with
        | true =>
          have HNO := Lib.hid (show T = 1 by rw [HT.out, show onceP l = false from chain_no HKL.out HST.out]; rfl)
          go_wp2_with fail
          go_quiet (fail)
          go_wp2
          go_ret
          exact ⟨by rw [HNO.out]; rfl, below_step HB.out (below_q ⟨nq, rfl⟩)⟩
        | false =>
          have HM2 : Hid (∀ j, j < k + 1 → chainB (fun _ => true) neP ([], []) l j = true) := Lib.hid fun j hj => by
            rcases Nat.lt_succ_iff_lt_or_eq.1 hj with q | rfl
            · exact HM.out j q
            · rw [HST.out]; rfl
          go_wp2_with fail
          go_quiet (fail)
          go_wp2
          go_roundw
          case rel => exact ⟨k + 1, by omega, .inl (by omega), by go_num, HM2, Lib.hid (below_step HB.out (below_q ⟨nq, rfl⟩))⟩
          case measure => simp [intOf]; omega
      · have hyes : onceP l = true := chain_yes fun j hj => HM.out j (by rw [HN.out] at hj; omega)
        have HNO := Lib.hid (show T = 0 by rw [HT.out, hyes]; rfl)
        clear hyes
        go_wp2
        go_ret
        exact ⟨by rw [HNO.out]; rfl, HB.out⟩

/-! ### A path's version -/
set_option maxHeartbeats 1600000 in
theorem lpick_any (V : Value) (l : List Nd) (p : Tx) (w : World) (h : Nds w V l) (hs : ∀ n ∈ l, smallN n) (hp : p.length ≤ 1000000000) :
    Calls Tryz.prog 11 #[V, .string (mkB p)] w fun e w' => e = .returned (.tuple #[.string (mkB (pickE l p).1), .int .i64 (pickE l p).2]) ∧ Below w.heap.size w w' := by
  obtain ⟨A, c, rfl, h1, h2, -, -⟩ := h.ex
  unfold maxLen at h2
  have kc := fun V w h => lcheck_any V l w h hs
  have km := fun w => pmay_b p w hp
  obtain ⟨n, hn⟩ : ∃ n, l.length = n := ⟨_, rfl⟩
  rw [hn] at h1 h ⊢
  have HN := Lib.hid hn; have ST := Lib.hid h
  cases ho : okL l with
  | false =>
    rw [pickE_no (by rw [ho]; rfl)]; rw [lchkE_no ho] at kc
    have KC := Lib.hid kc
    clear kc km hn h hs ho hp
    go_enter Tryz.func11, Tryz.ntmps11
    go_wp2_with (go_at_call 12; refine (KC.out _ _ ST.out).mono ?_; rintro e w1 ⟨rfl, hb1⟩; have B := Lib.hid hb1; clear hb1)
    go_ret2
    exact ⟨rfl, B.out⟩
  | true =>
    rw [lchkE_yes ho] at kc
    cases hpo : pathB p with
    | false =>
      rw [pickE_no (by rw [ho, hpo]; rfl)]; rw [hpo] at km
      have KC := Lib.hid kc; have KM := Lib.hid km
      clear kc km hn h hs ho hp hpo
      go_enter Tryz.func11, Tryz.ntmps11
      go_wp2_with (first
        | (go_at_call 12; refine (KC.out _ _ ST.out).mono ?_; rintro e w1 ⟨rfl, hb1⟩; have B := Lib.hid hb1; clear hb1)
        | (go_at_call 33; refine (KM.out _).mono ?_; rintro e w1 ⟨rfl, hb1⟩; replace B := Lib.hid (below_step B.out hb1); clear hb1))
      go_ret2
      exact ⟨rfl, B.out⟩
    | true =>
      rw [hpo] at km
      obtain ⟨E, hE⟩ : ∃ E, pickE l p = E := ⟨_, rfl⟩
      rw [hE]
      have KC := Lib.hid kc; have KM := Lib.hid km; have HE := Lib.hid hE; have HO := Lib.hid ho; have HPO := Lib.hid hpo
      clear kc km hn h hs ho hp hpo hE
      go_enter Tryz.func11, Tryz.ntmps11
      go_wp2_with (first
        | (go_at_call 12; refine (KC.out _ _ ST.out).mono ?_; rintro e w1 ⟨rfl, hb1⟩; have B := Lib.hid hb1; clear hb1)
        | (go_at_call 33; refine (KM.out _).mono ?_; rintro e w1 ⟨rfl, hb1⟩; replace B := Lib.hid (below_step B.out hb1); clear hb1))
      go_loopw [18] (fun i wr => ∃ k : Nat, k ≤ n ∧ i = .int .i64 k ∧ Hid (∀ j, j < k → (l.getD j ([], [])).1 ≠ p) ∧ Hid (Below w.heap.size w wr)) (fun i _ => n - (intOf i).toNat)
      case atStart => exact ⟨0, Nat.zero_le _, rfl, Lib.hid fun j hj => absurd hj (Nat.not_lt_zero j), B⟩
      case round =>
        obtain ⟨k, hk, rfl, HM, HB⟩ := hrel
        by_cases hlt : k < n
        · have hkl : k < l.length := by rw [HN.out]; exact hlt
          have hkb : (k : Int) < (n : Int) := by omega
          obtain ⟨b, off, rfl, -, c0, c1⟩ := (ST.out.below HB.out).at k hkl
          obtain ⟨y, hy⟩ : ∃ y, l.getD k ([], []) = y := ⟨_, rfl⟩
          rw [hy] at c0 c1
          obtain ⟨y1, y2⟩ := y
          simp only at c0 c1
          have hpq := mk_beq y1 p
          obtain ⟨o, hoq⟩ : ∃ o, decide (y1 = p) = o := ⟨_, rfl⟩
          rw [hoq] at hpq
          have HY := Lib.hid hy; have HKL := Lib.hid hkl; have HOQ := Lib.hid hoq
          clear hy hkl hoq
          go_upto_region 6 with fail
          obtain ⟨W5, gk, hW5, hgk, r5, hb5⟩ := boxT wr (.string (mkB y1)) (.string (mkB y2)) 55
          rw [hW5, hgk]
          obtain ⟨d0, d1, -, -⟩ := row2 r5
          have HB5 := Lib.hid (below_step HB.out hb5)
          clear hW5 hgk r5 hb5 c0 c1
          cases o with
          | true =>
            have he : y1 = p := of_decide_eq_true HOQ.out
            have hpk : pickL l p = y2 := by
              have := pick_hit HKL.out (fun j hj => by rw [HY.out]; show _ ≠ y1; rw [he]; exact HM.out j hj)
              rw [HY.out] at this
              rw [← he]; exact this
            have hne : y2 ≠ [] := okN_ver (n := (y1, y2)) ((okL_iff.1 HO.out).1 _ (by rw [← HY.out]; exact gd_in HKL.out))
            have HE2 := Lib.hid (show E = (y2, 0) by rw [← HE.out, pickE_yes HO.out HPO.out (by rw [hpk]; exact hne), hpk])
            clear he hpk hne
            go_wp2
            go_ret2
            exact ⟨by rw [HE2.out]; rfl, HB5.out⟩
          | false =>
            have HM2 : Hid (∀ j, j < k + 1 → (l.getD j ([], [])).1 ≠ p) := Lib.hid fun j hj => by
              rcases Nat.lt_succ_iff_lt_or_eq.1 hj with q | rfl
              · exact HM.out j q
              · rw [HY.out]; exact of_decide_eq_false HOQ.out
            go_wp2
            go_roundw
            case rel => exact ⟨k + 1, by omega, by go_num, HM2, HB5⟩
            case measure => simp [intOf]; omega
        · have e : k = n := by omega
          subst e
          have hno : pickL l p = [] := pick_none fun m hm => by
            obtain ⟨j, hj, rfl⟩ := List.getElem_of_mem hm
            have := HM.out j (by rw [← HN.out]; exact hj)
            rwa [gd_at hj] at this
          have HE2 := Lib.hid (show E = ([], 2) by rw [← HE.out, pickE_none HO.out HPO.out hno])
          clear hno
          go_wp2
          go_ret2
          exact ⟨by rw [HE2.out]; rfl, HB.out⟩
end Go.Proofs.YtlbibgofhhdgoaaGreat

namespace Go.Proofs.YtlbibgofhhdgoaaGreat
open Go.RowKit Go.Maps
set_option linter.unusedVariables false
set_option maxRecDepth 100000

theorem pick_snoc {l : List Nd} {n : Nd} (h : ∀ m ∈ l, m.1 ≠ n.1) (p : Tx) : pickL (l ++ [n]) p = if p = n.1 then n.2 else pickL l p := by
  rw [pick_app]
  by_cases e : p = n.1
  · subst e
    rw [if_neg (fun ⟨m, hm, k⟩ => h m hm k), if_pos rfl, pickL, if_pos rfl]
  · rw [if_neg e]
    by_cases q : ∃ m ∈ l, m.1 = p
    · rw [if_pos q]
    · rw [if_neg q, pickL, if_neg (fun k => e k.symm)]
      show pickL [] p = pickL l p
      rw [pick_none (l := l) fun m hm k => q ⟨m, hm, k⟩]; rfl
theorem pick_take {l : List Nd} (hr : RiseP l) {k : Nat} (hk : k < l.length) (p : Tx) : pickL (l.take (k + 1)) p = if p = (l.getD k ([], [])).1 then (l.getD k ([], [])).2 else pickL (l.take k) p := by
  rw [List.take_succ_eq_append_getElem hk, ← gd_at (z := (([], []) : Nd)) hk]
  refine pick_snoc (fun m hm => ?_) p
  obtain ⟨j, hj, rfl⟩ := List.getElem_of_mem hm
  rw [List.length_take] at hj
  rw [List.getElem_take, gd_at hk]
  exact ltB_ne (List.pairwise_iff_getElem.1 hr j k (by omega) hk (by omega))
theorem PMap.congr {w : World} {b nn : Nat} {K : List Tx} {f g : Tx → Two} (h : PMap w b nn K f) (e : ∀ p, f p = g p) : PMap w b nn K g := by
  have : f = g := funext e
  rw [← this]; exact h
theorem PMap.keys {w : World} {b nn : Nat} {K L : List Tx} {f : Tx → Two} (h : PMap w b nn K f) (e : K = L) : PMap w b nn L f := e ▸ h
theorem ix_two (x y : ByteArray) (w : World) : Sem.run Tryz.prog (Instr.index 73 (.agg #[.string x, .string y]) (.int .i64 0)) w = .ok (.string x) w := by kernel_rfl
theorem ix_two1 (x y : ByteArray) (w : World) : Sem.run Tryz.prog (Instr.index 73 (.agg #[.string x, .string y]) (.int .i64 1)) w = .ok (.string y) w := by kernel_rfl

set_option maxHeartbeats 3200000 in
theorem beside_any (U V : Value) (a b : List Nd) (w : World) (hU : Nds w U a) (hV : Nds w V b) (fa : ∀ n ∈ a, fitsN n) (fb : ∀ n ∈ b, fitsN n) (ra : RiseP a) (rb : RiseP b) (la : a.length ≤ 1000000) (lb : b.length ≤ 1000000) :
    Calls Tryz.prog 41 #[U, V] w fun e w' => ∃ g, e = .returned (.map (some g)) ∧ PMap w' g (a.length + b.length) (a.map (·.1) ++ b.map (·.1)) (fun p => (pickL a p, pickL b p)) ∧ w.heap.size ≤ g ∧ Below w.heap.size w w' := by
  obtain ⟨A, c, rfl, h1, h2, -, -⟩ := hU.ex
  obtain ⟨A', c', rfl, h1', h2', -, -⟩ := hV.ex
  unfold maxLen at h2 h2'
  obtain ⟨n, hn⟩ : ∃ n, a.length = n := ⟨_, rfl⟩
  obtain ⟨m, hm⟩ : ∃ m, b.length = m := ⟨_, rfl⟩
  have hpa := fun k hk p => pick_take ra (k := k) hk p
  have hpb := fun k hk p => pick_take rb (k := k) hk p
  rw [hn] at la h1 hU hpa ⊢
  rw [hm] at lb h1' hV hpb ⊢
  have SU := Lib.hid hU; have SV := Lib.hid hV; have HN := Lib.hid hn; have HM := Lib.hid hm; have FA := Lib.hid fa; have FB := Lib.hid fb; have PA := Lib.hid hpa; have PB := Lib.hid hpb
  have hmm := make_pmap
  obtain ⟨N0, hN0⟩ : ∃ N, w.heap.size = N := ⟨_, rfl⟩
  have M0 := Lib.hid (PMap.made w)
  have B0 := Lib.hid ((Below.refl w.heap.size w).alloc (Nat.le_refl _) (.map #[] 0))
  obtain ⟨W, hW⟩ : ∃ W, w.alloc (.map #[] 0) = W := ⟨_, rfl⟩
  rw [hN0] at M0 B0 ⊢
  rw [hW] at M0 B0
  have HN0 := Lib.hid hN0; have HW := Lib.hid hW
  clear hU hV hn hm fa fb ra rb hpa hpb hW
  go_enter Tryz.func41, Tryz.ntmps41
  go_wp2
  rw [HW.out]
  clear hmm HW
  go_loopw [15] (fun i wr => ∃ k : Nat, k ≤ n ∧ i = .int .i64 k ∧ Hid (PMap wr N0 k ((a.take k).map (·.1)) (fun p => (pickL (a.take k) p, []))) ∧ Hid (Below N0 w wr)) (fun i _ => n - (intOf i).toNat)
  case atStart => exact ⟨0, Nat.zero_le _, rfl, Lib.hid (by simpa [pickL] using M0.out), B0⟩
  case round =>
    obtain ⟨k, hk, rfl, HP, HB⟩ := hrel
    have hbw : Below w.heap.size w wr := by rw [HN0.out]; exact HB.out
    have hsz := hbw.size
    by_cases hlt : k < n
    · have hkl : k < a.length := by rw [HN.out]; exact hlt
      have hkb : (k : Int) < (n : Int) := by omega
      obtain ⟨bl, off, rfl, -, c0, c1⟩ := (SU.out.below hbw).at k hkl
      have hpk := PA.out k hlt
      have hfy := FA.out _ (gd_in (z := ([], [])) hkl)
      have htk : (a.take (k + 1)).map (·.1) = (a.take k).map (·.1) ++ [(a.getD k ([], [])).1] := by rw [List.take_succ_eq_append_getElem hkl, List.map_append, gd_at hkl]; rfl
      obtain ⟨y, hy⟩ : ∃ y, a.getD k ([], []) = y := ⟨_, rfl⟩
      rw [hy] at c0 c1 hpk hfy htk
      obtain ⟨y1, y2⟩ := y
      simp only at c0 c1 hpk htk
      have HPK := Lib.hid hpk; have HTK := Lib.hid htk; have HFY := Lib.hid hfy
      clear hy hkl hpk htk hfy hbw
      go_upto_region 5 with fail
      obtain ⟨W5, gk, hW5, hgk, r5, hb5⟩ := boxT wr (.string (mkB y1)) (.string (mkB y2)) 55
      rw [hW5, hgk]
      obtain ⟨d0, d1, -, -⟩ := row2 r5
      have HP5 := Lib.hid (HP.out.below hb5)
      have hb6 : Below N0 w W5 := HB.out.trans (hb5.mono (by omega))
      have hs6 : N0 ≤ W5.heap.size := by have := hb5.size; omega
      have HB6 := Lib.hid hb6; have HS6 := Lib.hid hs6
      clear hW5 hgk r5 hb5 c0 c1 hb6 hs6
      go_wp2_with (at_mapUpdate; refine wpList_put_pmap rfl _ _ _ rfl N0 k _ _ rfl HP5.out (by unfold maxLen; omega) y1 y2 [] rfl rfl HFY.out.1 ?_; intro w1 hM1 hg1; have HM1 := Lib.hid hM1; have HB1 := Lib.hid (HB6.out.grown hg1 HS6.out (fun j e => by cases e; exact Nat.le_refl _)); clear hM1 hg1)
      go_roundw
      case rel => exact ⟨k + 1, by omega, by go_num, Lib.hid ((HM1.out.keys HTK.out.symm).congr fun p => by
        rw [HPK.out p]
        by_cases e : p = y1
        · rw [if_pos e, if_pos e]
        · rw [if_neg e, if_neg e]), HB1⟩
      case measure => simp [intOf]; omega
    · have e : k = n := by omega
      subst e
      have hta : a.take k = a := List.take_of_length_le (by rw [HN.out]; exact Nat.le_refl _)
      rw [hta] at HP
      clear hta hbw
      go_wp2
      obtain ⟨w2, hw2⟩ : ∃ v, v = wr := ⟨_, rfl⟩
      subst hw2
      go_loopw [28] (fun i wr => ∃ j : Nat, j ≤ m ∧ i = .int .i64 j ∧ Hid (PMap wr N0 (k + j) (a.map (·.1) ++ (b.take j).map (·.1)) (fun p => (pickL a p, pickL (b.take j) p))) ∧ Hid (Below N0 w wr)) (fun i _ => m - (intOf i).toNat)
      case atStart => exact ⟨0, Nat.zero_le _, rfl, Lib.hid (by simpa [pickL] using HP.out), HB⟩
      case round =>
        obtain ⟨j, hj, rfl, HP2, HB2⟩ := hrel
        have hbw : Below w.heap.size w wr := by rw [HN0.out]; exact HB2.out
        have hsz := hbw.size
        by_cases hlt2 : j < m
        · have hkl : j < b.length := by rw [HM.out]; exact hlt2
          have hkb : (j : Int) < (m : Int) := by omega
          obtain ⟨bl, off, rfl, -, c0, c1⟩ := (SV.out.below hbw).at j hkl
          have hpk := PB.out j hlt2
          have hfy := FB.out _ (gd_in (z := ([], [])) hkl)
          have htk : (b.take (j + 1)).map (·.1) = (b.take j).map (·.1) ++ [(b.getD j ([], [])).1] := by rw [List.take_succ_eq_append_getElem hkl, List.map_append, gd_at hkl]; rfl
          obtain ⟨y, hy⟩ : ∃ y, b.getD j ([], []) = y := ⟨_, rfl⟩
          rw [hy] at c0 c1 hpk hfy htk
          obtain ⟨y1, y2⟩ := y
          simp only at c0 c1 hpk htk
          have HPK := Lib.hid hpk; have HTK := Lib.hid htk; have HFY := Lib.hid hfy
          clear hy hkl hpk htk hfy hbw
          go_upto_region 10 with fail
          obtain ⟨W5, gk, hW5, hgk, r5, hb5⟩ := boxT wr (.string (mkB y1)) (.string (mkB y2)) 55
          rw [hW5, hgk]
          obtain ⟨d0, d1, -, -⟩ := row2 r5
          have HP5 := Lib.hid (HP2.out.below hb5)
          have hb6 : Below N0 w W5 := HB2.out.trans (hb5.mono (by omega))
          have hs6 : N0 ≤ W5.heap.size := by have := hb5.size; omega
          have hlook := look_pmap HP5.out HFY.out.1
          have hix := ix_two
          obtain ⟨z, hz⟩ : ∃ z, pickL a y1 = z := ⟨_, rfl⟩
          simp only [hz] at hlook
          have HZ := Lib.hid hz
          have HB6 := Lib.hid hb6; have HS6 := Lib.hid hs6
          clear hW5 hgk r5 hb5 c0 c1 hb6 hs6 hz
          go_wp2_with (at_mapUpdate; refine wpList_put_pmap rfl _ _ _ rfl N0 (k + j) _ _ rfl HP5.out (by unfold maxLen; omega) y1 z y2 rfl rfl HFY.out.1 ?_; intro w1 hM1 hg1; have HM1 := Lib.hid hM1; have HB1 := Lib.hid (HB6.out.grown hg1 HS6.out (fun j e => by cases e; exact Nat.le_refl _)); clear hM1 hg1)
          go_roundw
          case rel => exact ⟨j + 1, by omega, by go_num, Lib.hid ((HM1.out.keys (by rw [HTK.out, List.append_assoc])).congr fun p => by
            rw [HPK.out p]
            by_cases e : p = y1
            · rw [if_pos e, if_pos e, e, HZ.out]
            · rw [if_neg e, if_neg e]), HB1⟩
          case measure => simp [intOf]; omega
        · have e : j = m := by omega
          subst e
          have htb : b.take j = b := List.take_of_length_le (by rw [HM.out]; exact Nat.le_refl _)
          rw [htb] at HP2
          clear htb hbw
          go_wp2
          go_ret
          exact ⟨N0, rfl, HP2.out, Nat.le_refl _, HB2.out⟩
end Go.Proofs.YtlbibgofhhdgoaaGreat

namespace Go.Proofs.YtlbibgofhhdgoaaGreat
open Go.RowKit Go.Maps
set_option linter.unusedVariables false
set_option maxRecDepth 100000

theorem nil_beq (v : Tx) : ((mkB v).toList == []) = decide (v = []) := by rw [Lib.toList_data, mkB_list]; cases v <;> simp
set_option maxHeartbeats 400000 in
theorem lnone_any (v : Tx) (w : World) (hv : v.length ≤ 1000000000) :
    Calls Tryz.prog 69 #[.string (mkB v)] w fun e w' => e = .returned (.bool (okTx v)) ∧ Below w.heap.size w w' := by
  have km := fun w => vmay_b v w hv
  have hz := nil_beq v
  have ht : okTx v = (decide (v = []) || okV v) := rfl
  obtain ⟨o, ho⟩ : ∃ o, decide (v = []) = o := ⟨_, rfl⟩
  rw [ho] at hz ht
  obtain ⟨T, hT⟩ : ∃ T, okTx v = T := ⟨_, rfl⟩
  rw [hT] at ht ⊢
  have KM := Lib.hid km; have HT := Lib.hid ht
  clear ho km hT ht
  go_enter Tryz.func69, Tryz.ntmps69
  cases o with
  | true =>
    go_wp2_with fail
    go_ret
    exact ⟨by rw [HT.out]; rfl, by first | exact Below.refl _ _ | exact below_q ⟨1, rfl⟩⟩
  | false =>
    go_wp2_with (go_at_call 75; refine (KM.out _).mono ?_; rintro e w1 ⟨rfl, hb1⟩; have B := Lib.hid hb1; clear hb1)
    go_ret
    exact ⟨by rw [HT.out]; rfl, B.out⟩

theorem ge_ltB (x y : Tx) : Op.bytesLess (mkB x).toList (mkB y).toList = ltB x y := by rw [Lib.toList_data, Lib.toList_data, mkB_list, mkB_list, lessT_cb]; rfl
theorem bin_geqL {p q : Tx} {b c : Bool} {w : World} (h : ltB p q = b) (hc : c = !b) : Sem.run Tryz.prog (binOp .geq 9 (.string (mkB p)) (.string (mkB q))) w = .ok (.bool c) w := by
  subst hc
  have e := ge_ltB p q
  rw [h] at e
  go_simp
theorem bin_eqL {p q : Tx} {b : Bool} {w : World} (h : decide (p = q) = b) : Sem.run Tryz.prog (binOp .eql 9 (.string (mkB p)) (.string (mkB q))) w = .ok (.bool b) w := by
  have e := mk_beq p q
  rw [h] at e
  go_simp
theorem bin_neL {p q : Tx} {b c : Bool} {w : World} (h : decide (p = q) = b) (hc : c = !b) : Sem.run Tryz.prog (binOp .neq 9 (.string (mkB p)) (.string (mkB q))) w = .ok (.bool c) w := by
  subst hc
  have e := mk_beq p q
  rw [h] at e
  go_simp
theorem bin_gt0L {k : Nat} {b : Bool} {w : World} (h : decide (0 < k) = b) : Sem.run Tryz.prog (binOp .gtr 3 (.int .i64 (k : Int)) (.int .i64 0)) w = .ok (.bool b) w := by
  subst h; go_simp
def smallC (x : Ch) : Prop := x.1.length ≤ 1000000000 ∧ x.2.1.length ≤ 1000000000 ∧ x.2.2.length ≤ 1000000000

set_option maxHeartbeats 3200000 in
theorem lfit_any (V : Value) (l : List Ch) (w : World) (h : Chs w V l) (hs : ∀ x ∈ l, smallC x) (hl : l.length ≤ 1000000) :
    Calls Tryz.prog 43 #[V] w fun e w' => e = .returned (.bool (okCs l)) ∧ Below w.heap.size w w' := by
  obtain ⟨A, c, rfl, h1, h2, -, -⟩ := h.ex
  unfold maxLen at h2
  obtain ⟨n, hn⟩ : ∃ n, l.length = n := ⟨_, rfl⟩
  rw [hn] at h1 h hl ⊢
  obtain ⟨R, hR⟩ : ∃ R, okCs l = R := ⟨_, rfl⟩
  rw [hR]
  have HR := Lib.hid (show R = chainA okCh ltC zC l from hR.symm)
  have HN := Lib.hid hn; have SU := Lib.hid h; have HS := Lib.hid hs
  clear h hn hs hR
  have e1 : ∀ args w, (callFunc 33 args).run Tryz.prog w = .ok (.enter 33 args) w := enters_of Tryz.func33 (by kernel_rfl) rfl
  have e2 : ∀ args w, (callFunc 69 args).run Tryz.prog w = .ok (.enter 69 args) w := enters_of Tryz.func69 (by kernel_rfl) rfl
  go_enter Tryz.func43, Tryz.ntmps43
  go_wp2
  go_loopw [7] (fun i wr => ∃ k : Nat, k ≤ n ∧ i = .int .i64 k ∧ Hid (∀ j, j < k → chainB okCh ltC zC l j = true) ∧ Hid (Below w.heap.size w wr)) (fun i _ => n - (intOf i).toNat)
  case atStart => exact ⟨0, Nat.zero_le _, rfl, Lib.hid fun j hj => absurd hj (Nat.not_lt_zero j), Lib.hid (Below.refl _ _)⟩
  case round =>
    obtain ⟨k, hk, rfl, HM, HB⟩ := hrel
    by_cases hlt : k < n
    · have hkl : k < l.length := by rw [HN.out]; exact hlt
      have hkb : (k : Int) < (n : Int) := by omega
      obtain ⟨b, off, rfl, -, hc0, hc1, hc2⟩ := (SU.out.below HB.out).at k hkl
      obtain ⟨m, hm⟩ : ∃ m, k - 1 = m := ⟨_, rfl⟩
      have hp0 : wr.cell? ⟨b, off + m * 3, none⟩ = some (.string (mkB (l.getD m zC).1)) := by
        obtain ⟨b', off', e, -, q, -, -⟩ := (SU.out.below HB.out).at m (by omega)
        cases e; exact q
      have hst : chainB okCh ltC zC l k = (okCh (l.getD k zC) && (decide (k = 0) || ltB (l.getD m zC).1 (l.getD k zC).1)) := by unfold chainB ltC; rw [← hm]
      have hys := HS.out _ (gd_in (z := zC) hkl)
      obtain ⟨y, hy⟩ : ∃ y, l.getD k zC = y := ⟨_, rfl⟩
      rw [hy] at hc0 hc1 hc2 hst hys
      obtain ⟨y0, y1, y2⟩ := y
      obtain ⟨x0, hx⟩ : ∃ x, (l.getD m zC).1 = x := ⟨_, rfl⟩
      rw [hx] at hp0 hst
      simp only at hc0 hc1 hc2 hst hys
      obtain ⟨ys0, ys1, ys2⟩ := hys
      simp only at ys0 ys1 ys2
      have kp := fun w => pmay_b y0 w ys0
      have k1 := fun w => lnone_any y1 w ys1
      have k2 := fun w => lnone_any y2 w ys2
      have hck : okCh (y0, y1, y2) = (pathB y0 && (okTx y1 && okTx y2 && !decide (y1 = y2))) := by unfold okCh; simp
      rw [hck] at hst
      obtain ⟨o0, ho0⟩ : ∃ o, pathB y0 = o := ⟨_, rfl⟩
      obtain ⟨o1, ho1⟩ : ∃ o, okTx y1 = o := ⟨_, rfl⟩
      obtain ⟨o2, ho2⟩ : ∃ o, okTx y2 = o := ⟨_, rfl⟩
      obtain ⟨o3, ho3⟩ : ∃ o, decide (y1 = y2) = o := ⟨_, rfl⟩
      obtain ⟨o4, ho4⟩ : ∃ o, ltB x0 y0 = o := ⟨_, rfl⟩
      rw [ho0, ho1, ho2, ho3, ho4] at hst
      rw [ho0] at kp; rw [ho1] at k1; rw [ho2] at k2
      have HST := Lib.hid hst; have HKL := Lib.hid hkl; have KP := Lib.hid kp; have K1 := Lib.hid k1; have K2 := Lib.hid k2; have HEQ := Lib.hid ho3; have HGE := Lib.hid ho4; have HMN := Lib.hid (show m < n by omega); have HKB := Lib.hid (show k ≤ 1000000 by omega)
      clear hst hkl kp k1 k2 hy hx ho0 ho1 ho2 ho3 ho4 hck ys0 ys1 ys2
      go_upto_region 4 with fail
      obtain ⟨W5, gk, hW5, hgk, c0, c1, c2, hb5⟩ := boxC1 wr (.string (mkB y0)) (.string (mkB y1)) (.string (mkB y2)) 69
      rw [hW5, hgk]
      have Q0 := Lib.hid (cell_keep hp0 hb5); have D0 := Lib.hid c0; have D1 := Lib.hid c1; have D2 := Lib.hid c2
      have HB5 := Lib.hid (below_step HB.out hb5)
      have HNW := Lib.hid (Nat.le_refl W5.heap.size)
      clear hW5 hgk hb5 hc0 hc1 hc2 hp0 c0 c1 c2 HB
      have HNO := Lib.hid (show chainB okCh ltC zC l k = false → R = false from fun q => by rw [HR.out]; exact chain_no HKL.out q)
      have HYES := Lib.hid (show chainB okCh ltC zC l k = true → ∀ j, j < k + 1 → chainB okCh ltC zC l j = true from fun q j hj => by
        rcases Nat.lt_succ_iff_lt_or_eq.1 hj with q2 | rfl
        · exact HM.out j q2
        · exact q)
      cases o0 with
      | false =>
        have HF := Lib.hid (HNO.out (by rw [HST.out]; rfl))
        refine rol_run (by kernel_rfl) [[], [0], [0, 1], [0, 1, 2], [0, 1, 2, 3], [0, 1, 2, 3, 4], [0, 1, 2, 3, 4, 5], [0, 1, 2, 3, 4, 5, 6], [0, 1, 2, 3, 4, 5, 6, 7], [0, 1, 2, 3, 4, 5, 6, 7], [0, 1, 2, 3, 4, 5, 6, 7, 9], [0, 1, 2, 3, 4, 5, 6, 7, 8, 9, 10], [0, 1, 2, 3, 4, 5, 6, 7, 8, 9, 10, 11], [0, 1, 2, 3, 4, 5, 6, 7, 8, 9, 10, 11, 12], [0, 1, 2, 3, 4, 5, 6, 7], [0, 1, 2, 3, 4, 5, 6, 7, 14], [0, 1, 2, 3, 4, 5, 6, 7, 8, 9, 10, 11, 12, 13, 14, 15], [0, 1, 2, 3, 4, 5, 6, 7, 8, 9, 10, 11, 12, 13, 14, 15, 16], [0, 1, 2, 3, 4, 5, 6, 7, 8, 9, 10, 11, 12, 13, 14, 15, 16, 17]] (by kernel_rfl) [12, 13, 14, 15, 16, 17, 18, 19, 20, 21, 22, 23, 24, 25, 26, 27, 28, 29, 30] [[], [0], [1], [2], [3], [4], [4], [4], [7], [7], [7], [7], [7], [7], [7], [7], [7], [4], [4]] [0, 0, 0, 0, 0, 0, 0, 0, 0, 0, 0, 0, 0, 0, 0, 0, 0, 0, 0] [0, 0, 0, 0, 0, 0, 0, 0, 0, 0, 0, 0, 0, 0, 0, 0, 0, 0, 0] [1000, 1000, 1000, 1000, 1000, 1000, 1000, 1000, 1000, 1000, 1000, 1000, 1000, 1000, 1000, 1000, 1000, 1000, 1000] [.val 12 (.pointer (some ⟨gk, 0, none⟩)), .val 13 (.string (mkB y0)), .val 14 (.bool false), .val 15 (.bool true), .val 16 (.bool true), .val 17 undef, .val 18 undef, .val 19 undef, .val 20 undef, .val 21 undef, .val 22 undef, .val 23 undef, .val 24 undef, .val 25 undef, .val 26 undef, .val 27 undef, .val 28 undef, .val 29 undef, .val 30 (.bool true)] (by kernel_rfl) ?_ (W5.heap.size) (W5.heap.size) rfl (Below.refl _ _) rfl (fun _ => 0) ?_ ?_ ?_
        · intro j hj
          have hj3 : j < 19 := hj
          have hj2 : j = 0 ∨ j = 1 ∨ j = 2 ∨ j = 3 ∨ j = 4 ∨ j = 5 ∨ j = 6 ∨ j = 7 ∨ j = 8 ∨ j = 9 ∨ j = 10 ∨ j = 11 ∨ j = 12 ∨ j = 13 ∨ j = 14 ∨ j = 15 ∨ j = 16 ∨ j = 17 ∨ j = 18 := by omega
          clear hj hj3
          rcases hj2 with rfl | rfl | rfl | rfl | rfl | rfl | rfl | rfl | rfl | rfl | rfl | rfl | rfl | rfl | rfl | rfl | rfl | rfl | rfl
          · exact trivial
          · exact trivial
          · exact trivial
          · exact trivial
          · exact trivial
          · exact trivial
          · exact trivial
          · exact trivial
          · exact trivial
          · exact trivial
          · exact trivial
          · exact trivial
          · exact trivial
          · exact trivial
          · exact trivial
          · exact trivial
          · exact trivial
          · exact trivial
          · exact trivial
        · intro j hj0 hj
          exact absurd hj (Nat.not_lt.2 hj0)
        · intro i hi a wx who hG hF
          have hz : a.tmps.size = 49 := hG.size
          have hi3 : i < 19 := hi
          have hi2 : i = 0 ∨ i = 1 ∨ i = 2 ∨ i = 3 ∨ i = 4 ∨ i = 5 ∨ i = 6 ∨ i = 7 ∨ i = 8 ∨ i = 9 ∨ i = 10 ∨ i = 11 ∨ i = 12 ∨ i = 13 ∨ i = 14 ∨ i = 15 ∨ i = 16 ∨ i = 17 ∨ i = 18 := by omega
          clear hi hi3
          rcases hi2 with rfl | rfl | rfl | rfl | rfl | rfl | rfl | rfl | rfl | rfl | rfl | rfl | rfl | rfl | rfl | rfl | rfl | rfl | rfl
          · exact rol_val rfl rfl rfl (by rw [hz]; decide) (ex_field rfl (eval_slot ((hG.slots 4 (by decide)).trans rfl)) (by go_simp)) hG.below
          · exact rol_val rfl rfl rfl (by rw [hz]; decide) (ex_load rfl (eval_slot (hF 0 (by decide))) (ld_strT (cell_keep D0.out hG.below))) hG.below
          · refine rol_call rfl rfl rfl (by rw [hz]; decide) (ex_call rfl (by simp [eval_slot (hF 1 (by decide))]) e1) (KP.out wx) ?_ hG.below (Nat.le_trans HNW.out hG.new)
            rintro e w1 ⟨rfl, hb1⟩
            exact ⟨_, rfl, hb1, .inl rfl⟩
          · exact rol_val rfl rfl rfl (by rw [hz]; decide) (ex_un rfl (eval_slot (hF 2 (by decide))) rfl) hG.below
          · exact rol_val rfl rfl rfl (by rw [hz]; decide) (ex_move (Or.inl rfl) (eval_slot (hF 3 (by decide)))) hG.below
          · exact rol_val_skip rfl (want_no rfl rfl (hF 4 (by decide)) (by decide)) rfl (by rw [hz]; decide) hG.below
          · exact rol_val_skip rfl (want_no rfl rfl (hF 4 (by decide)) (by decide)) rfl (by rw [hz]; decide) hG.below
          · exact rol_val_skip rfl (want_no rfl rfl (hF 4 (by decide)) (by decide)) rfl (by rw [hz]; decide) hG.below
          · exact rol_val_skip rfl (want_undef rfl rfl (hF 7 (by decide))) rfl (by rw [hz]; decide) hG.below
          · exact rol_val_skip rfl (want_undef rfl rfl (hF 7 (by decide))) rfl (by rw [hz]; decide) hG.below
          · exact rol_val_skip rfl (want_undef rfl rfl (hF 7 (by decide))) rfl (by rw [hz]; decide) hG.below
          · exact rol_val_skip rfl (want_undef rfl rfl (hF 7 (by decide))) rfl (by rw [hz]; decide) hG.below
          · exact rol_val_skip rfl (want_undef rfl rfl (hF 7 (by decide))) rfl (by rw [hz]; decide) hG.below
          · exact rol_val_skip rfl (want_undef rfl rfl (hF 7 (by decide))) rfl (by rw [hz]; decide) hG.below
          · exact rol_val_skip rfl (want_undef rfl rfl (hF 7 (by decide))) rfl (by rw [hz]; decide) hG.below
          · exact rol_val_skip rfl (want_undef rfl rfl (hF 7 (by decide))) rfl (by rw [hz]; decide) hG.below
          · exact rol_val_skip rfl (want_undef rfl rfl (hF 7 (by decide))) rfl (by rw [hz]; decide) hG.below
          · exact rol_val_skip rfl (want_no rfl rfl (hF 4 (by decide)) (by decide)) rfl (by rw [hz]; decide) hG.below
          · exact rol_val rfl rfl rfl (by rw [hz]; decide) (ex_pick_yes rfl (eval_slot (hF 4 (by decide))) rfl) hG.below
        · intro a wx who hG hF
          have fv30 : a.tmps.getD 30 undef = .bool true := eval_slot (s := 30) (hF 18 (of_decide_eq_true (by kernel_rfl)) (of_decide_eq_true (by kernel_rfl)))
          have hbx := hG.below
          have hnx := hG.new
          rw [hG.frame]
          simp only [List.foldl_cons, List.foldl_nil, List.setIfInBounds_toArray, List.set_cons_zero, List.set_cons_succ]
          generalize a.tmps.getD 12 undef = u12
          generalize a.tmps.getD 13 undef = u13
          generalize a.tmps.getD 14 undef = u14
          generalize a.tmps.getD 15 undef = u15
          generalize a.tmps.getD 16 undef = u16
          generalize a.tmps.getD 17 undef = u17
          generalize a.tmps.getD 18 undef = u18
          generalize a.tmps.getD 19 undef = u19
          generalize a.tmps.getD 20 undef = u20
          generalize a.tmps.getD 21 undef = u21
          generalize a.tmps.getD 22 undef = u22
          generalize a.tmps.getD 23 undef = u23
          generalize a.tmps.getD 24 undef = u24
          generalize a.tmps.getD 25 undef = u25
          generalize a.tmps.getD 26 undef = u26
          generalize a.tmps.getD 27 undef = u27
          generalize a.tmps.getD 28 undef = u28
          generalize a.tmps.getD 29 undef = u29
          rw [fv30]
          clear hF hG fv30
          have HB6 := Lib.hid (below_step HB5.out hbx)
          clear hbx hnx
          go_wp2
          go_ret
          exact ⟨by rw [HF.out]; rfl, HB6.out⟩
      | true =>
        by_cases h0 : k = 0
        · have HZ := Lib.hid (show decide (0 < k) = false by simp [h0])
          have HST2 := Lib.hid (show chainB okCh ltC zC l k = (o1 && o2 && !o3) by rw [HST.out, decide_eq_true h0]; simp)
          clear h0 hm
          refine rol_run (by kernel_rfl) [[], [0], [0, 1], [0, 1, 2], [0, 1, 2, 3], [0, 1, 2, 3, 4], [0, 1, 2, 3, 4, 5], [0, 1, 2, 3, 4, 5, 6], [0, 1, 2, 3, 4, 5, 6, 7], [0, 1, 2, 3, 4, 5, 6, 7], [0, 1, 2, 3, 4, 5, 6, 7, 9], [0, 1, 2, 3, 4, 5, 6, 7, 8, 9, 10], [0, 1, 2, 3, 4, 5, 6, 7, 8, 9, 10, 11], [0, 1, 2, 3, 4, 5, 6, 7, 8, 9, 10, 11, 12], [0, 1, 2, 3, 4, 5, 6, 7], [0, 1, 2, 3, 4, 5, 6, 7, 14], [0, 1, 2, 3, 4, 5, 6, 7, 8, 9, 10, 11, 12, 13, 14, 15], [0, 1, 2, 3, 4, 5, 6, 7, 8, 9, 10, 11, 12, 13, 14, 15, 16], [0, 1, 2, 3, 4, 5, 6, 7, 8, 9, 10, 11, 12, 13, 14, 15, 16, 17]] (by kernel_rfl) [12, 13, 14, 15, 16, 17, 18, 19, 20, 21, 22, 23, 24, 25, 26, 27, 28, 29, 30] [[], [0], [1], [2], [3], [4], [4, 5], [4, 6], [7], [7], [7], [7], [7], [7], [7], [7], [7], [4, 7], [4, 17]] [0, 0, 0, 0, 0, 0, 0, 0, 0, 0, 0, 0, 0, 0, 0, 0, 0, 0, 0] [0, 0, 0, 0, 0, 0, 0, 0, 0, 0, 0, 0, 0, 0, 0, 0, 0, 0, 0] [1000, 1000, 1000, 1000, 1000, 1000, 1000, 1000, 1000, 1000, 1000, 1000, 1000, 1000, 1000, 1000, 1000, 1000, 1000] [.val 12 (.pointer (some ⟨gk, 0, none⟩)), .val 13 (.string (mkB y0)), .val 14 (.bool true), .val 15 (.bool false), .val 16 (.bool false), .val 17 (.int .i64 (k : Int)), .val 18 (.bool false), .val 19 (.bool false), .val 20 undef, .val 21 undef, .val 22 undef, .val 23 undef, .val 24 undef, .val 25 undef, .val 26 undef, .val 27 undef, .val 28 undef, .val 29 (.bool false), .val 30 (.bool false)] (by kernel_rfl) ?_ (W5.heap.size) (W5.heap.size) rfl (Below.refl _ _) rfl (fun _ => 0) ?_ ?_ ?_
          · intro j hj
            have hj3 : j < 19 := hj
            have hj2 : j = 0 ∨ j = 1 ∨ j = 2 ∨ j = 3 ∨ j = 4 ∨ j = 5 ∨ j = 6 ∨ j = 7 ∨ j = 8 ∨ j = 9 ∨ j = 10 ∨ j = 11 ∨ j = 12 ∨ j = 13 ∨ j = 14 ∨ j = 15 ∨ j = 16 ∨ j = 17 ∨ j = 18 := by omega
            clear hj hj3
            rcases hj2 with rfl | rfl | rfl | rfl | rfl | rfl | rfl | rfl | rfl | rfl | rfl | rfl | rfl | rfl | rfl | rfl | rfl | rfl | rfl
            · exact trivial
            · exact trivial
            · exact trivial
            · exact trivial
            · exact trivial
            · exact trivial
            · exact trivial
            · exact trivial
            · exact trivial
            · exact trivial
            · exact trivial
            · exact trivial
            · exact trivial
            · exact trivial
            · exact trivial
            · exact trivial
            · exact trivial
            · exact trivial
            · exact trivial
          · intro j hj0 hj
            exact absurd hj (Nat.not_lt.2 hj0)
          · intro i hi a wx who hG hF
            have hz : a.tmps.size = 49 := hG.size
            have hi3 : i < 19 := hi
            have hi2 : i = 0 ∨ i = 1 ∨ i = 2 ∨ i = 3 ∨ i = 4 ∨ i = 5 ∨ i = 6 ∨ i = 7 ∨ i = 8 ∨ i = 9 ∨ i = 10 ∨ i = 11 ∨ i = 12 ∨ i = 13 ∨ i = 14 ∨ i = 15 ∨ i = 16 ∨ i = 17 ∨ i = 18 := by omega
            clear hi hi3
            rcases hi2 with rfl | rfl | rfl | rfl | rfl | rfl | rfl | rfl | rfl | rfl | rfl | rfl | rfl | rfl | rfl | rfl | rfl | rfl | rfl
            · exact rol_val rfl rfl rfl (by rw [hz]; decide) (ex_field rfl (eval_slot ((hG.slots 4 (by decide)).trans rfl)) (by go_simp)) hG.below
            · exact rol_val rfl rfl rfl (by rw [hz]; decide) (ex_load rfl (eval_slot (hF 0 (by decide))) (ld_strT (cell_keep D0.out hG.below))) hG.below
            · refine rol_call rfl rfl rfl (by rw [hz]; decide) (ex_call rfl (by simp [eval_slot (hF 1 (by decide))]) e1) (KP.out wx) ?_ hG.below (Nat.le_trans HNW.out hG.new)
              rintro e w1 ⟨rfl, hb1⟩
              exact ⟨_, rfl, hb1, .inl rfl⟩
            · exact rol_val rfl rfl rfl (by rw [hz]; decide) (ex_un rfl (eval_slot (hF 2 (by decide))) rfl) hG.below
            · exact rol_val rfl rfl rfl (by rw [hz]; decide) (ex_move (Or.inl rfl) (eval_slot (hF 3 (by decide)))) hG.below
            · exact rol_val rfl (want_yes rfl rfl (hF 4 (by decide))) rfl (by rw [hz]; decide) (ex_move (Or.inl rfl) (eval_slot ((hG.slots 3 (by decide)).trans rfl))) hG.below
            · exact rol_val rfl (want_yes rfl rfl (hF 4 (by decide))) rfl (by rw [hz]; decide) (ex_bin rfl (eval_slot (hF 5 (by decide))) rfl (by go_simp) (bin_gt0L HZ.out)) hG.below
            · exact rol_val rfl (want_yes rfl rfl (hF 4 (by decide))) rfl (by rw [hz]; decide) (ex_move (Or.inl rfl) (eval_slot (hF 6 (by decide)))) hG.below
            · exact rol_val_skip rfl (want_no rfl rfl (hF 7 (by decide)) (by decide)) rfl (by rw [hz]; decide) hG.below
            · exact rol_val_skip rfl (want_no rfl rfl (hF 7 (by decide)) (by decide)) rfl (by rw [hz]; decide) hG.below
            · exact rol_val_skip rfl (want_no rfl rfl (hF 7 (by decide)) (by decide)) rfl (by rw [hz]; decide) hG.below
            · exact rol_val_skip rfl (want_no rfl rfl (hF 7 (by decide)) (by decide)) rfl (by rw [hz]; decide) hG.below
            · exact rol_val_skip rfl (want_no rfl rfl (hF 7 (by decide)) (by decide)) rfl (by rw [hz]; decide) hG.below
            · exact rol_val_skip rfl (want_no rfl rfl (hF 7 (by decide)) (by decide)) rfl (by rw [hz]; decide) hG.below
            · exact rol_val_skip rfl (want_no rfl rfl (hF 7 (by decide)) (by decide)) rfl (by rw [hz]; decide) hG.below
            · exact rol_val_skip rfl (want_no rfl rfl (hF 7 (by decide)) (by decide)) rfl (by rw [hz]; decide) hG.below
            · exact rol_val_skip rfl (want_no rfl rfl (hF 7 (by decide)) (by decide)) rfl (by rw [hz]; decide) hG.below
            · exact rol_val rfl (want_yes rfl rfl (hF 4 (by decide))) rfl (by rw [hz]; decide) (ex_pick_no rfl (eval_slot (hF 7 (by decide))) rfl) hG.below
            · exact rol_val rfl rfl rfl (by rw [hz]; decide) (ex_pick_no rfl (eval_slot (hF 4 (by decide))) (eval_slot (hF 17 (by decide)))) hG.below
          · intro a wx who hG hF
            have fv30 : a.tmps.getD 30 undef = .bool false := eval_slot (s := 30) (hF 18 (of_decide_eq_true (by kernel_rfl)) (of_decide_eq_true (by kernel_rfl)))
            have hbx := hG.below
            have hnx := hG.new
            rw [hG.frame]
            simp only [List.foldl_cons, List.foldl_nil, List.setIfInBounds_toArray, List.set_cons_zero, List.set_cons_succ]
            generalize a.tmps.getD 12 undef = u12
            generalize a.tmps.getD 13 undef = u13
            generalize a.tmps.getD 14 undef = u14
            generalize a.tmps.getD 15 undef = u15
            generalize a.tmps.getD 16 undef = u16
            generalize a.tmps.getD 17 undef = u17
            generalize a.tmps.getD 18 undef = u18
            generalize a.tmps.getD 19 undef = u19
            generalize a.tmps.getD 20 undef = u20
            generalize a.tmps.getD 21 undef = u21
            generalize a.tmps.getD 22 undef = u22
            generalize a.tmps.getD 23 undef = u23
            generalize a.tmps.getD 24 undef = u24
            generalize a.tmps.getD 25 undef = u25
            generalize a.tmps.getD 26 undef = u26
            generalize a.tmps.getD 27 undef = u27
            generalize a.tmps.getD 28 undef = u28
            generalize a.tmps.getD 29 undef = u29
            rw [fv30]
            clear hF hG fv30
            have HB6 := Lib.hid (below_step HB5.out hbx)
            replace D1 := Lib.hid (cell_keep D1.out hbx); replace D2 := Lib.hid (cell_keep D2.out hbx)
            obtain ⟨W6, hW6⟩ : ∃ v, v = wx := ⟨_, rfl⟩
            subst hW6
            have HNW6 := Lib.hid (Nat.le_refl W6.heap.size)
            have HB9 := HB6
            clear hbx hnx HB5 HB6 HNW
            clear HNW6
            have c1 := D1.out; have c2 := D2.out
            have hpq := mk_beq y1 y2
            rw [HEQ.out] at hpq
            cases o3 with
            | true =>
              have HF := Lib.hid (HNO.out (by rw [HST2.out]; simp))
              go_wp2_with fail
              go_ret
              exact ⟨by rw [HF.out]; rfl, by first | exact HB9.out | exact below_step HB9.out (below_q ⟨1, rfl⟩)⟩
            | false =>
              cases o1 with
              | false =>
                have HF := Lib.hid (HNO.out (by rw [HST2.out]; simp))
                go_wp2_with (go_at_call 69; refine (K1.out _).mono ?_; rintro e w1 ⟨rfl, hb1⟩; replace HB9 := Lib.hid (below_step HB9.out hb1); clear hb1)
                go_ret
                exact ⟨by rw [HF.out]; rfl, HB9.out⟩
              | true =>
                cases o2 with
                | false =>
                  have HF := Lib.hid (HNO.out (by rw [HST2.out]; simp))
                  go_wp2_with (go_at_call 69; (first | (refine (K1.out _).mono ?_) | (refine (K2.out _).mono ?_)); rintro e w1 ⟨rfl, hb1⟩; replace HB9 := Lib.hid (below_step HB9.out hb1); replace c2 := cell_keep c2 hb1; clear hb1)
                  go_ret
                  exact ⟨by rw [HF.out]; rfl, HB9.out⟩
                | true =>
                  have HY2 := Lib.hid (HYES.out (by rw [HST2.out]; rfl))
                  go_wp2_with (go_at_call 69; (first | (refine (K1.out _).mono ?_) | (refine (K2.out _).mono ?_)); rintro e w1 ⟨rfl, hb1⟩; replace HB9 := Lib.hid (below_step HB9.out hb1); replace c2 := cell_keep c2 hb1; clear hb1)
                  go_roundw
                  case rel => exact ⟨k + 1, by omega, by go_num, HY2, HB9⟩
                  case measure => simp [intOf]; omega
        · have HZ := Lib.hid (show decide (0 < k) = true by simp; omega)
          have HM2 := Lib.hid (show k = m + 1 by omega)
          have HST2 := Lib.hid (show chainB okCh ltC zC l k = ((o1 && o2 && !o3) && o4) by rw [HST.out, decide_eq_false h0]; simp)
          clear h0 hm
          cases o4 with
          | false =>
            have HF := Lib.hid (HNO.out (by rw [HST2.out]; simp))
            refine rol_run (by kernel_rfl) [[], [0], [0, 1], [0, 1, 2], [0, 1, 2, 3], [0, 1, 2, 3, 4], [0, 1, 2, 3, 4, 5], [0, 1, 2, 3, 4, 5, 6], [0, 1, 2, 3, 4, 5, 6, 7], [0, 1, 2, 3, 4, 5, 6, 7], [0, 1, 2, 3, 4, 5, 6, 7, 9], [0, 1, 2, 3, 4, 5, 6, 7, 8, 9, 10], [0, 1, 2, 3, 4, 5, 6, 7, 8, 9, 10, 11], [0, 1, 2, 3, 4, 5, 6, 7, 8, 9, 10, 11, 12], [0, 1, 2, 3, 4, 5, 6, 7], [0, 1, 2, 3, 4, 5, 6, 7, 14], [0, 1, 2, 3, 4, 5, 6, 7, 8, 9, 10, 11, 12, 13, 14, 15], [0, 1, 2, 3, 4, 5, 6, 7, 8, 9, 10, 11, 12, 13, 14, 15, 16], [0, 1, 2, 3, 4, 5, 6, 7, 8, 9, 10, 11, 12, 13, 14, 15, 16, 17]] (by kernel_rfl) [12, 13, 14, 15, 16, 17, 18, 19, 20, 21, 22, 23, 24, 25, 26, 27, 28, 29, 30] [[], [0], [1], [2], [3], [4], [4, 5], [4, 6], [7], [7], [7, 9], [7, 8, 10], [7, 11], [7, 12], [7], [7, 14], [7, 13, 15], [4, 7, 16], [4, 17]] [0, 0, 0, 0, 0, 0, 0, 0, 0, 0, 0, 0, 0, 0, 0, 0, 0, 0, 0] [0, 0, 0, 0, 0, 0, 0, 0, 0, 0, 0, 0, 0, 0, 0, 0, 0, 0, 0] [1000, 1000, 1000, 1000, 1000, 1000, 1000, 1000, 1000, 1000, 1000, 1000, 1000, 1000, 1000, 1000, 1000, 1000, 1000] [.val 12 (.pointer (some ⟨gk, 0, none⟩)), .val 13 (.string (mkB y0)), .val 14 (.bool true), .val 15 (.bool false), .val 16 (.bool false), .val 17 (.int .i64 (k : Int)), .val 18 (.bool true), .val 19 (.bool true), .val 20 (.slice (some ⟨b, off, none⟩) n c), .val 21 (.int .i64 (k : Int)), .val 22 (.int .i64 (m : Int)), .val 23 (.pointer (some ⟨b, off + m * 3, none⟩)), .val 24 (.pointer (some ⟨b, off + m * 3, none⟩)), .val 25 (.string (mkB x0)), .val 26 (.pointer (some ⟨gk, 0, none⟩)), .val 27 (.string (mkB y0)), .val 28 (.bool true), .val 29 (.bool true), .val 30 (.bool true)] (by kernel_rfl) ?_ (W5.heap.size) (W5.heap.size) rfl (Below.refl _ _) rfl (fun _ => 0) ?_ ?_ ?_
            · intro j hj
              have hj3 : j < 19 := hj
              have hj2 : j = 0 ∨ j = 1 ∨ j = 2 ∨ j = 3 ∨ j = 4 ∨ j = 5 ∨ j = 6 ∨ j = 7 ∨ j = 8 ∨ j = 9 ∨ j = 10 ∨ j = 11 ∨ j = 12 ∨ j = 13 ∨ j = 14 ∨ j = 15 ∨ j = 16 ∨ j = 17 ∨ j = 18 := by omega
              clear hj hj3
              rcases hj2 with rfl | rfl | rfl | rfl | rfl | rfl | rfl | rfl | rfl | rfl | rfl | rfl | rfl | rfl | rfl | rfl | rfl | rfl | rfl
              · exact trivial
              · exact trivial
              · exact trivial
              · exact trivial
              · exact trivial
              · exact trivial
              · exact trivial
              · exact trivial
              · exact trivial
              · exact trivial
              · exact trivial
              · exact trivial
              · exact trivial
              · exact trivial
              · exact trivial
              · exact trivial
              · exact trivial
              · exact trivial
              · exact trivial
            · intro j hj0 hj
              exact absurd hj (Nat.not_lt.2 hj0)
            · intro i hi a wx who hG hF
              have hz : a.tmps.size = 49 := hG.size
              have hi3 : i < 19 := hi
              have hi2 : i = 0 ∨ i = 1 ∨ i = 2 ∨ i = 3 ∨ i = 4 ∨ i = 5 ∨ i = 6 ∨ i = 7 ∨ i = 8 ∨ i = 9 ∨ i = 10 ∨ i = 11 ∨ i = 12 ∨ i = 13 ∨ i = 14 ∨ i = 15 ∨ i = 16 ∨ i = 17 ∨ i = 18 := by omega
              clear hi hi3
              rcases hi2 with rfl | rfl | rfl | rfl | rfl | rfl | rfl | rfl | rfl | rfl | rfl | rfl | rfl | rfl | rfl | rfl | rfl | rfl | rfl
              · exact rol_val rfl rfl rfl (by rw [hz]; decide) (ex_field rfl (eval_slot ((hG.slots 4 (by decide)).trans rfl)) (by go_simp)) hG.below
              · exact rol_val rfl rfl rfl (by rw [hz]; decide) (ex_load rfl (eval_slot (hF 0 (by decide))) (ld_strT (cell_keep D0.out hG.below))) hG.below
              · refine rol_call rfl rfl rfl (by rw [hz]; decide) (ex_call rfl (by simp [eval_slot (hF 1 (by decide))]) e1) (KP.out wx) ?_ hG.below (Nat.le_trans HNW.out hG.new)
                rintro e w1 ⟨rfl, hb1⟩
                exact ⟨_, rfl, hb1, .inl rfl⟩
              · exact rol_val rfl rfl rfl (by rw [hz]; decide) (ex_un rfl (eval_slot (hF 2 (by decide))) rfl) hG.below
              · exact rol_val rfl rfl rfl (by rw [hz]; decide) (ex_move (Or.inl rfl) (eval_slot (hF 3 (by decide)))) hG.below
              · exact rol_val rfl (want_yes rfl rfl (hF 4 (by decide))) rfl (by rw [hz]; decide) (ex_move (Or.inl rfl) (eval_slot ((hG.slots 3 (by decide)).trans rfl))) hG.below
              · exact rol_val rfl (want_yes rfl rfl (hF 4 (by decide))) rfl (by rw [hz]; decide) (ex_bin rfl (eval_slot (hF 5 (by decide))) rfl (by go_simp) (bin_gt0L HZ.out)) hG.below
              · exact rol_val rfl (want_yes rfl rfl (hF 4 (by decide))) rfl (by rw [hz]; decide) (ex_move (Or.inl rfl) (eval_slot (hF 6 (by decide)))) hG.below
              · exact rol_val rfl (want_yes rfl rfl (hF 7 (by decide))) rfl (by rw [hz]; decide) (ex_move (Or.inl rfl) (eval_slot ((hG.slots 0 (by decide)).trans rfl))) hG.below
              · exact rol_val rfl (want_yes rfl rfl (hF 7 (by decide))) rfl (by rw [hz]; decide) (ex_move (Or.inl rfl) (eval_slot ((hG.slots 3 (by decide)).trans rfl))) hG.below
              · exact rol_val rfl (want_yes rfl rfl (hF 7 (by decide))) rfl (by rw [hz]; decide) (ex_bin rfl (eval_slot (hF 9 (by decide))) rfl (by go_simp) (bin_sub1 HM2.out HKB.out)) hG.below
              · exact rol_val rfl (want_yes rfl rfl (hF 7 (by decide))) rfl (by rw [hz]; decide) (ex_index rfl (eval_slot (hF 8 (by decide))) (eval_slot (hF 10 (by decide))) (idx_ch HMN.out)) hG.below
              · exact rol_val rfl (want_yes rfl rfl (hF 7 (by decide))) rfl (by rw [hz]; decide) (ex_field rfl (eval_slot (hF 11 (by decide))) (by go_simp)) hG.below
              · exact rol_val rfl (want_yes rfl rfl (hF 7 (by decide))) rfl (by rw [hz]; decide) (ex_load rfl (eval_slot (hF 12 (by decide))) (ld_strT (cell_keep Q0.out hG.below))) hG.below
              · exact rol_val rfl (want_yes rfl rfl (hF 7 (by decide))) rfl (by rw [hz]; decide) (ex_field rfl (eval_slot ((hG.slots 4 (by decide)).trans rfl)) (by go_simp)) hG.below
              · exact rol_val rfl (want_yes rfl rfl (hF 7 (by decide))) rfl (by rw [hz]; decide) (ex_load rfl (eval_slot (hF 14 (by decide))) (ld_strT (cell_keep D0.out hG.below))) hG.below
              · exact rol_val rfl (want_yes rfl rfl (hF 7 (by decide))) rfl (by rw [hz]; decide) (ex_bin rfl (eval_slot (hF 13 (by decide))) (eval_slot (hF 15 (by decide))) (by go_simp) (bin_geqL HGE.out rfl)) hG.below
              · exact rol_val rfl (want_yes rfl rfl (hF 4 (by decide))) rfl (by rw [hz]; decide) (ex_pick_yes rfl (eval_slot (hF 7 (by decide))) (eval_slot (hF 16 (by decide)))) hG.below
              · exact rol_val rfl rfl rfl (by rw [hz]; decide) (ex_pick_no rfl (eval_slot (hF 4 (by decide))) (eval_slot (hF 17 (by decide)))) hG.below
            · intro a wx who hG hF
              have fv30 : a.tmps.getD 30 undef = .bool true := eval_slot (s := 30) (hF 18 (of_decide_eq_true (by kernel_rfl)) (of_decide_eq_true (by kernel_rfl)))
              have hbx := hG.below
              have hnx := hG.new
              rw [hG.frame]
              simp only [List.foldl_cons, List.foldl_nil, List.setIfInBounds_toArray, List.set_cons_zero, List.set_cons_succ]
              generalize a.tmps.getD 12 undef = u12
              generalize a.tmps.getD 13 undef = u13
              generalize a.tmps.getD 14 undef = u14
              generalize a.tmps.getD 15 undef = u15
              generalize a.tmps.getD 16 undef = u16
              generalize a.tmps.getD 17 undef = u17
              generalize a.tmps.getD 18 undef = u18
              generalize a.tmps.getD 19 undef = u19
              generalize a.tmps.getD 20 undef = u20
              generalize a.tmps.getD 21 undef = u21
              generalize a.tmps.getD 22 undef = u22
              generalize a.tmps.getD 23 undef = u23
              generalize a.tmps.getD 24 undef = u24
              generalize a.tmps.getD 25 undef = u25
              generalize a.tmps.getD 26 undef = u26
              generalize a.tmps.getD 27 undef = u27
              generalize a.tmps.getD 28 undef = u28
              generalize a.tmps.getD 29 undef = u29
              rw [fv30]
              clear hF hG fv30
              have HB6 := Lib.hid (below_step HB5.out hbx)
              clear hbx hnx
              go_wp2
              go_ret
              exact ⟨by rw [HF.out]; rfl, HB6.out⟩
          | true =>
            refine rol_run (by kernel_rfl) [[], [0], [0, 1], [0, 1, 2], [0, 1, 2, 3], [0, 1, 2, 3, 4], [0, 1, 2, 3, 4, 5], [0, 1, 2, 3, 4, 5, 6], [0, 1, 2, 3, 4, 5, 6, 7], [0, 1, 2, 3, 4, 5, 6, 7], [0, 1, 2, 3, 4, 5, 6, 7, 9], [0, 1, 2, 3, 4, 5, 6, 7, 8, 9, 10], [0, 1, 2, 3, 4, 5, 6, 7, 8, 9, 10, 11], [0, 1, 2, 3, 4, 5, 6, 7, 8, 9, 10, 11, 12], [0, 1, 2, 3, 4, 5, 6, 7], [0, 1, 2, 3, 4, 5, 6, 7, 14], [0, 1, 2, 3, 4, 5, 6, 7, 8, 9, 10, 11, 12, 13, 14, 15], [0, 1, 2, 3, 4, 5, 6, 7, 8, 9, 10, 11, 12, 13, 14, 15, 16], [0, 1, 2, 3, 4, 5, 6, 7, 8, 9, 10, 11, 12, 13, 14, 15, 16, 17]] (by kernel_rfl) [12, 13, 14, 15, 16, 17, 18, 19, 20, 21, 22, 23, 24, 25, 26, 27, 28, 29, 30] [[], [0], [1], [2], [3], [4], [4, 5], [4, 6], [7], [7], [7, 9], [7, 8, 10], [7, 11], [7, 12], [7], [7, 14], [7, 13, 15], [4, 7, 16], [4, 17]] [0, 0, 0, 0, 0, 0, 0, 0, 0, 0, 0, 0, 0, 0, 0, 0, 0, 0, 0] [0, 0, 0, 0, 0, 0, 0, 0, 0, 0, 0, 0, 0, 0, 0, 0, 0, 0, 0] [1000, 1000, 1000, 1000, 1000, 1000, 1000, 1000, 1000, 1000, 1000, 1000, 1000, 1000, 1000, 1000, 1000, 1000, 1000] [.val 12 (.pointer (some ⟨gk, 0, none⟩)), .val 13 (.string (mkB y0)), .val 14 (.bool true), .val 15 (.bool false), .val 16 (.bool false), .val 17 (.int .i64 (k : Int)), .val 18 (.bool true), .val 19 (.bool true), .val 20 (.slice (some ⟨b, off, none⟩) n c), .val 21 (.int .i64 (k : Int)), .val 22 (.int .i64 (m : Int)), .val 23 (.pointer (some ⟨b, off + m * 3, none⟩)), .val 24 (.pointer (some ⟨b, off + m * 3, none⟩)), .val 25 (.string (mkB x0)), .val 26 (.pointer (some ⟨gk, 0, none⟩)), .val 27 (.string (mkB y0)), .val 28 (.bool false), .val 29 (.bool false), .val 30 (.bool false)] (by kernel_rfl) ?_ (W5.heap.size) (W5.heap.size) rfl (Below.refl _ _) rfl (fun _ => 0) ?_ ?_ ?_
            · intro j hj
              have hj3 : j < 19 := hj
              have hj2 : j = 0 ∨ j = 1 ∨ j = 2 ∨ j = 3 ∨ j = 4 ∨ j = 5 ∨ j = 6 ∨ j = 7 ∨ j = 8 ∨ j = 9 ∨ j = 10 ∨ j = 11 ∨ j = 12 ∨ j = 13 ∨ j = 14 ∨ j = 15 ∨ j = 16 ∨ j = 17 ∨ j = 18 := by omega
              clear hj hj3
              rcases hj2 with rfl | rfl | rfl | rfl | rfl | rfl | rfl | rfl | rfl | rfl | rfl | rfl | rfl | rfl | rfl | rfl | rfl | rfl | rfl
              · exact trivial
              · exact trivial
              · exact trivial
              · exact trivial
              · exact trivial
              · exact trivial
              · exact trivial
              · exact trivial
              · exact trivial
              · exact trivial
              · exact trivial
              · exact trivial
              · exact trivial
              · exact trivial
              · exact trivial
              · exact trivial
              · exact trivial
              · exact trivial
              · exact trivial
            · intro j hj0 hj
              exact absurd hj (Nat.not_lt.2 hj0)
            · intro i hi a wx who hG hF
              have hz : a.tmps.size = 49 := hG.size
              have hi3 : i < 19 := hi
              have hi2 : i = 0 ∨ i = 1 ∨ i = 2 ∨ i = 3 ∨ i = 4 ∨ i = 5 ∨ i = 6 ∨ i = 7 ∨ i = 8 ∨ i = 9 ∨ i = 10 ∨ i = 11 ∨ i = 12 ∨ i = 13 ∨ i = 14 ∨ i = 15 ∨ i = 16 ∨ i = 17 ∨ i = 18 := by omega
              clear hi hi3
              rcases hi2 with rfl | rfl | rfl | rfl | rfl | rfl | rfl | rfl | rfl | rfl | rfl | rfl | rfl | rfl | rfl | rfl | rfl | rfl | rfl
              · exact rol_val rfl rfl rfl (by rw [hz]; decide) (ex_field rfl (eval_slot ((hG.slots 4 (by decide)).trans rfl)) (by go_simp)) hG.below
              · exact rol_val rfl rfl rfl (by rw [hz]; decide) (ex_load rfl (eval_slot (hF 0 (by decide))) (ld_strT (cell_keep D0.out hG.below))) hG.below
              · refine rol_call rfl rfl rfl (by rw [hz]; decide) (ex_call rfl (by simp [eval_slot (hF 1 (by decide))]) e1) (KP.out wx) ?_ hG.below (Nat.le_trans HNW.out hG.new)
                rintro e w1 ⟨rfl, hb1⟩
                exact ⟨_, rfl, hb1, .inl rfl⟩
              · exact rol_val rfl rfl rfl (by rw [hz]; decide) (ex_un rfl (eval_slot (hF 2 (by decide))) rfl) hG.below
              · exact rol_val rfl rfl rfl (by rw [hz]; decide) (ex_move (Or.inl rfl) (eval_slot (hF 3 (by decide)))) hG.below
              · exact rol_val rfl (want_yes rfl rfl (hF 4 (by decide))) rfl (by rw [hz]; decide) (ex_move (Or.inl rfl) (eval_slot ((hG.slots 3 (by decide)).trans rfl))) hG.below
              · exact rol_val rfl (want_yes rfl rfl (hF 4 (by decide))) rfl (by rw [hz]; decide) (ex_bin rfl (eval_slot (hF 5 (by decide))) rfl (by go_simp) (bin_gt0L HZ.out)) hG.below
              · exact rol_val rfl (want_yes rfl rfl (hF 4 (by decide))) rfl (by rw [hz]; decide) (ex_move (Or.inl rfl) (eval_slot (hF 6 (by decide)))) hG.below
              · exact rol_val rfl (want_yes rfl rfl (hF 7 (by decide))) rfl (by rw [hz]; decide) (ex_move (Or.inl rfl) (eval_slot ((hG.slots 0 (by decide)).trans rfl))) hG.below
              · exact rol_val rfl (want_yes rfl rfl (hF 7 (by decide))) rfl (by rw [hz]; decide) (ex_move (Or.inl rfl) (eval_slot ((hG.slots 3 (by decide)).trans rfl))) hG.below
              · exact rol_val rfl (want_yes rfl rfl (hF 7 (by decide))) rfl (by rw [hz]; decide) (ex_bin rfl (eval_slot (hF 9 (by decide))) rfl (by go_simp) (bin_sub1 HM2.out HKB.out)) hG.below
              · exact rol_val rfl (want_yes rfl rfl (hF 7 (by decide))) rfl (by rw [hz]; decide) (ex_index rfl (eval_slot (hF 8 (by decide))) (eval_slot (hF 10 (by decide))) (idx_ch HMN.out)) hG.below
              · exact rol_val rfl (want_yes rfl rfl (hF 7 (by decide))) rfl (by rw [hz]; decide) (ex_field rfl (eval_slot (hF 11 (by decide))) (by go_simp)) hG.below
              · exact rol_val rfl (want_yes rfl rfl (hF 7 (by decide))) rfl (by rw [hz]; decide) (ex_load rfl (eval_slot (hF 12 (by decide))) (ld_strT (cell_keep Q0.out hG.below))) hG.below
              · exact rol_val rfl (want_yes rfl rfl (hF 7 (by decide))) rfl (by rw [hz]; decide) (ex_field rfl (eval_slot ((hG.slots 4 (by decide)).trans rfl)) (by go_simp)) hG.below
              · exact rol_val rfl (want_yes rfl rfl (hF 7 (by decide))) rfl (by rw [hz]; decide) (ex_load rfl (eval_slot (hF 14 (by decide))) (ld_strT (cell_keep D0.out hG.below))) hG.below
              · exact rol_val rfl (want_yes rfl rfl (hF 7 (by decide))) rfl (by rw [hz]; decide) (ex_bin rfl (eval_slot (hF 13 (by decide))) (eval_slot (hF 15 (by decide))) (by go_simp) (bin_geqL HGE.out rfl)) hG.below
              · exact rol_val rfl (want_yes rfl rfl (hF 4 (by decide))) rfl (by rw [hz]; decide) (ex_pick_yes rfl (eval_slot (hF 7 (by decide))) (eval_slot (hF 16 (by decide)))) hG.below
              · exact rol_val rfl rfl rfl (by rw [hz]; decide) (ex_pick_no rfl (eval_slot (hF 4 (by decide))) (eval_slot (hF 17 (by decide)))) hG.below
            · intro a wx who hG hF
              have fv30 : a.tmps.getD 30 undef = .bool false := eval_slot (s := 30) (hF 18 (of_decide_eq_true (by kernel_rfl)) (of_decide_eq_true (by kernel_rfl)))
              have hbx := hG.below
              have hnx := hG.new
              rw [hG.frame]
              simp only [List.foldl_cons, List.foldl_nil, List.setIfInBounds_toArray, List.set_cons_zero, List.set_cons_succ]
              generalize a.tmps.getD 12 undef = u12
              generalize a.tmps.getD 13 undef = u13
              generalize a.tmps.getD 14 undef = u14
              generalize a.tmps.getD 15 undef = u15
              generalize a.tmps.getD 16 undef = u16
              generalize a.tmps.getD 17 undef = u17
              generalize a.tmps.getD 18 undef = u18
              generalize a.tmps.getD 19 undef = u19
              generalize a.tmps.getD 20 undef = u20
              generalize a.tmps.getD 21 undef = u21
              generalize a.tmps.getD 22 undef = u22
              generalize a.tmps.getD 23 undef = u23
              generalize a.tmps.getD 24 undef = u24
              generalize a.tmps.getD 25 undef = u25
              generalize a.tmps.getD 26 undef = u26
              generalize a.tmps.getD 27 undef = u27
              generalize a.tmps.getD 28 undef = u28
              generalize a.tmps.getD 29 undef = u29
              rw [fv30]
              clear hF hG fv30
              have HB6 := Lib.hid (below_step HB5.out hbx)
              replace D1 := Lib.hid (cell_keep D1.out hbx); replace D2 := Lib.hid (cell_keep D2.out hbx)
              obtain ⟨W6, hW6⟩ : ∃ v, v = wx := ⟨_, rfl⟩
              subst hW6
              have HNW6 := Lib.hid (Nat.le_refl W6.heap.size)
              have HB9 := HB6
              clear hbx hnx HB5 HB6 HNW
              clear HNW6
              have c1 := D1.out; have c2 := D2.out
              have hpq := mk_beq y1 y2
              rw [HEQ.out] at hpq
              cases o3 with
              | true =>
                have HF := Lib.hid (HNO.out (by rw [HST2.out]; simp))
                go_wp2_with fail
                go_ret
                exact ⟨by rw [HF.out]; rfl, by first | exact HB9.out | exact below_step HB9.out (below_q ⟨1, rfl⟩)⟩
              | false =>
                cases o1 with
                | false =>
                  have HF := Lib.hid (HNO.out (by rw [HST2.out]; simp))
                  go_wp2_with (go_at_call 69; refine (K1.out _).mono ?_; rintro e w1 ⟨rfl, hb1⟩; replace HB9 := Lib.hid (below_step HB9.out hb1); clear hb1)
                  go_ret
                  exact ⟨by rw [HF.out]; rfl, HB9.out⟩
                | true =>
                  cases o2 with
                  | false =>
                    have HF := Lib.hid (HNO.out (by rw [HST2.out]; simp))
                    go_wp2_with (go_at_call 69; (first | (refine (K1.out _).mono ?_) | (refine (K2.out _).mono ?_)); rintro e w1 ⟨rfl, hb1⟩; replace HB9 := Lib.hid (below_step HB9.out hb1); replace c2 := cell_keep c2 hb1; clear hb1)
                    go_ret
                    exact ⟨by rw [HF.out]; rfl, HB9.out⟩
                  | true =>
                    have HY2 := Lib.hid (HYES.out (by rw [HST2.out]; rfl))
                    go_wp2_with (go_at_call 69; (first | (refine (K1.out _).mono ?_) | (refine (K2.out _).mono ?_)); rintro e w1 ⟨rfl, hb1⟩; replace HB9 := Lib.hid (below_step HB9.out hb1); replace c2 := cell_keep c2 hb1; clear hb1)
                    go_roundw
                    case rel => exact ⟨k + 1, by omega, by go_num, HY2, HB9⟩
                    case measure => simp [intOf]; omega
    · have e : k = n := by omega
      subst e
      have hyes : chainA okCh ltC zC l = true := chain_yes fun j hj => HM.out j (by rw [← HN.out]; exact hj)
      have HT := Lib.hid (show R = true by rw [HR.out, hyes])
      clear hyes
      go_wp2
      go_ret
      exact ⟨by rw [HT.out]; rfl, HB.out⟩
end Go.Proofs.YtlbibgofhhdgoaaGreat
