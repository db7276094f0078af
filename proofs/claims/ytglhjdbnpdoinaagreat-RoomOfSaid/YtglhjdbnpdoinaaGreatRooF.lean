/- THE TEXTS OF RooM RooA RooB RooC RooD RooE RooF: What there is: manifests, edges, and how often each node is spoken of: plain facts. Lists of edits: are two the same, is any below none, a copy; a copy of nodes. What there is, in memory: may it be; what a manifest speaks of; what a change comes to: of the program. What a change of what there is comes to: of the program. Use as what a region's operations leave; a manifest more, and less, a root requirement more, and less: of the program. A root requirement more, and less; are two the same; what fits: of the program, and of the document. Lists of lists of nodes; the use of manifests and root requirements: of the program. -/
import Derived.Test.YtglhjdbnpdoinaaGreatDifM
import Derived.Test.YtglhjdbnpdoinaaGreatDifO
import Derived.Test.YtglhjdbnpdoinaaGreatDifT
namespace Go.Proofs.YtglhjdbnpdoinaaGreat
set_option linter.unusedVariables false
set_option maxRecDepth 100000

/-- No fewer than none, no more than may be. -/
def inU (z : Int) : Bool := decide (0 ≤ z) && decide (z ≤ 1099511627776)
theorem inU_iff {z : Int} : inU z = true ↔ 0 ≤ z ∧ z ≤ 1099511627776 := by unfold inU; simp
def posD (l : List De) : Bool := l.all fun e => decide (0 ≤ e.2)
theorem posD_iff {l : List De} : posD l = true ↔ ∀ e ∈ l, 0 ≤ e.2 := by unfold posD; rw [List.all_eq_true]; simp
/-- Use may be: m manifests, e edges, s how often nodes are spoken of. -/
def okU (m e : Int) (s : List De) : Bool := inU m && inU e && posD s && okD s
theorem okU_parts {m e : Int} {s : List De} (h : okU m e s = true) : inU m = true ∧ inU e = true ∧ posD s = true ∧ okD s = true := by unfold okU at h; simpa [and_assoc] using h
theorem okU_of {m e : Int} {s : List De} (h1 : inU m = true) (h2 : inU e = true) (h3 : posD s = true) (h4 : okD s = true) : okU m e s = true := by unfold okU; rw [h1, h2, h3, h4]; rfl
def chkU (m e : Int) (s : List De) : Int := if okU m e s = true then 0 else 1
theorem chkU_yes {m e : Int} {s : List De} (h : okU m e s = true) : chkU m e s = 0 := by unfold chkU; rw [if_pos h]
theorem chkU_no {m e : Int} {s : List De} (h : okU m e s = false) : chkU m e s = 1 := by unfold chkU; rw [if_neg (by rw [h]; simp)]
/-- What a change answers: use, and the error. -/
structure Us where
  m : Int
  e : Int
  s : List De
abbrev U0 : Us := ⟨0, 0, []⟩
def Us.ok (u : Us) : Bool := okU u.m u.e u.s
def toU (u : Us) (k : Int) (old now : List Nd) : Us := ⟨u.m + k, u.e + ((now.length : Int) - old.length - k), mergeD u.s (difL old now)⟩
def chgE (u : Us) (k : Int) (old now : List Nd) : Us × Int :=
  if (u.ok && (allN2 old && allN2 now)) = true then if (toU u k old now).ok = true then (toU u k old now, 0) else (u, if old = [] then 4 else 2) else (u, 1)
theorem chgE_no {u : Us} {k : Int} {old now : List Nd} (h : (u.ok && (allN2 old && allN2 now)) = false) : chgE u k old now = (u, 1) := by unfold chgE; rw [if_neg (by rw [h]; simp)]
theorem chgE_yes {u : Us} {k : Int} {old now : List Nd} (h : (u.ok && (allN2 old && allN2 now)) = true) (h2 : (toU u k old now).ok = true) : chgE u k old now = (toU u k old now, 0) := by unfold chgE; rw [if_pos h, if_pos h2]
theorem chgE_far {u : Us} {k : Int} {old now : List Nd} (h : (u.ok && (allN2 old && allN2 now)) = true) (h2 : (toU u k old now).ok = false) : chgE u k old now = (u, if old = [] then 4 else 2) := by unfold chgE; rw [if_pos h, if_neg (by rw [h2]; simp)]
theorem ok_ranges {u : Us} (h : u.ok = true) : 0 ≤ u.m ∧ u.m ≤ 1099511627776 ∧ 0 ≤ u.e ∧ u.e ≤ 1099511627776 := by
  obtain ⟨h1, h2, -, -⟩ := okU_parts h
  rw [inU_iff] at h1 h2
  omega

/-! ### By how many, of lists that have the same -/
theorem difL_perm {a b c d : List Nd} (h1 : ∀ n ∈ a ++ b, okN n = true) (h2 : ∀ n ∈ c ++ d, okN n = true) (h : ∀ n, difF a b n = difF c d n) : difL a b = difL c d :=
  dif_is h1 (dif_rise _ _) (dif_nz _ _) fun n => by rw [dif_by h2, h]
theorem cntN_cons (x : Nd) (l : List Nd) (n : Nd) : cntN (x :: l) n = cntN l n + if x = n then 1 else 0 := by
  unfold cntN
  rw [List.count_cons]
  simp
theorem cntN_nil (n : Nd) : cntN [] n = 0 := rfl
/-- Use of so many manifests, so many edges, and these nodes spoken of. -/
def usL (m e : Int) (l : List Nd) : Us := ⟨m, e, difL [] l⟩
theorem pos_dif {l : List Nd} : posD (difL [] l) = true := posD_iff.2 fun e he => by
  have h := (mkD_mem.1 he).2.1
  unfold difF at h
  rw [cntN_nil] at h
  omega
theorem usL_ok {m e : Int} {l : List Nd} (h : ∀ n ∈ l, okN n = true) (hl : l.length ≤ 1000000) (h1 : inU m = true) (h2 : inU e = true) : (usL m e l).ok = true :=
  okU_of h1 h2 pos_dif (dif_okD (by simpa using h) (by simp) hl)
theorem usL_eq {m e : Int} {l k : List Nd} (h1 : ∀ n ∈ l, okN n = true) (h2 : ∀ n ∈ k, okN n = true) (h : ∀ n, cntN l n = cntN k n) : usL m e l = usL m e k := by
  unfold usL
  rw [difL_perm (a := []) (b := l) (c := []) (d := k) (by simpa using h1) (by simpa using h2) fun n => by unfold difF; rw [h]]
theorem U0_usL : U0 = usL 0 0 [] := rfl
/-- More nodes are spoken of. -/
theorem to_more {m e k : Int} {l now : List Nd} (h1 : ∀ n ∈ l, okN n = true) (h2 : ∀ n ∈ now, okN n = true) (b1 : l.length ≤ 500000) (b2 : now.length ≤ 500000) : toU (usL m e l) k [] now = usL (m + k) (e + ((now.length : Int) - k)) (l ++ now) := by
  have h0 : ∀ n ∈ ([] : List Nd), okN n = true := fun n hn => by cases hn
  unfold toU usL
  have e1 := dif_more h1 h2
  have e2 := dif_via h0 (fun n hn => (List.mem_append.1 hn).elim (h1 n) (h2 n)) h1 (by simp) (by rw [List.length_append]; omega) (by omega) (mid := l) (now := l ++ now)
  rw [e1] at e2
  rw [e2]
  simp
theorem chg_more {m e k : Int} {l now : List Nd} (h1 : ∀ n ∈ l, okN n = true) (h2 : ∀ n ∈ now, okN n = true) (b1 : l.length ≤ 500000) (b2 : now.length ≤ 500000) (i1 : inU m = true) (i2 : inU e = true) (i3 : inU (m + k) = true) (i4 : inU (e + ((now.length : Int) - k)) = true) :
    chgE (usL m e l) k [] now = (usL (m + k) (e + ((now.length : Int) - k)) (l ++ now), 0) := by
  have ho := usL_ok h1 (by omega) i1 i2
  have hn : ∀ n ∈ l ++ now, okN n = true := fun n hn => (List.mem_append.1 hn).elim (h1 n) (h2 n)
  rw [chgE_yes (by rw [ho, allN2_iff.2 h2]; rfl) (by rw [to_more h1 h2 b1 b2]; exact usL_ok hn (by rw [List.length_append]; omega) i3 i4), to_more h1 h2 b1 b2]
/-- Nodes that are there are spoken of less. -/
theorem to_less {m e k : Int} {l old : List Nd} (h1 : ∀ n ∈ l, okN n = true) (h2 : ∀ n ∈ old, okN n = true) (b1 : l.length ≤ 500000) (b2 : old.length ≤ 500000) : toU (usL m e (old ++ l)) k old [] = usL (m + k) (e + (0 - (old.length : Int) - k)) l := by
  have h0 : ∀ n ∈ ([] : List Nd), okN n = true := fun n hn => by cases hn
  have hn : ∀ n ∈ old ++ l, okN n = true := fun n hn => (List.mem_append.1 hn).elim (h2 n) (h1 n)
  unfold toU usL
  have e2 : mergeD (difL [] (old ++ l)) (difL old []) = difL [] l := merge_is (dif_okD (by simpa using hn) (by simp) (by rw [List.length_append]; omega)) (dif_okD (by simpa using h2) (by omega) (by simp)) (dif_rise _ _) (dif_nz _ _) fun n => by
    rw [dif_by (by simpa using h1), dif_by (by simpa using hn), dif_by (by simpa using h2)]
    unfold difF
    rw [cntN_app, cntN_nil]
    omega
  rw [e2]
  simp
theorem chg_less {m e k : Int} {l old : List Nd} (h1 : ∀ n ∈ l, okN n = true) (h2 : ∀ n ∈ old, okN n = true) (b1 : l.length ≤ 500000) (b2 : old.length ≤ 500000) (i1 : inU m = true) (i2 : inU e = true) (i3 : inU (m + k) = true) (i4 : inU (e + (0 - (old.length : Int) - k)) = true) :
    chgE (usL m e (old ++ l)) k old [] = (usL (m + k) (e + (0 - (old.length : Int) - k)) l, 0) := by
  have hn : ∀ n ∈ old ++ l, okN n = true := fun n hn => (List.mem_append.1 hn).elim (h2 n) (h1 n)
  have ho := usL_ok hn (by rw [List.length_append]; omega) i1 i2
  rw [chgE_yes (by rw [ho, allN2_iff.2 h2]; rfl) (by rw [to_less h1 h2 b1 b2]; exact usL_ok h1 (by omega) i3 i4), to_less h1 h2 b1 b2]

/-! ### What fits -/
/-- Limits: a text's length, manifests, nodes, edges. -/
structure Li where
  t : Int
  m : Int
  n : Int
  e : Int
def fitU (l : Li) (u : Us) : Int := if l.m < u.m then 8 else if l.n < u.s.length then 9 else if l.e < u.e then 10 else 0
def fitE (l : Li) (u : Us) : Int := if u.ok = true then fitU l u else 1
theorem fitE_yes {l : Li} {u : Us} (h : u.ok = true) : fitE l u = fitU l u := by unfold fitE; rw [if_pos h]
theorem fitE_no {l : Li} {u : Us} (h : u.ok = false) : fitE l u = 1 := by unfold fitE; rw [if_neg (by rw [h]; simp)]
theorem fit_0 {l : Li} {u : Us} : fitU l u = 0 ↔ u.m ≤ l.m ∧ (u.s.length : Int) ≤ l.n ∧ u.e ≤ l.e := by
  unfold fitU
  split
  · rename_i h; constructor
    · intro k; cases k
    · intro k; omega
  · split
    · rename_i h; constructor
      · intro k; cases k
      · intro k; omega
    · split
      · rename_i h; constructor
        · intro k; cases k
        · intro k; omega
      · constructor
        · intro _; omega
        · intro _; rfl
theorem fit_up {l k : Li} {u : Us} (h : fitU l u = 0) (h1 : l.m ≤ k.m) (h2 : l.n ≤ k.n) (h3 : l.e ≤ k.e) : fitU k u = 0 := by
  rw [fit_0] at h ⊢; omega
theorem fit_down {l : Li} {u v : Us} (h : fitU l u ≠ 0) (h1 : u.m ≤ v.m) (h2 : u.s.length ≤ v.s.length) (h3 : u.e ≤ v.e) : fitU l v ≠ 0 := by
  intro k; apply h; rw [fit_0] at k ⊢; omega

/-! ### One node more -/
theorem merge_one (z : Int) (hz : 0 < z) (n : Nd) (o : okN n = true) : ∀ (s : List De), (∀ e ∈ s, okN e.1 = true) → Rises (keyD s) → (∀ e ∈ s, 0 ≤ e.2) → (mergeD s [(n, z)]).length = s.length + if n ∈ keyD s then 0 else 1
  | [], _, _, _ => by rw [merge_nilL]; simp
  | x :: a, oa, hr, hp => by
    obtain ⟨h1, h2, h3⟩ := rises_cons hr
    have ih := merge_one z hz n o a (fun e he => oa e (List.mem_cons_of_mem _ he)) h1 (fun e he => hp e (List.mem_cons_of_mem _ he))
    rcases ltN_tri (oa x List.mem_cons_self) o with k | k | k
    · rw [merge_l k, List.length_cons, ih, List.length_cons]
      have hne : ¬ n = x.1 := fun q => by rw [q, ltN_irrefl] at k; cases k
      rw [keyD_cons]
      simp only [List.mem_cons, hne, false_or]
      omega
    · have hp0 := hp x List.mem_cons_self
      rw [merge_1 k (show x.2 + z ≠ 0 by omega), merge_nil]
      simp [k]
    · rw [merge_r k, merge_nil]
      have hne : ¬ n ∈ keyD (x :: a) := by
        rw [keyD_cons, List.mem_cons]
        rintro (q | q)
        · rw [q, ltN_irrefl] at k; cases k
        · have := ltN_trans k (h3 n q); rw [ltN_irrefl] at this; cases this
      rw [if_neg hne]
      simp
theorem dif_rep {n : Nd} (o : okN n = true) : difL [] [n] = [(n, 1)] ∧ difL [] [n, n, n] = [(n, 3)] := by
  have h1 : Rises (keyD [(n, (1 : Int))]) := List.pairwise_cons.2 ⟨fun x hx => (by cases hx), List.Pairwise.nil⟩
  constructor
  · refine dif_is (fun m hm => by simp at hm; rw [hm]; exact o) h1 (fun e he => by rw [List.mem_singleton.1 he]; show (1 : Int) ≠ 0; decide) fun m => ?_
    unfold difF
    rw [byD_cons, cntN_cons, cntN_nil]
    by_cases k : n = m <;> simp [k, byD]
  · refine dif_is (fun m hm => by simp at hm; rw [hm]; exact o) (l := [(n, 3)]) h1 (fun e he => by rw [List.mem_singleton.1 he]; show (3 : Int) ≠ 0; decide) fun m => ?_
    unfold difF
    rw [byD_cons, cntN_cons, cntN_cons, cntN_cons, cntN_nil]
    by_cases k : n = m <;> simp [k, byD]
theorem len_pos {l : List De} (h : ∀ e ∈ l, 1 ≤ e.2) : (l.length : Int) ≤ sumD l := by
  induction l with
  | nil => simp [sumD]
  | cons e l ih =>
    have h1 := h e List.mem_cons_self
    have h2 := ih fun x hx => h x (List.mem_cons_of_mem _ hx)
    rw [sumD, List.length_cons]
    omega
end Go.Proofs.YtglhjdbnpdoinaaGreat

namespace Go.Proofs.YtglhjdbnpdoinaaGreat
open Go.RowKit
set_option linter.unusedVariables false
set_option maxRecDepth 100000

set_option maxHeartbeats 400000 in
theorem below0_any (p v : List UInt8) (z : Int) (w : World) :
    Calls Tryz.prog 35 #[.agg #[.string (mkB p), .string (mkB v), .int .i64 z]] w fun e w' => e = .returned (.bool (!decide (0 ≤ z))) ∧ Below w.heap.size w w' := by
  obtain ⟨W, g, hW, hg, c0, c1, c2, hb⟩ := boxD1 w (.string (mkB p)) (.string (mkB v)) (.int .i64 z) 56
  have B := Lib.hid hb; have HW := Lib.hid hW; have HG := Lib.hid hg; clear hb hW hg
  have e : (!decide (0 ≤ z)) = decide (z < 0) := by by_cases h : z < 0 <;> simp [h] <;> omega
  rw [e]
  clear e
  go_enter Tryz.func35, Tryz.ntmps35
  go_upto_region 1 with fail
  rw [HW.out, HG.out]
  go_wp2
  go_ret
  exact ⟨rfl, B.out⟩
theorem posD_drop {l : List De} {k : Nat} (h : k < l.length) : posD (l.drop k) = (decide (0 ≤ (l.getD k zD).2) && posD (l.drop (k + 1))) := by
  unfold posD; rw [List.drop_eq_getElem_cons h, List.all_cons, df_getD h]
set_option maxHeartbeats 800000 in
theorem dindexb_any (V : Value) (l : List De) (w : World) (h : Dfs w V l) :
    Calls Tryz.prog 48 #[V, .func (.func 35) #[] #[]] w fun e w' => (∃ i : Int, e = .returned (.int .i64 i) ∧ decide (0 ≤ i) = !posD l) ∧ Below w.heap.size w w' := by
  obtain ⟨a, c, rfl, h1, h2, -, -⟩ := h.ex
  unfold maxLen at h2
  obtain ⟨n, hn⟩ : ∃ n, l.length = n := ⟨_, rfl⟩
  obtain ⟨R, hR⟩ : ∃ R, posD l = R := ⟨_, rfl⟩
  rw [hR]
  rw [hn] at h1 h ⊢
  have ST := Lib.hid h; have HN := Lib.hid hn; have HR := Lib.hid hR
  clear h hn hR
  go_enter Tryz.func48, Tryz.ntmps48
  go_wp2
  go_loopw [8] (fun i wr => ∃ k : Nat, k ≤ n ∧ i = .int .i64 k ∧ Hid (posD (l.drop k) = R) ∧ Hid (Below w.heap.size w wr)) (fun i _ => n - (intOf i).toNat)
  case atStart => exact ⟨0, Nat.zero_le _, rfl, Lib.hid (by simpa using HR.out), Lib.hid (Below.refl _ _)⟩
  case round =>
    obtain ⟨k, hk, rfl, H, HB⟩ := hrel
    by_cases hlt : k < n
    · have hkl : k < l.length := by rw [HN.out]; exact hlt
      obtain ⟨b, off, rfl, -, hc0, hc1, hc2⟩ := (ST.out.below HB.out).at k hkl
      have hd := posD_drop hkl
      obtain ⟨y, hy⟩ : ∃ y, y = l.getD k zD := ⟨_, rfl⟩
      rw [← hy] at hc0 hc1 hc2 hd
      obtain ⟨⟨y1, y2⟩, z⟩ := y
      simp only at hc0 hc1 hc2 hd
      have kb := fun w => below0_any y1 y2 z w
      obtain ⟨I, hI⟩ : ∃ I, decide (0 ≤ z) = I := ⟨_, rfl⟩
      rw [hI] at kb hd
      have KB := Lib.hid kb; have HD := Lib.hid hd
      clear hy hI kb hd
      have hkb : (k : Int) < (n : Int) := by omega
      cases I
      · go_wp2_with (go_at_call 35; refine (KB.out _).mono ?_; rintro e w1 ⟨rfl, hb1⟩; have B1 := Lib.hid (below_step HB.out hb1); clear hb1)
        go_ret
        refine ⟨⟨k, rfl, ?_⟩, B1.out⟩
        rw [← H.out, HD.out]; simp
      · go_wp2_with (go_at_call 35; refine (KB.out _).mono ?_; rintro e w1 ⟨rfl, hb1⟩; have B1 := Lib.hid (below_step HB.out hb1); clear hb1)
        have H5 : Hid (posD (l.drop (k + 1)) = R) := Lib.hid (by rw [← H.out, HD.out]; simp)
        go_roundw
        case rel => exact ⟨k + 1, by omega, by go_num, H5, B1⟩
        case measure => simp [intOf]; omega
    · go_wp2
      go_ret
      refine ⟨⟨-1, rfl, ?_⟩, HB.out⟩
      rw [← H.out, List.drop_eq_nil_of_le (by rw [HN.out]; omega)]; rfl
set_option maxHeartbeats 400000 in
theorem dcontb_any (V : Value) (l : List De) (w : World) (h : Dfs w V l) :
    Calls Tryz.prog 34 #[V, .func (.func 35) #[] #[]] w fun e w' => e = .returned (.bool (!posD l)) ∧ Below w.heap.size w w' := by
  have K := Lib.hid (dindexb_any V l w h)
  obtain ⟨a, c, rfl, -⟩ := h.ex
  obtain ⟨R, hR⟩ : ∃ R, (!posD l) = R := ⟨_, rfl⟩
  obtain ⟨n, hn⟩ : ∃ n, l.length = n := ⟨_, rfl⟩
  rw [hR, hn] at K
  rw [hR, hn]
  clear hR hn h
  go_enter Tryz.func34, Tryz.ntmps34
  go_wp2_with (go_at_call 48; refine K.out.mono ?_; rintro e w1 ⟨⟨i, rfl, hi⟩, hb1⟩; have HI := Lib.hid hi; have B := Lib.hid hb1; clear hb1 hi)
  go_ret
  exact ⟨by rw [← HI.out]; rfl, B.out⟩

/-! ### Are two the same -/
set_option maxHeartbeats 1600000 in
theorem deq_any (U V : Value) (ns ms : List De) (w : World) (hu : Dfs w U ns) (hv : Dfs w V ms) :
    Calls Tryz.prog 38 #[U, V] w fun e w' => e = .returned (.bool (decide (ns = ms))) ∧ Below w.heap.size w w' := by
  obtain ⟨a, c, rfl, h1, h2, -, -⟩ := hu.ex
  obtain ⟨a', c', rfl, h1', h2', -, -⟩ := hv.ex
  unfold maxLen at h2 h2'
  obtain ⟨n, hn⟩ : ∃ n, ns.length = n := ⟨_, rfl⟩
  obtain ⟨m, hm⟩ : ∃ m, ms.length = m := ⟨_, rfl⟩
  rw [hn] at h1 hu ⊢
  rw [hm] at h1' hv ⊢
  obtain ⟨R, hR⟩ : ∃ R, decide (ns = ms) = R := ⟨_, rfl⟩
  rw [hR]
  have HN := Lib.hid hn; have HM := Lib.hid hm; have SU := Lib.hid hu; have SV := Lib.hid hv; have HR := Lib.hid hR
  clear hu hv hn hm hR
  by_cases hl : n = m
  · subst hl
    have h0 : ((n : Int) != (n : Int)) = false := by simp
    go_enter Tryz.func38, Tryz.ntmps38
    go_wp2
    go_loopw [13] (fun i wr => ∃ k q : Nat, k ≤ n ∧ i = .int .i64 k ∧ wr = w.drewN q ∧ Hid (ns.take k = ms.take k)) (fun i _ => n - (intOf i).toNat)
    case atStart => exact ⟨0, 0, Nat.zero_le _, rfl, rfl, Lib.hid (by simp)⟩
    case round =>
      obtain ⟨k, q, hk, rfl, rfl, H⟩ := hrel
      by_cases hlt : k < n
      · have hkl : k < ns.length := by rw [HN.out]; exact hlt
        have hkm : k < ms.length := by rw [HM.out]; exact hlt
        obtain ⟨Wq, hWq⟩ : ∃ Wq, w.drewN q = Wq := ⟨_, rfl⟩
        have hbq : Below w.heap.size w Wq := by rw [← hWq]; exact below_q ⟨q, rfl⟩
        obtain ⟨b, off, rfl, -, hc0, hc1, hc2⟩ := (SU.out.below hbq).at k hkl
        obtain ⟨b', off', rfl, -, hd0, hd1, hd2⟩ := (SV.out.below hbq).at k hkm
        obtain ⟨x, hx⟩ : ∃ x, x = ns.getD k zD := ⟨_, rfl⟩
        obtain ⟨y, hy⟩ : ∃ y, y = ms.getD k zD := ⟨_, rfl⟩
        rw [← hx] at hc0 hc1 hc2
        rw [← hy] at hd0 hd1 hd2
        have e1 : ns.take (k + 1) = ns.take k ++ [x] := by rw [List.take_succ_eq_append_getElem hkl, hx, df_getD hkl]
        have e2 : ms.take (k + 1) = ms.take k ++ [y] := by rw [List.take_succ_eq_append_getElem hkm, hy, df_getD hkm]
        obtain ⟨⟨x1, x2⟩, x3⟩ := x
        obtain ⟨⟨y1, y2⟩, y3⟩ := y
        simp only at hc0 hc1 hc2 hd0 hd1 hd2
        rw [hWq]
        have HWq := Lib.hid hWq; have E1 := Lib.hid e1; have E2 := Lib.hid e2; clear hx hy hbq hWq e1 e2
        have hgd := guard_df
        have heq := neq_df x1 x2 y1 y2 x3 y3
        obtain ⟨o, ho⟩ : ∃ o, decide (((x1, x2), x3) = ((y1, y2), y3)) = o := ⟨_, rfl⟩
        rw [ho] at heq
        have HO := Lib.hid ho; clear ho
        have hkb : (k : Int) < (n : Int) := by omega
        cases o
        · simp only [Bool.not_false] at heq
          go_wp2_with fail
          go_quiet (fail)
          go_wp2
          go_ret
          refine ⟨?_, below_step (below_q ⟨q, HWq.out.symm⟩) (below_q ⟨nq, rfl⟩)⟩
          rw [← HR.out, decide_eq_false fun e => ?_]
          · rfl
          · have h5 := E1.out
            rw [e, E2.out] at h5
            have h6 := List.append_inj_right' h5 rfl
            simp only [List.cons.injEq, and_true] at h6
            have := of_decide_eq_false HO.out
            exact this h6.symm
        · simp only [Bool.not_true] at heq
          go_wp2_with fail
          go_quiet (fail)
          go_wp2
          have H5 : Hid (ns.take (k + 1) = ms.take (k + 1)) := Lib.hid (by rw [E1.out, E2.out, H.out, of_decide_eq_true HO.out])
          go_roundw
          case rel => exact ⟨k + 1, q + nq, by omega, by go_num, by rw [← HWq.out, World.drewN_drewN], H5⟩
          case measure => simp [intOf]; omega
      · go_wp2
        go_ret
        refine ⟨?_, below_q ⟨q, rfl⟩⟩
        have e : k = n := by omega
        subst e
        have h5 := H.out
        rw [List.take_of_length_le (by rw [HN.out]; exact Nat.le_refl _), List.take_of_length_le (by rw [HM.out]; exact Nat.le_refl _)] at h5
        rw [← HR.out, decide_eq_true h5]; rfl
  · have h0 : ((n : Int) != (m : Int)) = true := by simp; omega
    have HL := Lib.hid hl; clear hl
    go_enter Tryz.func38, Tryz.ntmps38
    go_wp2
    go_ret
    refine ⟨?_, Below.refl _ _⟩
    rw [← HR.out, decide_eq_false fun e => HL.out (by rw [← HN.out, ← HM.out, e])]; rfl

/-! ### Copies -/
set_option maxHeartbeats 800000 in
theorem ncloneo_any (U : Value) (l : List Nd) (w : World) (hU : Nds w U l) (hl : l.length ≤ 1000000) :
    Calls Tryz.prog 44 #[U] w fun e w' => ∃ v, e = .returned v ∧ w'.ownsRow w.heap.size 26 2 v l.length (ndsC l) ∧ Below w.heap.size w w' := by
  obtain ⟨a, c, rfl, h1, h2, h3, h4⟩ := hU.ex
  have q : ∀ (w : World) (a : Option Addr) (n c n' c' : Nat), (binOp .eql 27 (.slice a n c) (.slice none n' c')).run Tryz.prog w = .ok (.bool a.isNone) w := fun w a n c n' c' => Lib.run_eql_slice_nil w _ _ a n c n' c' Tryz.underlying27
  cases a with
  | none =>
    have hc : c = 0 := h3 rfl
    subst hc
    have : l = [] := List.eq_nil_of_length_eq_zero (by omega)
    subst this
    go_enter Tryz.func44, Tryz.ntmps44
    go_wp2
    go_ret
    exact ⟨_, rfl, World.ownsRow_nil _ _ _ _, Below.refl _ _⟩
  | some ad =>
    obtain ⟨n, hn⟩ : ∃ n, l.length = n := ⟨_, rfl⟩
    have hcl := ndsC_len l
    rw [hn] at hU hl hcl ⊢
    have SU := Lib.hid hU
    clear hU h1 h2 h3 h4 hn
    go_enter Tryz.func44, Tryz.ntmps44
    go_wp2_with (at_builtin; refine wpList_append_src rfl _ _ 27 rfl w.heap.size 26 (.agg #[.string ByteArray.empty, .string ByteArray.empty]) 2 32 Tryz.underlying27 Tryz.info_node rfl (by decide) _ 0 [] rfl (World.ownsRow_made w #[] 0 (Nat.le_refl _) (by unfold maxLen; omega) rfl) (some ad) n c (ndsC l) rfl hcl (fun h => by cases h) (fun ad' e => by cases e; exact (SU.out.below ((Below.refl _ _).alloc (Nat.le_refl _) _)).cells) (ndsC_one l) (by omega) (by unfold maxLen; omega) (by simp) ?_)
    intro v' w' hown hb
    have hown2 : w'.ownsRow w.heap.size 26 2 v' l.length (ndsC l) := by
      rw [show l.length = n by have := ndsC_len l; omega]; first | exact hown | simpa using hown
    have hnl : l.length = n := by have := ndsC_len l; omega
    rw [hnl] at hown2
    have HN := Lib.hid hown2; have HB := Lib.hid (((Below.refl w.heap.size w).alloc (Nat.le_refl _) _).trans hb.toBelow)
    clear hown hown2 hb hnl hcl
    go_wp2
    go_ret
    exact ⟨_, rfl, HN.out, HB.out⟩

set_option maxHeartbeats 800000 in
theorem dclone_any (U : Value) (l : List De) (w : World) (hU : Dfs w U l) (hl : l.length ≤ 1000000) :
    Calls Tryz.prog 60 #[U] w fun e w' => ∃ v, e = .returned v ∧ w'.ownsRow w.heap.size 56 3 v l.length (dfC l) ∧ Below w.heap.size w w' := by
  obtain ⟨a, c, rfl, h1, h2, h3, h4⟩ := hU.ex
  have q : ∀ (w : World) (a : Option Addr) (n c n' c' : Nat), (binOp .eql 22 (.slice a n c) (.slice none n' c')).run Tryz.prog w = .ok (.bool a.isNone) w := fun w a n c n' c' => Lib.run_eql_slice_nil w _ _ a n c n' c' Tryz.underlying22
  cases a with
  | none =>
    have hc : c = 0 := h3 rfl
    subst hc
    have : l = [] := List.eq_nil_of_length_eq_zero (by omega)
    subst this
    go_enter Tryz.func60, Tryz.ntmps60
    go_wp2
    go_ret
    exact ⟨_, rfl, World.ownsRow_nil _ _ _ _, Below.refl _ _⟩
  | some ad =>
    obtain ⟨n, hn⟩ : ∃ n, l.length = n := ⟨_, rfl⟩
    have hcl := dfC_len l
    rw [hn] at hU hl hcl ⊢
    have SU := Lib.hid hU
    clear hU h1 h2 h3 h4 hn
    go_enter Tryz.func60, Tryz.ntmps60
    go_wp2_with (at_builtin; refine wpList_append_src rfl _ _ 22 rfl w.heap.size 56 zDV 3 40 Tryz.underlying22 Tryz.info_df rfl (by decide) _ 0 [] rfl (World.ownsRow_made w #[] 0 (Nat.le_refl _) (by unfold maxLen; omega) rfl) (some ad) n c (dfC l) rfl hcl (fun h => by cases h) (fun ad' e => by cases e; exact (SU.out.below ((Below.refl _ _).alloc (Nat.le_refl _) _)).cells) (dfC_one l) (by omega) (by unfold maxLen; omega) (by simp) ?_)
    intro v' w' hown hb
    have hown2 : w'.ownsRow w.heap.size 56 3 v' l.length (dfC l) := by
      rw [show l.length = n by have := dfC_len l; omega]; first | exact hown | simpa using hown
    have hnl : l.length = n := by have := dfC_len l; omega
    rw [hnl] at hown2
    have HN := Lib.hid hown2; have HB := Lib.hid (((Below.refl w.heap.size w).alloc (Nat.le_refl _) _).trans hb.toBelow)
    clear hown hown2 hb hnl hcl
    go_wp2
    go_ret
    exact ⟨_, rfl, HN.out, HB.out⟩
end Go.Proofs.YtglhjdbnpdoinaaGreat

namespace Go.Proofs.YtglhjdbnpdoinaaGreat
open Go.RowKit
set_option linter.unusedVariables false
set_option maxRecDepth 100000

theorem Tryz.size_use : (Tryz.prog.info? 24).map (·.size) = some 3 := by kernel_rfl
theorem boxU (w : World) (x y z : Value) (t : TypeId) : ∃ W g, w.alloc (.cells #[x, y, z] t) = W ∧ w.heap.size = g ∧ W.heap[g]? = some (.cells #[x, y, z] t (0, 0)) ∧ Below w.heap.size w W :=
  ⟨_, _, rfl, rfl, heap_alloc_new _ _, (Below.refl _ _).alloc (Nat.le_refl _) _⟩
theorem boxU2 (w : World) (x y z x' y' z' : Value) (t t' : TypeId) : ∃ W g g', (w.alloc (.cells #[x, y, z] t)).alloc (.cells #[x', y', z'] t') = W ∧ w.heap.size = g ∧ w.heap.size + 1 = g' ∧ W.heap[g]? = some (.cells #[x, y, z] t (0, 0)) ∧ W.heap[g']? = some (.cells #[x', y', z'] t' (0, 0)) ∧ Below w.heap.size w W :=
  ⟨_, _, _, rfl, rfl, rfl, row_keepB (heap_alloc_new _ _) ((Below.refl _ _).alloc (Nat.le_refl _) _), by have := heap_alloc_new (w.alloc (.cells #[x, y, z] t)) (.cells #[x', y', z'] t'); simpa using this, ((Below.refl _ _).alloc (Nat.le_refl _) _).alloc (by simp) _⟩
theorem boxUN (w : World) (x y z p v : Value) (t t' : TypeId) : ∃ W g g', (w.alloc (.cells #[x, y, z] t)).alloc (.cells #[p, v] t') = W ∧ w.heap.size = g ∧ w.heap.size + 1 = g' ∧ W.heap[g]? = some (.cells #[x, y, z] t (0, 0)) ∧ W.heap[g']? = some (.cells #[p, v] t' (0, 0)) ∧ Below w.heap.size w W :=
  ⟨_, _, _, rfl, rfl, rfl, row_keepB (heap_alloc_new _ _) ((Below.refl _ _).alloc (Nat.le_refl _) _), by have := heap_alloc_new (w.alloc (.cells #[x, y, z] t)) (.cells #[p, v] t'); simpa using this, ((Below.refl _ _).alloc (Nat.le_refl _) _).alloc (by simp) _⟩
theorem boxUNU (w : World) (x y z p v x' y' z' : Value) (t t' t'' : TypeId) : ∃ W g g' g'', ((w.alloc (.cells #[x, y, z] t)).alloc (.cells #[p, v] t')).alloc (.cells #[x', y', z'] t'') = W ∧ w.heap.size = g ∧ w.heap.size + 1 = g' ∧ w.heap.size + 1 + 1 = g'' ∧ W.heap[g]? = some (.cells #[x, y, z] t (0, 0)) ∧ W.heap[g']? = some (.cells #[p, v] t' (0, 0)) ∧ W.heap[g'']? = some (.cells #[x', y', z'] t'' (0, 0)) ∧ Below w.heap.size w W := by
  obtain ⟨W, g, g', h1, h2, h3, h4, h5, h6⟩ := boxUN w x y z p v t t'
  subst h2 h3
  refine ⟨_, _, _, _, rfl, rfl, rfl, rfl, ?_, ?_, ?_, ?_⟩
  · rw [h1]; exact row_keepB h4 ((Below.refl _ _).alloc (Nat.le_refl _) _)
  · rw [h1]; exact row_keepB h5 ((Below.refl _ _).alloc (Nat.le_refl _) _)
  · have := heap_alloc_new ((w.alloc (.cells #[x, y, z] t)).alloc (.cells #[p, v] t')) (.cells #[x', y', z'] t''); simpa using this
  · rw [h1]; exact h6.alloc h6.size _
theorem row3_set {w : World} {g : Nat} {x0 x1 x2 : Value} {t : TypeId} (h : w.heap[g]? = some (.cells #[x0, x1, x2] t (0, 0))) (y0 y1 y2 : Value) :
    (((w.setCell ⟨g, 0, none⟩ y0).setCell ⟨g, 1, none⟩ y1).setCell ⟨g, 2, none⟩ y2).heap[g]? = some (.cells #[y0, y1, y2] t (0, 0)) := by
  simp [World.setCell, Array.getElem?_modify, h]
theorem row3_set2 {w : World} {g : Nat} {x0 x1 x2 : Value} {t : TypeId} (h : w.heap[g]? = some (.cells #[x0, x1, x2] t (0, 0))) (y2 : Value) :
    (w.setCell ⟨g, 2, none⟩ y2).heap[g]? = some (.cells #[x0, x1, y2] t (0, 0)) := by
  simp [World.setCell, Array.getElem?_modify, h]
theorem row_farU {w : World} {g k i : Nat} {o : Obj} (h : w.heap[k]? = some o) (hn : k ≠ g) (y : Value) : (w.setCell ⟨g, i, none⟩ y).heap[k]? = some o := by
  rw [Below.heap_setCell w ⟨g, i, none⟩ y k hn]; exact h
/-- A row that is newer than the box into which a struct of three is stored. -/
theorem row_far3 {w : World} {base : Nat} {e : TypeId} {size : Nat} {v : Value} {n : Nat} {xs : List Value} (h : w.ownsRow base e size v n xs) {g : Nat} (hg : g < base) (y0 y1 y2 : Value) : (((w.setCell ⟨g, 0, none⟩ y0).setCell ⟨g, 1, none⟩ y1).setCell ⟨g, 2, none⟩ y2).ownsRow base e size v n xs :=
  row_far1 (row_far1 (row_far1 h hg _) hg _) hg _

/-! ### May it be -/
set_option maxHeartbeats 400000 in
theorem beyondU_any (z : Int) (R : Bool) (h : (!inU z) = R) (w : World) :
    Calls Tryz.prog 33 #[.int .i64 z] w fun e w' => e = .returned (.bool R) ∧ w' = w := by
  subst h
  by_cases t0 : z < 0
  · have d0 : decide (z < 0) = true := by simp [t0]
    have e : (!inU z) = true := by unfold inU; rw [decide_eq_false (show ¬ 0 ≤ z by omega)]; rfl
    rw [e]
    clear t0 e
    go_enter Tryz.func33, Tryz.ntmps33
    go_wp2
    go_ret
    exact ⟨rfl, rfl⟩
  · have d0 : decide (z < 0) = false := by simp [t0]
    by_cases t1 : 1099511627776 < z
    · have d1 : decide (1099511627776 < z) = true := by simp [t1]
      have e : (!inU z) = true := by unfold inU; rw [decide_eq_false (show ¬ z ≤ 1099511627776 by omega), Bool.and_false]; rfl
      rw [e]
      clear t0 t1 e
      go_enter Tryz.func33, Tryz.ntmps33
      go_wp2
      go_ret
      exact ⟨rfl, rfl⟩
    · have d1 : decide (1099511627776 < z) = false := by simp [t1]
      have e : (!inU z) = false := by have : inU z = true := inU_iff.2 ⟨by omega, by omega⟩; rw [this]; rfl
      rw [e]
      clear t0 t1 e
      go_enter Tryz.func33, Tryz.ntmps33
      go_wp2
      go_ret
      exact ⟨rfl, rfl⟩

set_option maxHeartbeats 1600000 in
theorem ucheck_any (m e : Int) (A : Option Addr) (n c : Nat) (s : List De) (w : World) (h : Dfs w (.slice A n c) s) (hs : ∀ e ∈ s, smallD e) (hl : s.length ≤ 1000000) :
    Calls Tryz.prog 15 #[.agg #[.int .i64 m, .int .i64 e, .slice A n c]] w fun x w' => x = .returned (.int .i64 (chkU m e s)) ∧ Below w.heap.size w w' := by
  obtain ⟨W, g, hW, hg, r0, hb⟩ := boxU w (.int .i64 m) (.int .i64 e) (.slice A n c) 24
  obtain ⟨d0, d1, d2, -⟩ := row3 r0
  have kc := fun w h => dcheck_any (.slice A n c) s w h hs hl
  have kp := fun w h => dcontb_any (.slice A n c) s w h
  obtain ⟨o3, ho3⟩ : ∃ o, (!posD s) = o := ⟨_, rfl⟩
  obtain ⟨o1, ho1⟩ : ∃ o, (!inU m) = o := ⟨_, rfl⟩
  obtain ⟨o2, ho2⟩ : ∃ o, (!inU e) = o := ⟨_, rfl⟩
  obtain ⟨z, hz⟩ : ∃ z, chkD s = z := ⟨_, rfl⟩
  rw [ho3] at kp
  rw [hz] at kc
  obtain ⟨R, hR⟩ : ∃ z, chkU m e s = z := ⟨_, rfl⟩
  rw [hR]
  have hall : R = if o1 = true then 1 else if o2 = true then 1 else if o3 = true then 1 else z := by
    rw [← hR, ← ho1, ← ho2, ← ho3, ← hz]
    unfold chkU okU chkD
    cases inU m <;> cases inU e <;> cases posD s <;> rfl
  have S0 := Lib.hid (h.below hb); have KC := Lib.hid kc; have KP := Lib.hid kp; have H1 := Lib.hid ho1; have H2 := Lib.hid ho2; have HW := Lib.hid hW; have HG := Lib.hid hg; have BB := Lib.hid hb
  clear h hb kc kp ho1 ho2 ho3 hz hR hW hg r0 hs hl
  cases o1
  · cases o2
    · cases o3
      · obtain rfl : z = R := by rw [hall]; simp
        clear hall
        go_enter Tryz.func15, Tryz.ntmps15
        go_upto_region 1 with fail
        rw [HW.out, HG.out]
        go_wp2_with (first | (go_at_call 33; refine (beyondU_any _ _ (by first | exact H1.out | exact H2.out) _).mono ?_; rintro e w1 ⟨rfl, rfl⟩) | (go_at_call 34; refine (KP.out _ S0.out).mono ?_; rintro e w2 ⟨rfl, hb1⟩; replace d0 := cell_keep d0 hb1; replace d1 := cell_keep d1 hb1; replace d2 := cell_keep d2 hb1; replace S0 := Lib.hid (S0.out.below hb1); replace BB := Lib.hid (below_step BB.out hb1); clear hb1) | (go_at_call 36; refine (KC.out _ S0.out).mono ?_; rintro e w3 ⟨rfl, hb1⟩; replace BB := Lib.hid (below_step BB.out hb1); clear hb1))
        go_ret
        exact ⟨rfl, BB.out⟩
      · obtain rfl : 1 = R := by rw [hall]; simp
        clear hall
        go_enter Tryz.func15, Tryz.ntmps15
        go_upto_region 1 with fail
        rw [HW.out, HG.out]
        go_wp2_with (first | (go_at_call 33; refine (beyondU_any _ _ (by first | exact H1.out | exact H2.out) _).mono ?_; rintro e w1 ⟨rfl, rfl⟩) | (go_at_call 34; refine (KP.out _ S0.out).mono ?_; rintro e w2 ⟨rfl, hb1⟩; replace d0 := cell_keep d0 hb1; replace d1 := cell_keep d1 hb1; replace d2 := cell_keep d2 hb1; replace S0 := Lib.hid (S0.out.below hb1); replace BB := Lib.hid (below_step BB.out hb1); clear hb1))
        go_ret
        exact ⟨rfl, BB.out⟩
    · obtain rfl : 1 = R := by rw [hall]; simp
      clear hall
      go_enter Tryz.func15, Tryz.ntmps15
      go_upto_region 1 with fail
      rw [HW.out, HG.out]
      go_wp2_with ((go_at_call 33; refine (beyondU_any _ _ (by first | exact H1.out | exact H2.out) _).mono ?_; rintro e w1 ⟨rfl, rfl⟩))
      go_ret
      exact ⟨rfl, BB.out⟩
  · obtain rfl : 1 = R := by rw [hall]; simp
    clear hall
    go_enter Tryz.func15, Tryz.ntmps15
    go_upto_region 1 with fail
    rw [HW.out, HG.out]
    go_wp2_with ((go_at_call 33; refine (beyondU_any _ _ (by first | exact H1.out | exact H2.out) _).mono ?_; rintro e w1 ⟨rfl, rfl⟩))
    go_ret
    exact ⟨rfl, BB.out⟩

/-! ### What a manifest speaks of -/
set_option maxHeartbeats 800000 in
theorem spoken_any (p v : List UInt8) (A : Option Addr) (n c : Nat) (l : List Nd) (w : World) (h : Nds w (.slice A n c) l) (hl : n ≤ 500000) :
    Calls Tryz.prog 32 #[.agg #[.string (mkB p), .string (mkB v)], .slice A n c] w fun x w' => ∃ u, x = .returned u ∧ w'.ownsRow w.heap.size 26 2 u (n + 1) (ndsC ((p, v) :: l)) ∧ Below w.heap.size w w' := by
  obtain ⟨W, g, hW, hg, r0, hb⟩ : ∃ W g, w.alloc (.cells #[.string (mkB p), .string (mkB v)] 26) = W ∧ w.heap.size = g ∧ W.heap[g]? = some (.cells #[.string (mkB p), .string (mkB v)] 26 (0, 0)) ∧ Below w.heap.size w W := ⟨_, _, rfl, rfl, heap_alloc_new _ _, (Below.refl _ _).alloc (Nat.le_refl _) _⟩
  obtain ⟨d0, d1, _, _⟩ := row2 r0
  have hln : l.length = n := by
    obtain ⟨_, _, hv, -⟩ := h.ex
    injection hv with _ e2 _
    exact e2.symm
  have S0 := Lib.hid (h.below hb); have HW := Lib.hid hW; have HG := Lib.hid hg; have BB := Lib.hid hb; have HN := Lib.hid hln
  have ho0 : (W.alloc (.cells #[.string (mkB p), .string (mkB v)] 26)).ownsRow W.heap.size 26 2 (.slice (some ⟨W.heap.size, 0, none⟩) 1 1) 1 (ndsC [(p, v)]) :=
    ⟨rfl, .inr ⟨W.heap.size, 1, _, rfl, Nat.le_refl _, heap_alloc_new _ _, Nat.le_refl _, by unfold maxLen; omega, rfl, rfl⟩⟩
  have hb2 : Below W.heap.size W (W.alloc (.cells #[.string (mkB p), .string (mkB v)] 26)) := (Below.refl _ _).alloc (Nat.le_refl _) _
  have HO0 := Lib.hid ho0; have BX := Lib.hid hb2
  clear h hb hW hg r0 hln ho0 hb2
  go_enter Tryz.func32, Tryz.ntmps32
  go_upto_region 1 with fail
  rw [HW.out, HG.out]
  go_wp2_with (at_builtin; refine wpList_append_src rfl _ _ 27 rfl W.heap.size 26 (.agg #[.string ByteArray.empty, .string ByteArray.empty]) 2 32 Tryz.underlying27 Tryz.info_node rfl (by decide) _ 1 (ndsC [(p, v)]) rfl HO0.out A n c (ndsC l) rfl (by rw [ndsC_len, HN.out]) (S0.out.below BX.out).nil (S0.out.below BX.out).src (ndsC_one _) (by omega) (by unfold maxLen; omega) BX.out.size ?_)
  intro v' w' hown hb1
  have hown2 : w'.ownsRow w.heap.size 26 2 v' (n + 1) (ndsC ((p, v) :: l)) := by
    rw [Nat.add_comm]; exact row_base hown BB.out.size
  have HN2 := Lib.hid hown2; have HB := Lib.hid (below_step BB.out (BX.out.trans hb1.toBelow))
  clear hown hown2 hb1
  go_wp2
  go_ret
  exact ⟨_, rfl, HN2.out, HB.out⟩

/-! ### In memory of its own -/
set_option maxHeartbeats 1600000 in
theorem uown_any (m e : Int) (A : Option Addr) (n c : Nat) (s : List De) (w : World) (h : Dfs w (.slice A n c) s) (hl : s.length ≤ 1000000) :
    Calls Tryz.prog 46 #[.agg #[.int .i64 m, .int .i64 e, .slice A n c]] w fun x w' => ∃ v, x = .returned (.agg #[.int .i64 m, .int .i64 e, v]) ∧ w'.ownsRow w.heap.size 56 3 v s.length (dfC s) ∧ Below w.heap.size w w' := by
  obtain ⟨W, g, g', hW, hg, hg', r0, r1, hb⟩ := boxU2 w (.int .i64 m) (.int .i64 e) (.slice A n c) (.int .i64 0) (.int .i64 0) (.slice none 0 0) 24 24
  obtain ⟨d0, d1, d2, f0, f1, f2⟩ := row3 r0
  have kc := fun w h => dclone_any (.slice A n c) s w h hl
  have hgW := (Array.getElem?_eq_some_iff.1 r0).1
  have hgW' := (Array.getElem?_eq_some_iff.1 r1).1
  have S0 := Lib.hid (h.below hb); have KC := Lib.hid kc; have HW := Lib.hid hW; have HG := Lib.hid hg; have HG' := Lib.hid hg'; have BB := Lib.hid hb; have R0 := Lib.hid r0; have R1 := Lib.hid r1; have HGW := Lib.hid hgW; have HGW' := Lib.hid hgW'; have HNE := Lib.hid (show ¬ g = g' by omega); have HLE := Lib.hid (show w.heap.size ≤ g by omega); have HLE' := Lib.hid (show w.heap.size ≤ g' by omega)
  have HWS := Lib.hid hb.size
  clear h hb kc hW hg hg' r0 r1 hl hgW hgW'
  go_enter Tryz.func46, Tryz.ntmps46
  go_upto_region 1 with fail
  rw [HW.out, HG'.out, HG.out]
  go_upto_region 2 with (go_at_call 60; refine (KC.out _ S0.out).mono ?_; rintro x w1 ⟨v1, rfl, hrow, hb1⟩; obtain ⟨a1, c1, rfl, -⟩ := dfsO hrow; have HROW := Lib.hid hrow; replace R0 := Lib.hid (row_keepB R0.out hb1); replace R1 := Lib.hid (row_keepB R1.out hb1); replace BB := Lib.hid (below_step BB.out hb1); clear hb1 hrow d0 d1 d2 f0 f1 f2; obtain ⟨d0, d1, d2, f0, f1, f2⟩ := row3 R0.out)
  obtain ⟨w2, hw2⟩ : ∃ w2, w1.setCell ⟨g, 2, none⟩ (.slice a1 s.length c1) = w2 := ⟨_, rfl⟩
  have hr2 := row3_set2 R0.out (.slice a1 s.length c1)
  have hr3 := row_farU (i := 2) R1.out (Ne.symm HNE.out) (.slice a1 s.length c1)
  have hrow := row_far1 (i := 2) HROW.out HGW.out (.slice a1 s.length c1)
  have hb2 : Below w.heap.size w (w1.setCell ⟨g, 2, none⟩ (.slice a1 s.length c1)) := BB.out.setCell HLE.out _
  rw [hw2] at hr2 hr3 hrow hb2 ⊢
  clear hw2 d0 d1 d2 f0 f1 f2
  obtain ⟨d0, d1, d2, -⟩ := row3 hr2
  obtain ⟨e0, e1, e2, f0, f1, f2⟩ := row3 hr3
  have HR3 := Lib.hid hr3; have HRW := Lib.hid hrow; have HB2 := Lib.hid hb2; have HSZ := Lib.hid HWS.out
  clear hr2 hr3 hrow hb2
  go_wp2
  try simp only [Exit.inBlock, Exit.then]
  refine bodyPost_ret (v := .agg #[.int .i64 m, .int .i64 e, .slice a1 s.length c1]) (results_cell_row (fn := Tryz.f46) (p := 2) (ty := 24) rfl _ _ g' 24 #[.int .i64 m, .int .i64 e, .slice a1 s.length c1] (0, 0) _ rfl (row3_set HR3.out _ _ _) Tryz.underlying24 rfl Tryz.size_use) rfl ?_
  exact ⟨_, rfl, row_base (row_far3 HRW.out HGW'.out _ _ _) HSZ.out, ((HB2.out.setCell HLE'.out _).setCell HLE'.out _).setCell HLE'.out _⟩
end Go.Proofs.YtglhjdbnpdoinaaGreat

namespace Go.Proofs.YtglhjdbnpdoinaaGreat
open Go.RowKit
set_option linter.unusedVariables false
set_option maxRecDepth 100000

theorem dif_smallU {old now : List Nd} (h : ∀ n ∈ old ++ now, okN n = true) (so : ∀ n ∈ old, smallN n) (sn : ∀ n ∈ now, smallN n) (lo : old.length ≤ 1000000) (ln : now.length ≤ 1000000) : ∀ e ∈ difL old now, smallD e := fun e he => by
  have o := dif_okD h lo ln
  have h1 := mkD_mem.1 (show e ∈ mkD _ _ from he)
  have h2 := inD_iff.1 (okD_in o e he)
  have hs : smallN e.1 := by
    rcases List.mem_append.1 ((setN_mem h e.1).1 h1.1) with k | k
    · exact so _ k
    · exact sn _ k
  exact ⟨hs, by unfold fitI; omega⟩
theorem merge_smallU {a b : List De} (oa : okD a = true) (ob : okD b = true) (sa : ∀ e ∈ a, smallD e) (sb : ∀ e ∈ b, smallD e) : ∀ e ∈ mergeD a b, smallD e := fun e he => by
  obtain ⟨h1, _, _, h4⟩ := merge_parts oa ob
  have hb := byD_mem h1 he
  rw [h4] at hb
  have hin : ∀ {l : List De}, okD l = true → -1099511627776 ≤ byD l e.1 ∧ byD l e.1 ≤ 1099511627776 := fun {l} ol => by
    by_cases k : e.1 ∈ keyD l
    · obtain ⟨x, hx, hxe⟩ := List.mem_map.1 k
      rw [← hxe, byD_mem (okD_rise ol) hx]
      exact inD_iff.1 (okD_in ol x hx)
    · rw [byD_not k]; omega
  have ha := hin oa
  have hbb := hin ob
  refine ⟨?_, by unfold fitI; omega⟩
  rcases merge_keys _ _ e.1 (List.mem_map_of_mem he) with k | k
  · obtain ⟨x, hx, hxe⟩ := List.mem_map.1 k; rw [← hxe]; exact (sa x hx).1
  · obtain ⟨x, hx, hxe⟩ := List.mem_map.1 k; rw [← hxe]; exact (sb x hx).1

set_option maxHeartbeats 3200000 in
/-- Of nodes that may not be. -/
theorem chg_args (m e k : Int) (A : Option Addr) (n c : Nat) (s : List De) (O V : Value) (old now : List Nd) (w : World) (h : Dfs w (.slice A n c) s) (hO : Nds w O old) (hV : Nds w V now) (ss : ∀ e ∈ s, smallD e) (so : ∀ n ∈ old, smallN n) (sn : ∀ n ∈ now, smallN n) (ls : s.length ≤ 100000) (lo : old.length ≤ 50000) (ln : now.length ≤ 50000) (hno : (allN2 old && allN2 now) = false) :
    Calls Tryz.prog 31 #[.agg #[.int .i64 m, .int .i64 e, .slice A n c], .int .i64 k, O, V] w fun x w' => ∃ v, x = .returned (.tuple #[.agg #[.int .i64 (chgE ⟨m, e, s⟩ k old now).1.m, .int .i64 (chgE ⟨m, e, s⟩ k old now).1.e, v], .int .i64 (chgE ⟨m, e, s⟩ k old now).2]) ∧ w'.ownsRow w.heap.size 56 3 v (chgE ⟨m, e, s⟩ k old now).1.s.length (dfC (chgE ⟨m, e, s⟩ k old now).1.s) ∧ Below w.heap.size w w' := by
  rw [chgE_no (by rw [hno, Bool.and_false])]
  simp only
  obtain ⟨W, g, g', hW, hg, hg', r0, r1, hb⟩ := boxU2 w (.int .i64 m) (.int .i64 e) (.slice A n c) (.int .i64 0) (.int .i64 0) (.slice none 0 0) 24 24
  obtain ⟨d0, d1, d2, -⟩ := row3 r0
  obtain ⟨q0, q1, q2, f0, f1, f2⟩ := row3 r1
  have hgW := (Array.getElem?_eq_some_iff.1 r1).1
  obtain ⟨Aa, ca, rfl, ha1, ha2, -, -⟩ := hO.ex
  obtain ⟨Ab, cb, rfl, hb1, hb2, -, -⟩ := hV.ex
  unfold maxLen at ha2 hb2
  obtain ⟨na, hna⟩ : ∃ n, old.length = n := ⟨_, rfl⟩
  obtain ⟨nb, hnb⟩ : ∃ n, now.length = n := ⟨_, rfl⟩
  have kd := fun w h h' => diff_any (.slice Aa old.length ca) (.slice Ab now.length cb) old now w h h' so sn (by omega) (by omega)
  have ko := fun w h => uown_any m e A n c s w h (by omega)
  have kc := fun w h => ucheck_any m e A n c s w h ss (by omega)
  rw [hna] at kd hO ha1 lo ⊢
  rw [hnb] at kd hV hb1 ln ⊢
  have SO := Lib.hid (hO.below hb); have SV := Lib.hid (hV.below hb); have S0 := Lib.hid (h.below hb); have HW := Lib.hid hW; have HG := Lib.hid hg; have HG' := Lib.hid hg'; have BB := Lib.hid hb; have R0 := Lib.hid r0; have RR := Lib.hid r1; have HGW := Lib.hid hgW; have HLE := Lib.hid (show w.heap.size ≤ g' by omega); have HNA := Lib.hid hna; have HNB := Lib.hid hnb; have HSZ := Lib.hid hb.size; have KO := Lib.hid ko
  rw [diffE_no hno] at kd
  simp only [List.length_nil] at kd
  have KD := Lib.hid kd
  clear hO hV h hb hW hg hg' r0 r1 hgW so sn ko kc kd hno
  go_enter Tryz.func31, Tryz.ntmps31
  go_upto_region 1 with fail
  rw [HW.out, HG'.out, HG.out]
  go_wp2_with (first | (go_at_call 45; refine (KD.out _ SO.out SV.out).mono ?_; rintro x w1 ⟨v1, rfl, hrow, hb1⟩; obtain ⟨a1, c1, rfl, hd1⟩ := dfsO hrow; replace R0 := Lib.hid (row_keepB R0.out hb1); replace RR := Lib.hid (row_keepB RR.out hb1); clear d0 d1 d2 f0 f1 f2 q0 q1 q2; obtain ⟨d0, d1, d2, -⟩ := row3 R0.out; obtain ⟨q0, q1, q2, f0, f1, f2⟩ := row3 RR.out; replace S0 := Lib.hid (S0.out.below hb1); replace BB := Lib.hid (below_step BB.out hb1); replace HGW := Lib.hid (Nat.lt_of_lt_of_le HGW.out hb1.size); have S1 := Lib.hid hd1; clear hb1 hrow hd1) | (go_at_call 46; refine (KO.out _ S0.out).mono ?_; rintro x w3 ⟨v3, rfl, hrow, hb1⟩; obtain ⟨a3, c3, rfl, -⟩ := dfsO hrow; have HROW := Lib.hid hrow; have HGO := Lib.hid HGW.out; replace HSZ := Lib.hid BB.out.size; replace R0 := Lib.hid (row_keepB R0.out hb1); replace RR := Lib.hid (row_keepB RR.out hb1); clear d0 d1 d2 f0 f1 f2 q0 q1 q2; obtain ⟨d0, d1, d2, -⟩ := row3 R0.out; obtain ⟨q0, q1, q2, f0, f1, f2⟩ := row3 RR.out; replace S0 := Lib.hid (S0.out.below hb1); replace BB := Lib.hid (below_step BB.out hb1); replace HGW := Lib.hid (Nat.lt_of_lt_of_le HGW.out hb1.size); clear hb1 hrow))
  try simp only [Exit.inBlock, Exit.then]
  refine bodyPost_ret (v := .tuple #[.agg #[.int .i64 m, .int .i64 e, .slice a3 s.length c3], .int .i64 1]) (results_cell_tmp (fn := Tryz.f31) (p := 8) (q := 9) (ty := 24) rfl _ _ g' 24 #[.int .i64 m, .int .i64 e, .slice a3 s.length c3] (0, 0) _ rfl (row3_set RR.out _ _ _) Tryz.underlying24 rfl Tryz.size_use) rfl ?_
  exact ⟨_, rfl, row_base (row_far3 HROW.out HGO.out _ _ _) HSZ.out, ((BB.out.setCell HLE.out _).setCell HLE.out _).setCell HLE.out _⟩

set_option maxHeartbeats 3200000 in
/-- Of use that may not be. -/
theorem chg_use (m e k : Int) (A : Option Addr) (n c : Nat) (s : List De) (O V : Value) (old now : List Nd) (w : World) (h : Dfs w (.slice A n c) s) (hO : Nds w O old) (hV : Nds w V now) (ss : ∀ e ∈ s, smallD e) (so : ∀ n ∈ old, smallN n) (sn : ∀ n ∈ now, smallN n) (ls : s.length ≤ 100000) (lo : old.length ≤ 50000) (ln : now.length ≤ 50000) (hyes : (allN2 old && allN2 now) = true) (hno : Us.ok ⟨m, e, s⟩ = false) :
    Calls Tryz.prog 31 #[.agg #[.int .i64 m, .int .i64 e, .slice A n c], .int .i64 k, O, V] w fun x w' => ∃ v, x = .returned (.tuple #[.agg #[.int .i64 (chgE ⟨m, e, s⟩ k old now).1.m, .int .i64 (chgE ⟨m, e, s⟩ k old now).1.e, v], .int .i64 (chgE ⟨m, e, s⟩ k old now).2]) ∧ w'.ownsRow w.heap.size 56 3 v (chgE ⟨m, e, s⟩ k old now).1.s.length (dfC (chgE ⟨m, e, s⟩ k old now).1.s) ∧ Below w.heap.size w w' := by
  rw [chgE_no (by rw [hno]; rfl)]
  simp only
  obtain ⟨W, g, g', hW, hg, hg', r0, r1, hb⟩ := boxU2 w (.int .i64 m) (.int .i64 e) (.slice A n c) (.int .i64 0) (.int .i64 0) (.slice none 0 0) 24 24
  obtain ⟨d0, d1, d2, -⟩ := row3 r0
  obtain ⟨q0, q1, q2, f0, f1, f2⟩ := row3 r1
  have hgW := (Array.getElem?_eq_some_iff.1 r1).1
  obtain ⟨Aa, ca, rfl, ha1, ha2, -, -⟩ := hO.ex
  obtain ⟨Ab, cb, rfl, hb1, hb2, -, -⟩ := hV.ex
  unfold maxLen at ha2 hb2
  obtain ⟨na, hna⟩ : ∃ n, old.length = n := ⟨_, rfl⟩
  obtain ⟨nb, hnb⟩ : ∃ n, now.length = n := ⟨_, rfl⟩
  have kd := fun w h h' => diff_any (.slice Aa old.length ca) (.slice Ab now.length cb) old now w h h' so sn (by omega) (by omega)
  have ko := fun w h => uown_any m e A n c s w h (by omega)
  have kc := fun w h => ucheck_any m e A n c s w h ss (by omega)
  rw [hna] at kd hO ha1 lo ⊢
  rw [hnb] at kd hV hb1 ln ⊢
  have SO := Lib.hid (hO.below hb); have SV := Lib.hid (hV.below hb); have S0 := Lib.hid (h.below hb); have HW := Lib.hid hW; have HG := Lib.hid hg; have HG' := Lib.hid hg'; have BB := Lib.hid hb; have R0 := Lib.hid r0; have RR := Lib.hid r1; have HGW := Lib.hid hgW; have HLE := Lib.hid (show w.heap.size ≤ g' by omega); have HNA := Lib.hid hna; have HNB := Lib.hid hnb; have HSZ := Lib.hid hb.size; have KO := Lib.hid ko
  rw [diffE_yes hyes] at kd
  rw [chkU_no hno] at kc
  obtain ⟨X, hX⟩ : ∃ X, difL old now = X := ⟨_, rfl⟩
  rw [hX] at kd
  obtain ⟨nx, hnx⟩ : ∃ n, X.length = n := ⟨_, rfl⟩
  have HNX := Lib.hid hnx
  have KD := Lib.hid kd; have KC := Lib.hid kc
  clear hO hV h hb hW hg hg' r0 r1 hgW so sn ko kc kd hno hyes hX hnx
  go_enter Tryz.func31, Tryz.ntmps31
  go_upto_region 1 with fail
  rw [HW.out, HG'.out, HG.out]
  go_wp2_with (first | (go_at_call 45; refine (KD.out _ SO.out SV.out).mono ?_; rintro x w1 ⟨v1, rfl, hrow, hb1⟩; obtain ⟨a1, c1, rfl, hd1⟩ := dfsO hrow; replace R0 := Lib.hid (row_keepB R0.out hb1); replace RR := Lib.hid (row_keepB RR.out hb1); clear d0 d1 d2 f0 f1 f2 q0 q1 q2; obtain ⟨d0, d1, d2, -⟩ := row3 R0.out; obtain ⟨q0, q1, q2, f0, f1, f2⟩ := row3 RR.out; replace S0 := Lib.hid (S0.out.below hb1); replace BB := Lib.hid (below_step BB.out hb1); replace HGW := Lib.hid (Nat.lt_of_lt_of_le HGW.out hb1.size); have S1 := Lib.hid hd1; clear hb1 hrow hd1) | (go_at_call 15; refine (KC.out _ S0.out).mono ?_; rintro x w2 ⟨rfl, hb1⟩; replace R0 := Lib.hid (row_keepB R0.out hb1); replace RR := Lib.hid (row_keepB RR.out hb1); clear d0 d1 d2 f0 f1 f2 q0 q1 q2; obtain ⟨d0, d1, d2, -⟩ := row3 R0.out; obtain ⟨q0, q1, q2, f0, f1, f2⟩ := row3 RR.out; replace S0 := Lib.hid (S0.out.below hb1); replace BB := Lib.hid (below_step BB.out hb1); replace HGW := Lib.hid (Nat.lt_of_lt_of_le HGW.out hb1.size); skip; clear hb1) | (go_at_call 46; refine (KO.out _ S0.out).mono ?_; rintro x w3 ⟨v3, rfl, hrow, hb1⟩; obtain ⟨a3, c3, rfl, -⟩ := dfsO hrow; have HROW := Lib.hid hrow; have HGO := Lib.hid HGW.out; replace HSZ := Lib.hid BB.out.size; replace R0 := Lib.hid (row_keepB R0.out hb1); replace RR := Lib.hid (row_keepB RR.out hb1); clear d0 d1 d2 f0 f1 f2 q0 q1 q2; obtain ⟨d0, d1, d2, -⟩ := row3 R0.out; obtain ⟨q0, q1, q2, f0, f1, f2⟩ := row3 RR.out; replace S0 := Lib.hid (S0.out.below hb1); replace BB := Lib.hid (below_step BB.out hb1); replace HGW := Lib.hid (Nat.lt_of_lt_of_le HGW.out hb1.size); clear hb1 hrow))
  try simp only [Exit.inBlock, Exit.then]
  refine bodyPost_ret (v := .tuple #[.agg #[.int .i64 m, .int .i64 e, .slice a3 s.length c3], .int .i64 1]) (results_cell_tmp (fn := Tryz.f31) (p := 8) (q := 9) (ty := 24) rfl _ _ g' 24 #[.int .i64 m, .int .i64 e, .slice a3 s.length c3] (0, 0) _ rfl (row3_set RR.out _ _ _) Tryz.underlying24 rfl Tryz.size_use) rfl ?_
  exact ⟨_, rfl, row_base (row_far3 HROW.out HGO.out _ _ _) HSZ.out, ((BB.out.setCell HLE.out _).setCell HLE.out _).setCell HLE.out _⟩

set_option maxHeartbeats 3200000 in
/-- Of use, and nodes, that may be. -/
theorem chg_good (m e k : Int) (A : Option Addr) (n c : Nat) (s : List De) (O V : Value) (old now : List Nd) (w : World) (h : Dfs w (.slice A n c) s) (hO : Nds w O old) (hV : Nds w V now) (ss : ∀ e ∈ s, smallD e) (so : ∀ n ∈ old, smallN n) (sn : ∀ n ∈ now, smallN n) (ls : s.length ≤ 100000) (lo : old.length ≤ 50000) (ln : now.length ≤ 50000) (hyes : (allN2 old && allN2 now) = true) (hok : Us.ok ⟨m, e, s⟩ = true) (hk : -1000000 ≤ k ∧ k ≤ 1000000) :
    Calls Tryz.prog 31 #[.agg #[.int .i64 m, .int .i64 e, .slice A n c], .int .i64 k, O, V] w fun x w' => ∃ v, x = .returned (.tuple #[.agg #[.int .i64 (chgE ⟨m, e, s⟩ k old now).1.m, .int .i64 (chgE ⟨m, e, s⟩ k old now).1.e, v], .int .i64 (chgE ⟨m, e, s⟩ k old now).2]) ∧ w'.ownsRow w.heap.size 56 3 v (chgE ⟨m, e, s⟩ k old now).1.s.length (dfC (chgE ⟨m, e, s⟩ k old now).1.s) ∧ Below w.heap.size w w' := by
  obtain ⟨p1, p2, p3, p4⟩ := okU_parts hok
  have hoo : ∀ n ∈ old ++ now, okN n = true := allN2_iff.1 (by rw [allN2_app]; exact hyes)
  have hdo := dif_okD hoo (by omega) (by omega)
  have hds := dif_smallU hoo so sn (by omega) (by omega)
  have hdl := dif_len old now
  have hml := merge_len s (difL old now)
  have hms := merge_smallU p4 hdo ss hds
  have hbk : (okD s && okD (difL old now)) = true := by rw [p4, hdo]; rfl
  have hby := bothE_yes hbk
  have hbn := bothE_far hbk
  have hR : chgE ⟨m, e, s⟩ k old now = if okU (m + k) (e + ((now.length : Int) - old.length - k)) (mergeD s (difL old now)) = true then (⟨m + k, e + ((now.length : Int) - old.length - k), mergeD s (difL old now)⟩, 0) else (⟨m, e, s⟩, if old = [] then 4 else 2) := by
    unfold chgE
    rw [if_pos (by rw [hok, hyes]; rfl)]
    rfl
  rw [hR]
  clear hR
  obtain ⟨xx, hxx⟩ : ∃ z : Int, (if old = [] then 4 else 2) = z := ⟨_, rfl⟩
  have HXX := Lib.hid hxx
  rw [hxx]
  clear hxx
  obtain ⟨W, g, g', hW, hg, hg', r0, r1, hb⟩ := boxU2 w (.int .i64 m) (.int .i64 e) (.slice A n c) (.int .i64 0) (.int .i64 0) (.slice none 0 0) 24 24
  obtain ⟨d0, d1, d2, -⟩ := row3 r0
  obtain ⟨q0, q1, q2, f0, f1, f2⟩ := row3 r1
  have hgW := (Array.getElem?_eq_some_iff.1 r1).1
  obtain ⟨Aa, ca, rfl, ha1, ha2, -, -⟩ := hO.ex
  obtain ⟨Ab, cb, rfl, hb1, hb2, -, -⟩ := hV.ex
  unfold maxLen at ha2 hb2
  obtain ⟨na, hna⟩ : ∃ n, old.length = n := ⟨_, rfl⟩
  obtain ⟨nb, hnb⟩ : ∃ n, now.length = n := ⟨_, rfl⟩
  have kd := fun w h h' => diff_any (.slice Aa old.length ca) (.slice Ab now.length cb) old now w h h' so sn (by omega) (by omega)
  have ko := fun w h => uown_any m e A n c s w h (by omega)
  have kc := fun w h => ucheck_any m e A n c s w h ss (by omega)
  rw [hna] at kd hO ha1 lo ⊢
  rw [hnb] at kd hV hb1 ln ⊢
  have SO := Lib.hid (hO.below hb); have SV := Lib.hid (hV.below hb); have S0 := Lib.hid (h.below hb); have HW := Lib.hid hW; have HG := Lib.hid hg; have HG' := Lib.hid hg'; have BB := Lib.hid hb; have R0 := Lib.hid r0; have RR := Lib.hid r1; have HGW := Lib.hid hgW; have HLE := Lib.hid (show w.heap.size ≤ g' by omega); have HNA := Lib.hid hna; have HNB := Lib.hid hnb; have HSZ := Lib.hid hb.size; have KO := Lib.hid ko
  rw [hna, hnb] at hdl
  rw [diffE_yes hyes] at kd
  rw [chkU_yes hok] at kc
  rw [inU_iff] at p1 p2
  simp only at p1 p2
  have kb := fun U V w h h' => both_any U V s (difL old now) w h h' ss hds ls (by omega)
  obtain ⟨X, hX⟩ : ∃ X, difL old now = X := ⟨_, rfl⟩
  obtain ⟨Y, hY⟩ : ∃ Y, mergeD s X = Y := ⟨_, rfl⟩
  obtain ⟨m2, hm2⟩ : ∃ z, m + k = z := ⟨_, rfl⟩
  obtain ⟨z1, hz1⟩ : ∃ z : Int, (nb : Int) - na = z := ⟨_, rfl⟩
  obtain ⟨z2, hz2⟩ : ∃ z, z1 - k = z := ⟨_, rfl⟩
  obtain ⟨e2, he2⟩ : ∃ z, e + z2 = z := ⟨_, rfl⟩
  have t1 : IntKind.i64.wrap ((nb : Int) - (na : Int)) = z1 := by rw [← hz1]; exact IntWalk.i64_in _ (by omega)
  have t2 : IntKind.i64.wrap (z1 - k) = z2 := by rw [← hz2]; exact IntWalk.i64_in _ (by omega)
  have t3 : IntKind.i64.wrap (m + k) = m2 := by rw [← hm2]; exact IntWalk.i64_in _ (by omega)
  have t4 : IntKind.i64.wrap (e + z2) = e2 := by rw [← he2]; exact IntWalk.i64_in _ (by omega)
  rw [hz1, hz2, he2, hm2, hX, hY]
  rw [hX] at kd kb hdl hml hms hby hbn
  rw [hY] at hml hms hby hbn
  obtain ⟨nx, hnx⟩ : ∃ n, X.length = n := ⟨_, rfl⟩
  rw [hnx] at hdl hml
  have HNX := Lib.hid hnx
  have KD := Lib.hid kd; have KC := Lib.hid kc
  clear hO hV h hb hW hg hg' r0 r1 hgW so sn ko kc kd p1 p2 p3 p4 hoo hdo hds hbk hX hY hz1 hz2 hm2 he2 hyes hok hk hnx hna hnb
  obtain ⟨o, ho⟩ : ∃ o, okD Y = o := ⟨_, rfl⟩
  cases o
  · have hno : okU m2 e2 Y = false := by unfold okU; rw [ho, Bool.and_false]
    rw [hno, if_neg (by simp)]
    rw [hbn ho] at kb
    simp only [List.length_nil] at kb
    have KB := Lib.hid kb
    clear kb hby hbn ho hno hml hms
    simp only
    go_enter Tryz.func31, Tryz.ntmps31
    go_upto_region 1 with fail
    rw [HW.out, HG'.out, HG.out]
    go_upto_region 4 with (first
      | (go_at_call 45; refine (KD.out _ SO.out SV.out).mono ?_; rintro x w1 ⟨v1, rfl, hrow, hb1⟩; obtain ⟨a1, c1, rfl, hd1⟩ := dfsO hrow; replace R0 := Lib.hid (row_keepB R0.out hb1); replace RR := Lib.hid (row_keepB RR.out hb1); clear d0 d1 d2 f0 f1 f2 q0 q1 q2; obtain ⟨d0, d1, d2, -⟩ := row3 R0.out; obtain ⟨q0, q1, q2, f0, f1, f2⟩ := row3 RR.out; replace S0 := Lib.hid (S0.out.below hb1); replace BB := Lib.hid (below_step BB.out hb1); replace HGW := Lib.hid (Nat.lt_of_lt_of_le HGW.out hb1.size); have S1 := Lib.hid hd1; clear hb1 hrow hd1)
      | (go_at_call 15; refine (KC.out _ S0.out).mono ?_; rintro x w2 ⟨rfl, hb1⟩; replace R0 := Lib.hid (row_keepB R0.out hb1); replace RR := Lib.hid (row_keepB RR.out hb1); clear d0 d1 d2 f0 f1 f2 q0 q1 q2; obtain ⟨d0, d1, d2, -⟩ := row3 R0.out; obtain ⟨q0, q1, q2, f0, f1, f2⟩ := row3 RR.out; replace S0 := Lib.hid (S0.out.below hb1); replace BB := Lib.hid (below_step BB.out hb1); replace HGW := Lib.hid (Nat.lt_of_lt_of_le HGW.out hb1.size); replace S1 := Lib.hid (S1.out.below hb1); clear hb1))
    go_upto_region 7 with (go_at_call 47; refine (KB.out _ _ _ S0.out S1.out).mono ?_; rintro x w4 ⟨v4, rfl, hrow, hb1⟩; obtain ⟨a5, c5, rfl, hd5⟩ := dfsO hrow; have SX := Lib.hid hd5; have HROW := Lib.hid hrow; have HGO := Lib.hid HGW.out; replace HSZ := Lib.hid BB.out.size; replace R0 := Lib.hid (row_keepB R0.out hb1); replace RR := Lib.hid (row_keepB RR.out hb1); clear d0 d1 d2 f0 f1 f2 q0 q1 q2; obtain ⟨d0, d1, d2, -⟩ := row3 R0.out; obtain ⟨q0, q1, q2, f0, f1, f2⟩ := row3 RR.out; replace S0 := Lib.hid (S0.out.below hb1); replace BB := Lib.hid (below_step BB.out hb1); replace HGW := Lib.hid (Nat.lt_of_lt_of_le HGW.out hb1.size); clear hb1 hrow hd5 S1 KB)
    obtain ⟨W4, g4, hW4, hg4, r4, hb4⟩ := boxU w4 (.int .i64 m2) (.int .i64 e2) (.slice a5 0 c5) 24
    rw [hW4, hg4]
    replace R0 := Lib.hid (row_keepB R0.out hb4); replace RR := Lib.hid (row_keepB RR.out hb4); clear d0 d1 d2 f0 f1 f2 q0 q1 q2; obtain ⟨d0, d1, d2, -⟩ := row3 R0.out; obtain ⟨q0, q1, q2, f0, f1, f2⟩ := row3 RR.out; replace S0 := Lib.hid (S0.out.below hb4); replace BB := Lib.hid (below_step BB.out hb4); replace HGW := Lib.hid (Nat.lt_of_lt_of_le HGW.out hb4.size)
    replace HROW := Lib.hid (ownsRow_belowB HROW.out hb4); replace SX := Lib.hid (SX.out.below hb4)
    obtain ⟨y0, y1, y2, -⟩ := row3 r4
    have RX := Lib.hid r4
    clear hW4 hg4 r4 hb4
    obtain rfl | hpos : na = 0 ∨ 0 < na := by omega
    · have hnil : old = [] := List.eq_nil_of_length_eq_zero HNA.out
      obtain rfl : (4 : Int) = xx := by rw [← HXX.out, if_pos hnil]
      clear hnil HXX
      go_wp2_with ((go_at_call 46; refine (KO.out _ S0.out).mono ?_; rintro x w3 ⟨v3, rfl, hrow, hb1⟩; obtain ⟨a3, c3, rfl, -⟩ := dfsO hrow; replace HROW := Lib.hid hrow; replace HGO := Lib.hid HGW.out; replace HSZ := Lib.hid BB.out.size; replace R0 := Lib.hid (row_keepB R0.out hb1); replace RR := Lib.hid (row_keepB RR.out hb1); clear d0 d1 d2 f0 f1 f2 q0 q1 q2; obtain ⟨d0, d1, d2, -⟩ := row3 R0.out; obtain ⟨q0, q1, q2, f0, f1, f2⟩ := row3 RR.out; replace S0 := Lib.hid (S0.out.below hb1); replace BB := Lib.hid (below_step BB.out hb1); replace HGW := Lib.hid (Nat.lt_of_lt_of_le HGW.out hb1.size); clear hb1 hrow))
      try simp only [Exit.inBlock, Exit.then]
      refine bodyPost_ret (v := .tuple #[.agg #[.int .i64 m, .int .i64 e, .slice a3 s.length c3], .int .i64 4]) (results_cell_tmp (fn := Tryz.f31) (p := 8) (q := 9) (ty := 24) rfl _ _ g' 24 #[.int .i64 m, .int .i64 e, .slice a3 s.length c3] (0, 0) _ rfl (row3_set RR.out _ _ _) Tryz.underlying24 rfl Tryz.size_use) rfl ?_
      exact ⟨_, rfl, row_base (row_far3 HROW.out HGO.out _ _ _) HSZ.out, ((BB.out.setCell HLE.out _).setCell HLE.out _).setCell HLE.out _⟩
    · have hnn : ¬ old = [] := fun q => by have := HNA.out; rw [q] at this; simp at this; omega
      have hp1 : decide (0 < na) = true := decide_eq_true hpos
      have hp2 : decide ((0 : Int) < (na : Int)) = true := decide_eq_true (by omega)
      obtain rfl : (2 : Int) = xx := by rw [← HXX.out, if_neg hnn]
      clear hnn HXX
      go_wp2_with ((go_at_call 46; refine (KO.out _ S0.out).mono ?_; rintro x w3 ⟨v3, rfl, hrow, hb1⟩; obtain ⟨a3, c3, rfl, -⟩ := dfsO hrow; replace HROW := Lib.hid hrow; replace HGO := Lib.hid HGW.out; replace HSZ := Lib.hid BB.out.size; replace R0 := Lib.hid (row_keepB R0.out hb1); replace RR := Lib.hid (row_keepB RR.out hb1); clear d0 d1 d2 f0 f1 f2 q0 q1 q2; obtain ⟨d0, d1, d2, -⟩ := row3 R0.out; obtain ⟨q0, q1, q2, f0, f1, f2⟩ := row3 RR.out; replace S0 := Lib.hid (S0.out.below hb1); replace BB := Lib.hid (below_step BB.out hb1); replace HGW := Lib.hid (Nat.lt_of_lt_of_le HGW.out hb1.size); clear hb1 hrow))
      try simp only [Exit.inBlock, Exit.then]
      refine bodyPost_ret (v := .tuple #[.agg #[.int .i64 m, .int .i64 e, .slice a3 s.length c3], .int .i64 2]) (results_cell_tmp (fn := Tryz.f31) (p := 8) (q := 9) (ty := 24) rfl _ _ g' 24 #[.int .i64 m, .int .i64 e, .slice a3 s.length c3] (0, 0) _ rfl (row3_set RR.out _ _ _) Tryz.underlying24 rfl Tryz.size_use) rfl ?_
      exact ⟨_, rfl, row_base (row_far3 HROW.out HGO.out _ _ _) HSZ.out, ((BB.out.setCell HLE.out _).setCell HLE.out _).setCell HLE.out _⟩
  · rw [hby ho] at kb
    simp only at kb
    have hyl : Y.length ≤ 1000000 := by omega
    have kc2 := fun A n c w h => ucheck_any m2 e2 A n c Y w h hms hyl
    obtain ⟨ny, hny⟩ : ∃ n, Y.length = n := ⟨_, rfl⟩
    have HLY := Lib.hid hny
    rw [hny] at kb
    have KB := Lib.hid kb
    clear kb hby hbn ho hml hms hyl hny
    obtain ⟨q, hq⟩ : ∃ q, okU m2 e2 Y = q := ⟨_, rfl⟩
    rw [hq]
    cases q
    · rw [chkU_no hq] at kc2
      rw [if_neg (by simp)]
      have KC2 := Lib.hid kc2
      clear kc2 hq
      simp only
      go_enter Tryz.func31, Tryz.ntmps31
      go_upto_region 1 with fail
      rw [HW.out, HG'.out, HG.out]
      go_upto_region 4 with (first
        | (go_at_call 45; refine (KD.out _ SO.out SV.out).mono ?_; rintro x w1 ⟨v1, rfl, hrow, hb1⟩; obtain ⟨a1, c1, rfl, hd1⟩ := dfsO hrow; replace R0 := Lib.hid (row_keepB R0.out hb1); replace RR := Lib.hid (row_keepB RR.out hb1); clear d0 d1 d2 f0 f1 f2 q0 q1 q2; obtain ⟨d0, d1, d2, -⟩ := row3 R0.out; obtain ⟨q0, q1, q2, f0, f1, f2⟩ := row3 RR.out; replace S0 := Lib.hid (S0.out.below hb1); replace BB := Lib.hid (below_step BB.out hb1); replace HGW := Lib.hid (Nat.lt_of_lt_of_le HGW.out hb1.size); have S1 := Lib.hid hd1; clear hb1 hrow hd1)
        | (go_at_call 15; refine (KC.out _ S0.out).mono ?_; rintro x w2 ⟨rfl, hb1⟩; replace R0 := Lib.hid (row_keepB R0.out hb1); replace RR := Lib.hid (row_keepB RR.out hb1); clear d0 d1 d2 f0 f1 f2 q0 q1 q2; obtain ⟨d0, d1, d2, -⟩ := row3 R0.out; obtain ⟨q0, q1, q2, f0, f1, f2⟩ := row3 RR.out; replace S0 := Lib.hid (S0.out.below hb1); replace BB := Lib.hid (below_step BB.out hb1); replace HGW := Lib.hid (Nat.lt_of_lt_of_le HGW.out hb1.size); replace S1 := Lib.hid (S1.out.below hb1); clear hb1))
      go_upto_region 7 with (go_at_call 47; refine (KB.out _ _ _ S0.out S1.out).mono ?_; rintro x w4 ⟨v4, rfl, hrow, hb1⟩; have hrow5 := hrow; rw [← HLY.out] at hrow5; obtain ⟨a5, c5, rfl, hd5⟩ := dfsO hrow5; rw [HLY.out] at hd5 hrow; (try rw [HLY.out]); clear hrow5; have SX := Lib.hid hd5; have HROW := Lib.hid hrow; have HGO := Lib.hid HGW.out; replace HSZ := Lib.hid BB.out.size; replace R0 := Lib.hid (row_keepB R0.out hb1); replace RR := Lib.hid (row_keepB RR.out hb1); clear d0 d1 d2 f0 f1 f2 q0 q1 q2; obtain ⟨d0, d1, d2, -⟩ := row3 R0.out; obtain ⟨q0, q1, q2, f0, f1, f2⟩ := row3 RR.out; replace S0 := Lib.hid (S0.out.below hb1); replace BB := Lib.hid (below_step BB.out hb1); replace HGW := Lib.hid (Nat.lt_of_lt_of_le HGW.out hb1.size); clear hb1 hrow hd5 S1 KB)
      obtain ⟨W4, g4, hW4, hg4, r4, hb4⟩ := boxU w4 (.int .i64 m2) (.int .i64 e2) (.slice a5 ny c5) 24
      rw [hW4, hg4]
      replace R0 := Lib.hid (row_keepB R0.out hb4); replace RR := Lib.hid (row_keepB RR.out hb4); clear d0 d1 d2 f0 f1 f2 q0 q1 q2; obtain ⟨d0, d1, d2, -⟩ := row3 R0.out; obtain ⟨q0, q1, q2, f0, f1, f2⟩ := row3 RR.out; replace S0 := Lib.hid (S0.out.below hb4); replace BB := Lib.hid (below_step BB.out hb4); replace HGW := Lib.hid (Nat.lt_of_lt_of_le HGW.out hb4.size)
      replace HROW := Lib.hid (ownsRow_belowB HROW.out hb4); replace SX := Lib.hid (SX.out.below hb4)
      obtain ⟨y0, y1, y2, -⟩ := row3 r4
      have RX := Lib.hid r4
      clear hW4 hg4 r4 hb4
      obtain rfl | hpos : na = 0 ∨ 0 < na := by omega
      · have hnil : old = [] := List.eq_nil_of_length_eq_zero HNA.out
        obtain rfl : (4 : Int) = xx := by rw [← HXX.out, if_pos hnil]
        clear hnil HXX
        go_wp2_with (first | (go_at_call 15; refine (KC2.out _ _ _ _ SX.out).mono ?_; rintro x w5 ⟨rfl, hb1⟩; replace R0 := Lib.hid (row_keepB R0.out hb1); replace RR := Lib.hid (row_keepB RR.out hb1); clear d0 d1 d2 f0 f1 f2 q0 q1 q2; obtain ⟨d0, d1, d2, -⟩ := row3 R0.out; obtain ⟨q0, q1, q2, f0, f1, f2⟩ := row3 RR.out; replace S0 := Lib.hid (S0.out.below hb1); replace BB := Lib.hid (below_step BB.out hb1); replace HGW := Lib.hid (Nat.lt_of_lt_of_le HGW.out hb1.size); replace HROW := Lib.hid (ownsRow_belowB HROW.out hb1); replace RX := Lib.hid (row_keepB RX.out hb1); clear y0 y1 y2; obtain ⟨y0, y1, y2, -⟩ := row3 RX.out; clear hb1) | (go_at_call 46; refine (KO.out _ S0.out).mono ?_; rintro x w3 ⟨v3, rfl, hrow, hb1⟩; obtain ⟨a3, c3, rfl, -⟩ := dfsO hrow; replace HROW := Lib.hid hrow; replace HGO := Lib.hid HGW.out; replace HSZ := Lib.hid BB.out.size; replace R0 := Lib.hid (row_keepB R0.out hb1); replace RR := Lib.hid (row_keepB RR.out hb1); clear d0 d1 d2 f0 f1 f2 q0 q1 q2; obtain ⟨d0, d1, d2, -⟩ := row3 R0.out; obtain ⟨q0, q1, q2, f0, f1, f2⟩ := row3 RR.out; replace S0 := Lib.hid (S0.out.below hb1); replace BB := Lib.hid (below_step BB.out hb1); replace HGW := Lib.hid (Nat.lt_of_lt_of_le HGW.out hb1.size); clear hb1 hrow))
        try simp only [Exit.inBlock, Exit.then]
        refine bodyPost_ret (v := .tuple #[.agg #[.int .i64 m, .int .i64 e, .slice a3 s.length c3], .int .i64 4]) (results_cell_tmp (fn := Tryz.f31) (p := 8) (q := 9) (ty := 24) rfl _ _ g' 24 #[.int .i64 m, .int .i64 e, .slice a3 s.length c3] (0, 0) _ rfl (row3_set RR.out _ _ _) Tryz.underlying24 rfl Tryz.size_use) rfl ?_
        exact ⟨_, rfl, row_base (row_far3 HROW.out HGO.out _ _ _) HSZ.out, ((BB.out.setCell HLE.out _).setCell HLE.out _).setCell HLE.out _⟩
      · have hnn : ¬ old = [] := fun q => by have := HNA.out; rw [q] at this; simp at this; omega
        have hp1 : decide (0 < na) = true := decide_eq_true hpos
        have hp2 : decide ((0 : Int) < (na : Int)) = true := decide_eq_true (by omega)
        obtain rfl : (2 : Int) = xx := by rw [← HXX.out, if_neg hnn]
        clear hnn HXX
        go_wp2_with (first | (go_at_call 15; refine (KC2.out _ _ _ _ SX.out).mono ?_; rintro x w5 ⟨rfl, hb1⟩; replace R0 := Lib.hid (row_keepB R0.out hb1); replace RR := Lib.hid (row_keepB RR.out hb1); clear d0 d1 d2 f0 f1 f2 q0 q1 q2; obtain ⟨d0, d1, d2, -⟩ := row3 R0.out; obtain ⟨q0, q1, q2, f0, f1, f2⟩ := row3 RR.out; replace S0 := Lib.hid (S0.out.below hb1); replace BB := Lib.hid (below_step BB.out hb1); replace HGW := Lib.hid (Nat.lt_of_lt_of_le HGW.out hb1.size); replace HROW := Lib.hid (ownsRow_belowB HROW.out hb1); replace RX := Lib.hid (row_keepB RX.out hb1); clear y0 y1 y2; obtain ⟨y0, y1, y2, -⟩ := row3 RX.out; clear hb1) | (go_at_call 46; refine (KO.out _ S0.out).mono ?_; rintro x w3 ⟨v3, rfl, hrow, hb1⟩; obtain ⟨a3, c3, rfl, -⟩ := dfsO hrow; replace HROW := Lib.hid hrow; replace HGO := Lib.hid HGW.out; replace HSZ := Lib.hid BB.out.size; replace R0 := Lib.hid (row_keepB R0.out hb1); replace RR := Lib.hid (row_keepB RR.out hb1); clear d0 d1 d2 f0 f1 f2 q0 q1 q2; obtain ⟨d0, d1, d2, -⟩ := row3 R0.out; obtain ⟨q0, q1, q2, f0, f1, f2⟩ := row3 RR.out; replace S0 := Lib.hid (S0.out.below hb1); replace BB := Lib.hid (below_step BB.out hb1); replace HGW := Lib.hid (Nat.lt_of_lt_of_le HGW.out hb1.size); clear hb1 hrow))
        try simp only [Exit.inBlock, Exit.then]
        refine bodyPost_ret (v := .tuple #[.agg #[.int .i64 m, .int .i64 e, .slice a3 s.length c3], .int .i64 2]) (results_cell_tmp (fn := Tryz.f31) (p := 8) (q := 9) (ty := 24) rfl _ _ g' 24 #[.int .i64 m, .int .i64 e, .slice a3 s.length c3] (0, 0) _ rfl (row3_set RR.out _ _ _) Tryz.underlying24 rfl Tryz.size_use) rfl ?_
        exact ⟨_, rfl, row_base (row_far3 HROW.out HGO.out _ _ _) HSZ.out, ((BB.out.setCell HLE.out _).setCell HLE.out _).setCell HLE.out _⟩
    · rw [chkU_yes hq] at kc2
      rw [if_pos rfl]
      have KC2 := Lib.hid kc2
      clear kc2 hq
      simp only
      rw [HLY.out]
      go_enter Tryz.func31, Tryz.ntmps31
      go_upto_region 1 with fail
      rw [HW.out, HG'.out, HG.out]
      go_upto_region 4 with (first
        | (go_at_call 45; refine (KD.out _ SO.out SV.out).mono ?_; rintro x w1 ⟨v1, rfl, hrow, hb1⟩; obtain ⟨a1, c1, rfl, hd1⟩ := dfsO hrow; replace R0 := Lib.hid (row_keepB R0.out hb1); replace RR := Lib.hid (row_keepB RR.out hb1); clear d0 d1 d2 f0 f1 f2 q0 q1 q2; obtain ⟨d0, d1, d2, -⟩ := row3 R0.out; obtain ⟨q0, q1, q2, f0, f1, f2⟩ := row3 RR.out; replace S0 := Lib.hid (S0.out.below hb1); replace BB := Lib.hid (below_step BB.out hb1); replace HGW := Lib.hid (Nat.lt_of_lt_of_le HGW.out hb1.size); have S1 := Lib.hid hd1; clear hb1 hrow hd1)
        | (go_at_call 15; refine (KC.out _ S0.out).mono ?_; rintro x w2 ⟨rfl, hb1⟩; replace R0 := Lib.hid (row_keepB R0.out hb1); replace RR := Lib.hid (row_keepB RR.out hb1); clear d0 d1 d2 f0 f1 f2 q0 q1 q2; obtain ⟨d0, d1, d2, -⟩ := row3 R0.out; obtain ⟨q0, q1, q2, f0, f1, f2⟩ := row3 RR.out; replace S0 := Lib.hid (S0.out.below hb1); replace BB := Lib.hid (below_step BB.out hb1); replace HGW := Lib.hid (Nat.lt_of_lt_of_le HGW.out hb1.size); replace S1 := Lib.hid (S1.out.below hb1); clear hb1))
      go_upto_region 7 with (go_at_call 47; refine (KB.out _ _ _ S0.out S1.out).mono ?_; rintro x w4 ⟨v4, rfl, hrow, hb1⟩; have hrow5 := hrow; rw [← HLY.out] at hrow5; obtain ⟨a5, c5, rfl, hd5⟩ := dfsO hrow5; rw [HLY.out] at hd5 hrow; (try rw [HLY.out]); clear hrow5; have SX := Lib.hid hd5; have HROW := Lib.hid hrow; have HGO := Lib.hid HGW.out; replace HSZ := Lib.hid BB.out.size; replace R0 := Lib.hid (row_keepB R0.out hb1); replace RR := Lib.hid (row_keepB RR.out hb1); clear d0 d1 d2 f0 f1 f2 q0 q1 q2; obtain ⟨d0, d1, d2, -⟩ := row3 R0.out; obtain ⟨q0, q1, q2, f0, f1, f2⟩ := row3 RR.out; replace S0 := Lib.hid (S0.out.below hb1); replace BB := Lib.hid (below_step BB.out hb1); replace HGW := Lib.hid (Nat.lt_of_lt_of_le HGW.out hb1.size); clear hb1 hrow hd5 S1 KB)
      obtain ⟨W4, g4, hW4, hg4, r4, hb4⟩ := boxU w4 (.int .i64 m2) (.int .i64 e2) (.slice a5 ny c5) 24
      rw [hW4, hg4]
      replace R0 := Lib.hid (row_keepB R0.out hb4); replace RR := Lib.hid (row_keepB RR.out hb4); clear d0 d1 d2 f0 f1 f2 q0 q1 q2; obtain ⟨d0, d1, d2, -⟩ := row3 R0.out; obtain ⟨q0, q1, q2, f0, f1, f2⟩ := row3 RR.out; replace S0 := Lib.hid (S0.out.below hb4); replace BB := Lib.hid (below_step BB.out hb4); replace HGW := Lib.hid (Nat.lt_of_lt_of_le HGW.out hb4.size)
      replace HROW := Lib.hid (ownsRow_belowB HROW.out hb4); replace SX := Lib.hid (SX.out.below hb4)
      obtain ⟨y0, y1, y2, -⟩ := row3 r4
      have RX := Lib.hid r4
      clear hW4 hg4 r4 hb4
      go_wp2_with ((go_at_call 15; refine (KC2.out _ _ _ _ SX.out).mono ?_; rintro x w5 ⟨rfl, hb1⟩; replace R0 := Lib.hid (row_keepB R0.out hb1); replace RR := Lib.hid (row_keepB RR.out hb1); clear d0 d1 d2 f0 f1 f2 q0 q1 q2; obtain ⟨d0, d1, d2, -⟩ := row3 R0.out; obtain ⟨q0, q1, q2, f0, f1, f2⟩ := row3 RR.out; replace S0 := Lib.hid (S0.out.below hb1); replace BB := Lib.hid (below_step BB.out hb1); replace HGW := Lib.hid (Nat.lt_of_lt_of_le HGW.out hb1.size); replace HROW := Lib.hid (ownsRow_belowB HROW.out hb1); replace RX := Lib.hid (row_keepB RX.out hb1); clear y0 y1 y2; obtain ⟨y0, y1, y2, -⟩ := row3 RX.out; clear hb1))
      try simp only [Exit.inBlock, Exit.then]
      refine bodyPost_ret (v := .tuple #[.agg #[.int .i64 m2, .int .i64 e2, .slice a5 ny c5], .int .i64 0]) (results_cell_tmp (fn := Tryz.f31) (p := 8) (q := 9) (ty := 24) rfl _ _ g' 24 #[.int .i64 m2, .int .i64 e2, .slice a5 ny c5] (0, 0) _ rfl (row3_set RR.out _ _ _) Tryz.underlying24 rfl Tryz.size_use) rfl ?_
      exact ⟨_, rfl, row_base (row_far3 HROW.out HGO.out _ _ _) HSZ.out, ((BB.out.setCell HLE.out _).setCell HLE.out _).setCell HLE.out _⟩

/-- Of whatever there is. -/
theorem chg_any (m e k : Int) (A : Option Addr) (n c : Nat) (s : List De) (O V : Value) (old now : List Nd) (w : World) (h : Dfs w (.slice A n c) s) (hO : Nds w O old) (hV : Nds w V now) (ss : ∀ e ∈ s, smallD e) (so : ∀ n ∈ old, smallN n) (sn : ∀ n ∈ now, smallN n) (ls : s.length ≤ 100000) (lo : old.length ≤ 50000) (ln : now.length ≤ 50000) (hk : -1000000 ≤ k ∧ k ≤ 1000000) :
    Calls Tryz.prog 31 #[.agg #[.int .i64 m, .int .i64 e, .slice A n c], .int .i64 k, O, V] w fun x w' => ∃ v, x = .returned (.tuple #[.agg #[.int .i64 (chgE ⟨m, e, s⟩ k old now).1.m, .int .i64 (chgE ⟨m, e, s⟩ k old now).1.e, v], .int .i64 (chgE ⟨m, e, s⟩ k old now).2]) ∧ w'.ownsRow w.heap.size 56 3 v (chgE ⟨m, e, s⟩ k old now).1.s.length (dfC (chgE ⟨m, e, s⟩ k old now).1.s) ∧ Below w.heap.size w w' := by
  cases hy : (allN2 old && allN2 now)
  · exact chg_args m e k A n c s O V old now w h hO hV ss so sn ls lo ln hy
  · cases ho : Us.ok ⟨m, e, s⟩
    · exact chg_use m e k A n c s O V old now w h hO hV ss so sn ls lo ln hy ho
    · exact chg_good m e k A n c s O V old now w h hO hV ss so sn ls lo ln hy ho hk
end Go.Proofs.YtglhjdbnpdoinaaGreat

namespace Go.Proofs.YtglhjdbnpdoinaaGreat
open Go.RowKit
set_option linter.unusedVariables false
set_option maxRecDepth 100000

theorem Nds.lenU {w : World} {A : Option Addr} {n c : Nat} {l : List Nd} (h : Nds w (.slice A n c) l) : l.length = n ∧ n ≤ c ∧ c ≤ maxLen := by
  obtain ⟨_, _, hv, h1, h2, _⟩ := h.ex
  injection hv with e1 e2 e3
  subst e2 e3; exact ⟨rfl, h1, h2⟩
theorem run_app_nd {w : World} {base n : Nat} {v : Value} {K : List Nd} (hown : w.ownsRow base 26 2 v n (ndsC K)) {a0 : Option Addr} {m c : Nat} {L : List Nd} (hN : Nds w (.slice a0 m c) L) (hlen : n + m ≤ 2000000) (hbase : base ≤ w.heap.size) (t : TypeId) :
    ∃ v' w', (Builtin.append_ #[27, 27] t #[v, .slice a0 m c]).run Tryz.prog w = .ok v' w' ∧ w'.ownsRow base 26 2 v' (n + m) (ndsC (K ++ L)) ∧ w.grownBy w' v.ownBlock ∧ (v'.ownBlock = v.ownBlock ∨ v'.ownBlock = some w.heap.size ∧ w.heap.size < w'.heap.size) := by
  obtain ⟨i, hi, hz, hsize, hby⟩ := info_parts Tryz.info_node
  have hm : m = L.length := hN.lenU.1.symm
  cases a0 with
  | none =>
    obtain ⟨rfl, rfl⟩ := hN.nil rfl
    have hL : L = [] := List.eq_nil_of_length_eq_zero hm.symm
    subst hL
    have hr := run_append_owned_none (P := Tryz.prog) (w := w) base 27 t 26 i 2 Tryz.underlying27 hi v n _ hown
    exact ⟨v, w, hr, by simpa using hown, ⟨rfl, rfl, rfl, Nat.le_refl _, fun _ _ _ => rfl⟩, .inl rfl⟩
  | some ad =>
    obtain ⟨v', w', hr, h2, h3, _, h5⟩ := run_append_own_at (P := Tryz.prog) w base 27 t 26 i (.agg #[.string ByteArray.empty, .string ByteArray.empty]) 2 32 Tryz.underlying27 hi hz hsize hby rfl (by decide) v n _ hown ad m c (ndsC L) (by rw [ndsC_len, hm]) (hN.src ad rfl) (fun u hu => List.all_eq_true.1 (ndsC_one L) u hu) (by unfold maxLen; omega) (by omega) hbase
    rw [← ndsC_app] at h2
    refine ⟨v', w', hr, h2, h3, h5.imp id fun e => ⟨e, ?_⟩⟩
    exact (h2.lt _ e).2
section
variable {ops : Array Oper} {Q : Exit → Act → World → Prop} {a : Act} {w w0 : World} {who : Nat → Nat} {i B r ro : Nat} {o : Oper}
/-- 'append(row, l...)', the row one that a box's field holds. -/
theorem rol_app_nd (ho : ops[i]? = some o) (hw : Region.wanted o (yielded ops a.tmps) = true) {s : Nat} (hd : o.dst = some s) (hs : s < a.tmps.size) {y x : Operand} (hop : o.op = .call { callee := .builtin .append, args := #[y, x], argTypes := #[27, 27] })
    {N n t : Nat} {K : List Nd} {X : Value} (h : (RLeaf.mem t (rowX X N 26 2 n (ndsC K))).holds r a w who) (hy : a.eval y = X) {a0 : Option Addr} {m c : Nat} (hx : a.eval x = .slice a0 m c) {L : List Nd} (hN : Nds w (.slice a0 m c) L) (hlen : n + m ≤ 2000000) (hb : Below B w0 w) (hB : B ≤ N) (hNw : N ≤ w.heap.size) {n' : Nat} {K' : List Nd} (hn : n' = n + m) (hK : K' = K ++ L) :
    wpOp Tryz.prog ops Q i (RPost ops i r r (.mem s (rowG N 26 2 n' (ndsC K'))) B w0 a w who) a w := by
  subst hn hK
  obtain ⟨v, ob, hv, hob, hrow, rfl⟩ := h
  obtain ⟨v', w', hr, h2, h3, h5⟩ := run_app_nd hrow hN hlen hNw o.type
  exact rol_grow ho hw hd hs (ex_append hop hy hx hr) h3 hob h5 ⟨h2, rfl⟩ hb (Nat.le_trans hB hNw) (fun b e => Nat.le_trans hB (own_lt hrow e).1)
end

/-- Use whose row is the call's own. -/
def useG (N : Nat) (m e : Int) (s : List De) : World → Value → Option Nat → Prop := fun w v ob => ∃ x, v = .agg #[.int .i64 m, .int .i64 e, x] ∧ w.ownsRow N 56 3 x s.length (dfC s) ∧ ob = x.ownBlock
theorem useG_near {N : Nat} {m e : Int} {s : List De} : ∀ (w w' : World) (v : Value) (ob : Option Nat), (∀ b, ob = some b → w'.heap[b]? = w.heap[b]?) → useG N m e s w v ob → useG N m e s w' v ob := by
  rintro w w' v ob hb ⟨x, rfl, h, rfl⟩
  exact ⟨x, rfl, row_heap h hb, rfl⟩
/-- The same, with a number beside it. -/
def tupU (N : Nat) (m e : Int) (s : List De) (z : Value) : World → Value → Option Nat → Prop := fun w v ob => ∃ u, v = .tuple #[u, z] ∧ useG N m e s w u ob
theorem tupU_near {N : Nat} {m e : Int} {s : List De} {z : Value} : ∀ (w w' : World) (v : Value) (ob : Option Nat), (∀ b, ob = some b → w'.heap[b]? = w.heap[b]?) → tupU N m e s z w v ob → tupU N m e s z w' v ob := by
  rintro w w' v ob hb ⟨u, rfl, h⟩
  exact ⟨u, rfl, useG_near w w' u ob hb h⟩
/-- A box of three cells holds what stands in a slot. -/
def boxUG (g : Nat) (t : TypeId) : World → Value → Option Nat → Prop := fun w v ob => ob = some g ∧ ∃ x y z, v = .agg #[x, y, z] ∧ w.heap[g]? = some (.cells #[x, y, z] t (0, 0))
theorem boxUG_near {g : Nat} {t : TypeId} : ∀ (w w' : World) (v : Value) (ob : Option Nat), (∀ b, ob = some b → w'.heap[b]? = w.heap[b]?) → boxUG g t w v ob → boxUG g t w' v ob := by
  rintro w w' v ob hb ⟨rfl, x, y, z, rfl, h⟩
  exact ⟨rfl, x, y, z, rfl, (hb g rfl).trans h⟩
section
variable {P : Program} {ops : Array Oper} {Q : Exit → Act → World → Prop} {a : Act} {w w0 : World} {who : Nat → Nat} {i B r ro : Nat} {o : Oper}
/-- It reads out of what a slot holds: a value whose block is the same. -/
theorem rol_read (ho : ops[i]? = some o) (hw : Region.wanted o (yielded ops a.tmps) = true) {s t : Nat} (hd : o.dst = some s) (hs : s < a.tmps.size) {p q : World → Value → Option Nat → Prop} (h : (RLeaf.mem t p).holds r a w who)
    (hr : ∀ v ob, a.tmps[t]? = some v → p w v ob → ∃ v', Sem.run P (execOp a.eval o) w = .ok (.value v') w ∧ q w v' ob) (hb : Below B w0 w) : wpOp P ops Q i (RPost ops i r ro (.mem s q) B w0 a w who) a w := by
  obtain ⟨v, ob, hv, hob, hp⟩ := h
  obtain ⟨v', hr', hq⟩ := hr v ob hv hp
  refine rol_wp ho hw ?_
  unfold Oper.wp
  rw [hr', Oper.upon_value, hd]
  exact ⟨⟨v', by rw [dst_of ho, hd]⟩, hb, who, RKeep.same _ _ _, v', ob, put_self _ hs, hob, hq⟩
/-- Three values, held by a slot, are put into a box of three cells. -/
theorem rol_putbox3 (ho : ops[i]? = some o) (hw : Region.wanted o (yielded ops a.tmps) = true) (hd : o.dst = none) {g t : Nat} {v : Value} (hv : a.tmps[t]? = some v) {x y z x0 y0 z0 : Value} {ty : TypeId} (hx : v = .agg #[x, y, z]) (hg : w.heap[g]? = some (.cells #[x0, y0, z0] ty (0, 0)) ∧ who g = r) (hBg : B ≤ g)
    (hr : Sem.run P (execOp a.eval o) w = .ok .skip (((w.setCell ⟨g, 0, none⟩ x).setCell ⟨g, 1, none⟩ y).setCell ⟨g, 2, none⟩ z)) (hb : Below B w0 w) : wpOp P ops Q i (RPost ops i r r (.mem t (boxUG g ty)) B w0 a w who) a w := by
  subst hx
  refine rol_wp ho hw ?_
  unfold Oper.wp
  rw [hr, Oper.upon_skip, hd]
  have hlt : g < w.heap.size := (Array.getElem?_eq_some_iff.1 hg.1).1
  refine ⟨⟨undef, by rw [dst_of ho, hd]⟩, ((hb.setCell hBg _).setCell hBg _).setCell hBg _, who, ⟨fun k _ hk2 => ?_, fun _ _ => rfl, by simp [World.setCell]⟩, _, some g, hv, fun b e => ?_, rfl, _, _, _, rfl, row3_set hg.1 _ _ _⟩
  · have hne : k ≠ g := fun e => hk2 (by rw [e]; exact hg.2)
    rw [Below.heap_setCell _ ⟨g, 2, none⟩ _ k hne, Below.heap_setCell _ ⟨g, 1, none⟩ _ k hne, Below.heap_setCell _ ⟨g, 0, none⟩ _ k hne]
  · cases e
    exact ⟨by simp [World.setCell]; exact hlt, hg.2⟩
end
theorem store_use {w : World} {g : Nat} {m e : Int} {A : Option Addr} {n c : Nat} {x0 y0 z0 : Value} {t : TypeId} (h : w.heap[g]? = some (.cells #[x0, y0, z0] t (0, 0))) : Sem.run Tryz.prog (Instr.storeAt 24 (.pointer (some ⟨g, 0, none⟩)) (.agg #[.int .i64 m, .int .i64 e, .slice A n c])) w = .ok () (((w.setCell ⟨g, 0, none⟩ (.int .i64 m)).setCell ⟨g, 1, none⟩ (.int .i64 e)).setCell ⟨g, 2, none⟩ (.slice A n c)) := by
  obtain ⟨d0, d1, d2, f0, f1, f2⟩ := row3 h
  go_simp
theorem ld_use {w : World} {g : Nat} {m e : Int} {A : Option Addr} {n c : Nat} {t : TypeId} (h : w.heap[g]? = some (.cells #[.int .i64 m, .int .i64 e, .slice A n c] t (0, 0))) : Sem.run Tryz.prog (Instr.loadAt 24 (.pointer (some ⟨g, 0, none⟩))) w = .ok (.agg #[.int .i64 m, .int .i64 e, .slice A n c]) w := by
  obtain ⟨d0, d1, d2, f0, f1, f2⟩ := row3 h
  go_simp
section
variable {ops : Array Oper} {Q : Exit → Act → World → Prop} {a : Act} {w w0 : World} {who : Nat → Nat} {i B r ro : Nat} {o : Oper}
/-- Use is put into a box. -/
theorem rol_boxU (ho : ops[i]? = some o) (hw : Region.wanted o (yielded ops a.tmps) = true) (hd : o.dst = none) {x : Operand} {t g : Nat} (hop : o.op = .store 24 x (.tmp t)) (hx : a.eval x = .pointer (some ⟨g, 0, none⟩)) {N : Nat} {m e : Int} {s : List De} {r2 : Nat} (h : (RLeaf.mem t (useG N m e s)).holds r2 a w who)
    {x0 y0 z0 : Value} {ty : TypeId} (hg : (RLeaf.box g (.cells #[x0, y0, z0] ty)).holds r a w who) (hb : Below B w0 w) (hB : B ≤ g) : wpOp Tryz.prog ops Q i (RPost ops i r r (.mem t (boxUG g ty)) B w0 a w who) a w := by
  obtain ⟨v, ob, hv, -, x, rfl, hrow, -⟩ := h
  obtain ⟨A, c, rfl, -⟩ := dfsO hrow
  exact rol_putbox3 ho hw hd hv rfl hg hB (ex_store hop hx (eval_slot hv) (store_use hg.1)) hb
end

set_option maxHeartbeats 3200000 in
theorem take_any (m e : Int) (A : Option Addr) (n c : Nat) (s : List De) (p v : List UInt8) (V : Value) (l : List Nd) (w : World) (h : Dfs w (.slice A n c) s) (hV : Nds w V l) (ss : ∀ e ∈ s, smallD e) (sn : smallN (p, v)) (sl : ∀ n ∈ l, smallN n) (ls : s.length ≤ 100000) (ll : l.length ≤ 40000) :
    Calls Tryz.prog 13 #[.agg #[.int .i64 m, .int .i64 e, .slice A n c], .agg #[.string (mkB p), .string (mkB v)], V] w fun x w' => ∃ v', x = .returned (.tuple #[.agg #[.int .i64 (chgE ⟨m, e, s⟩ (1) [] ((p, v) :: l)).1.m, .int .i64 (chgE ⟨m, e, s⟩ (1) [] ((p, v) :: l)).1.e, v'], .int .i64 (chgE ⟨m, e, s⟩ (1) [] ((p, v) :: l)).2]) ∧ w'.ownsRow w.heap.size 56 3 v' (chgE ⟨m, e, s⟩ (1) [] ((p, v) :: l)).1.s.length (dfC (chgE ⟨m, e, s⟩ (1) [] ((p, v) :: l)).1.s) ∧ Below w.heap.size w w' := by
  obtain ⟨W, gs, gn, gr, hW, hg, hg', hg'', r0, r1, r2, hb⟩ := boxUNU w (.int .i64 m) (.int .i64 e) (.slice A n c) (.string (mkB p)) (.string (mkB v)) (.int .i64 0) (.int .i64 0) (.slice none 0 0) 24 26 24
  obtain ⟨Al, cl, rfl, hl1, hl2, -, -⟩ := hV.ex
  unfold maxLen at hl2
  obtain ⟨nl, hnl⟩ : ∃ n, l.length = n := ⟨_, rfl⟩
  have hLl : ((p, v) :: l).length = nl + 1 := by rw [List.length_cons, hnl]
  have sL : ∀ n ∈ (p, v) :: l, smallN n := fun n hn => by
    rcases List.mem_cons.1 hn with rfl | hn
    · exact sn
    · exact sl n hn
  rw [hnl] at hV hl1 ll ⊢
  have hgrW := (Array.getElem?_eq_some_iff.1 r2).1
  have kc := fun V w h h' => chg_any m e (1) A n c s (.slice none 0 0) V [] ((p, v) :: l) w h (nds_none _) h' ss (fun _ hn => by cases hn) sL ls (by simp) (by rw [hLl]; omega) (by omega)
  obtain ⟨R, hR⟩ : ∃ R, chgE ⟨m, e, s⟩ (1) [] ((p, v) :: l) = R := ⟨_, rfl⟩
  rw [hR] at kc ⊢
  obtain ⟨⟨rm, re, rs⟩, rz⟩ := R
  simp only at kc ⊢
  obtain ⟨L, hL⟩ : ∃ L, (p, v) :: l = L := ⟨_, rfl⟩
  rw [hL] at kc hLl
  have SS := Lib.hid h; have SL := Lib.hid hV; have KC := Lib.hid kc; have HW := Lib.hid hW; have HG := Lib.hid hg; have HG' := Lib.hid hg'; have HG'' := Lib.hid hg''; have BB := Lib.hid hb; have R0 := Lib.hid r0; have R1 := Lib.hid r1; have R2 := Lib.hid r2; have HL := Lib.hid hL; have HLL := Lib.hid hLl; have HNL := Lib.hid (show nl ≤ 500000 by omega)
  have HGL := Lib.hid (show w.heap.size ≤ gr by omega); have HN1 := Lib.hid (show ¬ gs = gr by omega); have HN2 := Lib.hid (show ¬ gn = gr by omega); have HGR := Lib.hid hgrW
  clear h hV kc hW hg hg' hg'' hb r0 r1 r2 hL hLl ss sn sl sL hnl hR hgrW
  have e1 : ∀ args w, (callFunc 32 args).run Tryz.prog w = .ok (.enter 32 args) w := enters_of Tryz.func32 (by kernel_rfl) rfl
  have e2 : ∀ args w, (callFunc 31 args).run Tryz.prog w = .ok (.enter 31 args) w := enters_of Tryz.func31 (by kernel_rfl) rfl
  go_enter Tryz.func13, Tryz.ntmps13
  go_upto_region 1 with fail
  rw [HW.out, HG''.out, HG'.out, HG.out]
  refine rol_run (by kernel_rfl) [[], [], [], [1, 2], [0, 1, 2, 3], [0, 1, 2, 3, 4], [0, 1, 2, 3, 4], [0, 1, 2, 3, 4, 5, 6], [0, 1, 2, 3, 4, 5, 6, 7]] (by kernel_rfl) [8, 9, 10, 11, 12, 13, 14, 7] [[9], [10], [], [1, 2], [0, 3], [4], [4], [5, 11], [6]] [0, 0, 0, 1, 1, 1, 0, 2, 0, 3, 3, 2] [0, 0, 0, 0, 0, 0, 0, 2, 0] [1000, 1000, 1000, 1000, 1000, 1000, 1000, 1000, 1000, 1000, 1000, 7] [.val 8 (.agg #[.int .i64 m, .int .i64 e, .slice A n c]), .val 9 (.agg #[.string (mkB p), .string (mkB v)]), .val 10 (.slice Al nl cl), .mem 11 (rowG W.heap.size 26 2 L.length (ndsC L)), .mem 12 (tupU W.heap.size rm re rs (.int .i64 rz)), .mem 13 (useG W.heap.size rm re rs), .val 14 (.int .i64 rz), .mem 13 (boxUG gr 24), .val 7 (.int .i64 rz), .box (gs) (.cells #[.int .i64 m, .int .i64 e, .slice A n c] 24), .box (gn) (.cells #[.string (mkB p), .string (mkB v)] 26), .box (gr) (.cells #[.int .i64 0, .int .i64 0, .slice none 0 0] 24)] (by kernel_rfl) ?_ (w.heap.size) (W.heap.size) rfl BB.out rfl (fun k => if k = gr then 2 else 3) ?_ ?_ ?_
  · intro j hj
    have hj3 : j < 12 := hj
    have hj2 : j = 0 ∨ j = 1 ∨ j = 2 ∨ j = 3 ∨ j = 4 ∨ j = 5 ∨ j = 6 ∨ j = 7 ∨ j = 8 ∨ j = 9 ∨ j = 10 ∨ j = 11 := by omega
    clear hj hj3
    rcases hj2 with rfl | rfl | rfl | rfl | rfl | rfl | rfl | rfl | rfl | rfl | rfl | rfl
    · exact trivial
    · exact trivial
    · exact trivial
    · exact rowG_near
    · exact tupU_near
    · exact useG_near
    · exact trivial
    · exact boxUG_near
    · exact trivial
    · exact trivial
    · exact trivial
    · exact trivial
  · intro j hj0 hj
    have hj1 : 9 ≤ j := hj0
    have hj3 : j < 12 := hj
    have hj2 : j = 9 ∨ j = 10 ∨ j = 11 := by omega
    clear hj0 hj hj1 hj3
    rcases hj2 with rfl | rfl | rfl
    · exact ⟨R0.out, if_neg HN1.out⟩
    · exact ⟨R1.out, if_neg HN2.out⟩
    · exact ⟨R2.out, if_pos rfl⟩
  · intro i hi a wx who hG hF
    have hz : a.tmps.size = 15 := hG.size
    have hi3 : i < 9 := hi
    have hi2 : i = 0 ∨ i = 1 ∨ i = 2 ∨ i = 3 ∨ i = 4 ∨ i = 5 ∨ i = 6 ∨ i = 7 ∨ i = 8 := by omega
    clear hi hi3
    rcases hi2 with rfl | rfl | rfl | rfl | rfl | rfl | rfl | rfl | rfl
    · exact rol_val rfl rfl rfl (by rw [hz]; decide) (ex_load rfl (eval_slot ((hG.slots 3 (by decide)).trans rfl)) (ld_use (hF 9 (by decide)).1)) hG.below
    · exact rol_val rfl rfl rfl (by rw [hz]; decide) (ex_load rfl (eval_slot ((hG.slots 4 (by decide)).trans rfl)) (ld_node (row2 (hF 10 (by decide)).1).1 (row2 (hF 10 (by decide)).1).2.1)) hG.below
    · exact rol_val rfl rfl rfl (by rw [hz]; decide) (ex_move (Or.inl rfl) (eval_slot ((hG.slots 2 (by decide)).trans rfl))) hG.below
    · refine rol_calls rfl rfl rfl (by rw [hz]; decide) (ex_call rfl (by simp [eval_slot (hF 1 (by decide)), eval_slot (hF 2 (by decide))]) e1) (spoken_any p v Al nl cl l wx (SL.out.below hG.below) HNL.out) ?_ hG.below (Nat.le_trans BB.out.size hG.new)
      rintro e w1 ⟨u, rfl, hown, hb1⟩
      rw [HL.out, ← HLL.out] at hown
      exact ⟨u, rfl, hb1, .inr (.inl ⟨_, u.ownBlock, rfl, fun b e => hown.lt b e, row_base hown hG.new, rfl⟩)⟩
    · obtain ⟨v', ob, hv, hob, hown, rfl⟩ := hF 3 (by decide)
      refine rol_calls rfl rfl rfl (by rw [hz]; decide) (ex_call rfl (by simp [eval_slot (hF 0 (by decide)), eval_slot hv]; exact ⟨rfl, rfl⟩) e2) (KC.out v' wx (SS.out.below hG.below) (Nds.owned hown)) ?_ hG.below (Nat.le_trans BB.out.size hG.new)
      rintro e w1 ⟨u, rfl, hown, hb1⟩
      exact ⟨_, rfl, hb1, .inr (.inl ⟨_, u.ownBlock, rfl, fun b e => hown.lt b e, _, rfl, u, rfl, row_base hown hG.new, rfl⟩)⟩
    · exact rol_read rfl rfl rfl (by rw [hz]; decide) (hF 4 (by decide)) (fun v ob hv hp => by
        obtain ⟨u, rfl, hu⟩ := hp
        exact ⟨u, ex_extract rfl (eval_slot hv) rfl, hu⟩) hG.below
    · obtain ⟨v', ob, hv, hob, u, rfl, hu⟩ := hF 4 (by decide)
      exact rol_val rfl rfl rfl (by rw [hz]; decide) (ex_extract rfl (eval_slot hv) rfl) hG.below
    · exact rol_boxU rfl rfl rfl rfl (eval_slot ((hG.slots 6 (by decide)).trans rfl)) (hF 5 (by decide)) (hF 11 (by decide)) hG.below HGL.out
    · exact rol_val rfl rfl rfl (by rw [hz]; decide) (ex_move (Or.inr rfl) (eval_slot (hF 6 (by decide)))) hG.below
  · intro a wx who hG hF
    obtain ⟨v13, ob13, fv13, fo13, fp13⟩ := hF 5 (of_decide_eq_true (by kernel_rfl)) (of_decide_eq_true (by kernel_rfl))
    replace fv13 : a.tmps.getD 13 undef = v13 := eval_slot (s := 13) fv13
    have fv7 : a.tmps.getD 7 undef = .int .i64 rz := eval_slot (s := 7) (hF 8 (of_decide_eq_true (by kernel_rfl)) (of_decide_eq_true (by kernel_rfl)))
    have hbox := hF 7 (of_decide_eq_true (by kernel_rfl)) (of_decide_eq_true (by kernel_rfl))
    obtain ⟨p9, ob9, hp9, -, -, x9, y9, z9, hv9, hrow9⟩ := hbox
    have e9 : v13 = p9 := fv13.symm.trans (eval_slot hp9)
    subst e9
    clear hp9 ob9
    have hbx := hG.below
    have hnx := hG.new
    rw [hG.frame]
    simp only [List.foldl_cons, List.foldl_nil, List.setIfInBounds_toArray, List.set_cons_zero, List.set_cons_succ]
    generalize a.tmps.getD 8 undef = u8
    generalize a.tmps.getD 9 undef = u9
    generalize a.tmps.getD 10 undef = u10
    generalize a.tmps.getD 11 undef = u11
    generalize a.tmps.getD 12 undef = u12
    rw [fv13]
    generalize a.tmps.getD 14 undef = u14
    rw [fv7]
    clear hF hG fv13 fv7
    obtain ⟨x, hx, hrow, -⟩ := fp13
    rw [hx] at hv9 ⊢
    injection hv9 with hv9
    injection hv9 with hv9
    injection hv9 with q1 hv9
    injection hv9 with q2 hv9
    injection hv9 with q3 _
    subst q1 q2 q3 hx
    have HROW := Lib.hid hrow; have HR9 := Lib.hid hrow9; have HWS := Lib.hid BB.out.size
    clear fo13 hrow hrow9
    go_wp2
    try simp only [Exit.inBlock, Exit.then]
    refine bodyPost_ret (v := .tuple #[.agg #[.int .i64 rm, .int .i64 re, x], .int .i64 rz]) (results_cell_tmp (fn := Tryz.f13) (p := 6) (q := 7) (ty := 24) rfl _ _ gr 24 #[.int .i64 rm, .int .i64 re, x] (0, 0) _ rfl HR9.out Tryz.underlying24 rfl Tryz.size_use) rfl ?_
    exact ⟨_, rfl, row_base HROW.out HWS.out, hbx⟩

set_option maxHeartbeats 3200000 in
theorem give_any (m e : Int) (A : Option Addr) (n c : Nat) (s : List De) (p v : List UInt8) (V : Value) (l : List Nd) (w : World) (h : Dfs w (.slice A n c) s) (hV : Nds w V l) (ss : ∀ e ∈ s, smallD e) (sn : smallN (p, v)) (sl : ∀ n ∈ l, smallN n) (ls : s.length ≤ 100000) (ll : l.length ≤ 40000) :
    Calls Tryz.prog 14 #[.agg #[.int .i64 m, .int .i64 e, .slice A n c], .agg #[.string (mkB p), .string (mkB v)], V] w fun x w' => ∃ v', x = .returned (.tuple #[.agg #[.int .i64 (chgE ⟨m, e, s⟩ (-1) ((p, v) :: l) []).1.m, .int .i64 (chgE ⟨m, e, s⟩ (-1) ((p, v) :: l) []).1.e, v'], .int .i64 (chgE ⟨m, e, s⟩ (-1) ((p, v) :: l) []).2]) ∧ w'.ownsRow w.heap.size 56 3 v' (chgE ⟨m, e, s⟩ (-1) ((p, v) :: l) []).1.s.length (dfC (chgE ⟨m, e, s⟩ (-1) ((p, v) :: l) []).1.s) ∧ Below w.heap.size w w' := by
  obtain ⟨W, gs, gn, gr, hW, hg, hg', hg'', r0, r1, r2, hb⟩ := boxUNU w (.int .i64 m) (.int .i64 e) (.slice A n c) (.string (mkB p)) (.string (mkB v)) (.int .i64 0) (.int .i64 0) (.slice none 0 0) 24 26 24
  obtain ⟨Al, cl, rfl, hl1, hl2, -, -⟩ := hV.ex
  unfold maxLen at hl2
  obtain ⟨nl, hnl⟩ : ∃ n, l.length = n := ⟨_, rfl⟩
  have hLl : ((p, v) :: l).length = nl + 1 := by rw [List.length_cons, hnl]
  have sL : ∀ n ∈ (p, v) :: l, smallN n := fun n hn => by
    rcases List.mem_cons.1 hn with rfl | hn
    · exact sn
    · exact sl n hn
  rw [hnl] at hV hl1 ll ⊢
  have hgrW := (Array.getElem?_eq_some_iff.1 r2).1
  have kc := fun V w h h' => chg_any m e (-1) A n c s V (.slice none 0 0) ((p, v) :: l) [] w h h' (nds_none _) ss sL (fun _ hn => by cases hn) ls (by rw [hLl]; omega) (by simp) (by omega)
  obtain ⟨R, hR⟩ : ∃ R, chgE ⟨m, e, s⟩ (-1) ((p, v) :: l) [] = R := ⟨_, rfl⟩
  rw [hR] at kc ⊢
  obtain ⟨⟨rm, re, rs⟩, rz⟩ := R
  simp only at kc ⊢
  obtain ⟨L, hL⟩ : ∃ L, (p, v) :: l = L := ⟨_, rfl⟩
  rw [hL] at kc hLl
  have SS := Lib.hid h; have SL := Lib.hid hV; have KC := Lib.hid kc; have HW := Lib.hid hW; have HG := Lib.hid hg; have HG' := Lib.hid hg'; have HG'' := Lib.hid hg''; have BB := Lib.hid hb; have R0 := Lib.hid r0; have R1 := Lib.hid r1; have R2 := Lib.hid r2; have HL := Lib.hid hL; have HLL := Lib.hid hLl; have HNL := Lib.hid (show nl ≤ 500000 by omega)
  have HGL := Lib.hid (show w.heap.size ≤ gr by omega); have HN1 := Lib.hid (show ¬ gs = gr by omega); have HN2 := Lib.hid (show ¬ gn = gr by omega); have HGR := Lib.hid hgrW
  clear h hV kc hW hg hg' hg'' hb r0 r1 r2 hL hLl ss sn sl sL hnl hR hgrW
  have e1 : ∀ args w, (callFunc 32 args).run Tryz.prog w = .ok (.enter 32 args) w := enters_of Tryz.func32 (by kernel_rfl) rfl
  have e2 : ∀ args w, (callFunc 31 args).run Tryz.prog w = .ok (.enter 31 args) w := enters_of Tryz.func31 (by kernel_rfl) rfl
  go_enter Tryz.func14, Tryz.ntmps14
  go_upto_region 1 with fail
  rw [HW.out, HG''.out, HG'.out, HG.out]
  refine rol_run (by kernel_rfl) [[], [], [], [1, 2], [0, 1, 2, 3], [0, 1, 2, 3, 4], [0, 1, 2, 3, 4], [0, 1, 2, 3, 4, 5, 6], [0, 1, 2, 3, 4, 5, 6, 7]] (by kernel_rfl) [8, 9, 10, 11, 12, 13, 14, 7] [[9], [10], [], [1, 2], [0, 3], [4], [4], [5, 11], [6]] [0, 0, 0, 1, 1, 1, 0, 2, 0, 3, 3, 2] [0, 0, 0, 0, 0, 0, 0, 2, 0] [1000, 1000, 1000, 1000, 1000, 1000, 1000, 1000, 1000, 1000, 1000, 7] [.val 8 (.agg #[.int .i64 m, .int .i64 e, .slice A n c]), .val 9 (.agg #[.string (mkB p), .string (mkB v)]), .val 10 (.slice Al nl cl), .mem 11 (rowG W.heap.size 26 2 L.length (ndsC L)), .mem 12 (tupU W.heap.size rm re rs (.int .i64 rz)), .mem 13 (useG W.heap.size rm re rs), .val 14 (.int .i64 rz), .mem 13 (boxUG gr 24), .val 7 (.int .i64 rz), .box (gs) (.cells #[.int .i64 m, .int .i64 e, .slice A n c] 24), .box (gn) (.cells #[.string (mkB p), .string (mkB v)] 26), .box (gr) (.cells #[.int .i64 0, .int .i64 0, .slice none 0 0] 24)] (by kernel_rfl) ?_ (w.heap.size) (W.heap.size) rfl BB.out rfl (fun k => if k = gr then 2 else 3) ?_ ?_ ?_
  · intro j hj
    have hj3 : j < 12 := hj
    have hj2 : j = 0 ∨ j = 1 ∨ j = 2 ∨ j = 3 ∨ j = 4 ∨ j = 5 ∨ j = 6 ∨ j = 7 ∨ j = 8 ∨ j = 9 ∨ j = 10 ∨ j = 11 := by omega
    clear hj hj3
    rcases hj2 with rfl | rfl | rfl | rfl | rfl | rfl | rfl | rfl | rfl | rfl | rfl | rfl
    · exact trivial
    · exact trivial
    · exact trivial
    · exact rowG_near
    · exact tupU_near
    · exact useG_near
    · exact trivial
    · exact boxUG_near
    · exact trivial
    · exact trivial
    · exact trivial
    · exact trivial
  · intro j hj0 hj
    have hj1 : 9 ≤ j := hj0
    have hj3 : j < 12 := hj
    have hj2 : j = 9 ∨ j = 10 ∨ j = 11 := by omega
    clear hj0 hj hj1 hj3
    rcases hj2 with rfl | rfl | rfl
    · exact ⟨R0.out, if_neg HN1.out⟩
    · exact ⟨R1.out, if_neg HN2.out⟩
    · exact ⟨R2.out, if_pos rfl⟩
  · intro i hi a wx who hG hF
    have hz : a.tmps.size = 15 := hG.size
    have hi3 : i < 9 := hi
    have hi2 : i = 0 ∨ i = 1 ∨ i = 2 ∨ i = 3 ∨ i = 4 ∨ i = 5 ∨ i = 6 ∨ i = 7 ∨ i = 8 := by omega
    clear hi hi3
    rcases hi2 with rfl | rfl | rfl | rfl | rfl | rfl | rfl | rfl | rfl
    · exact rol_val rfl rfl rfl (by rw [hz]; decide) (ex_load rfl (eval_slot ((hG.slots 3 (by decide)).trans rfl)) (ld_use (hF 9 (by decide)).1)) hG.below
    · exact rol_val rfl rfl rfl (by rw [hz]; decide) (ex_load rfl (eval_slot ((hG.slots 4 (by decide)).trans rfl)) (ld_node (row2 (hF 10 (by decide)).1).1 (row2 (hF 10 (by decide)).1).2.1)) hG.below
    · exact rol_val rfl rfl rfl (by rw [hz]; decide) (ex_move (Or.inl rfl) (eval_slot ((hG.slots 2 (by decide)).trans rfl))) hG.below
    · refine rol_calls rfl rfl rfl (by rw [hz]; decide) (ex_call rfl (by simp [eval_slot (hF 1 (by decide)), eval_slot (hF 2 (by decide))]) e1) (spoken_any p v Al nl cl l wx (SL.out.below hG.below) HNL.out) ?_ hG.below (Nat.le_trans BB.out.size hG.new)
      rintro e w1 ⟨u, rfl, hown, hb1⟩
      rw [HL.out, ← HLL.out] at hown
      exact ⟨u, rfl, hb1, .inr (.inl ⟨_, u.ownBlock, rfl, fun b e => hown.lt b e, row_base hown hG.new, rfl⟩)⟩
    · obtain ⟨v', ob, hv, hob, hown, rfl⟩ := hF 3 (by decide)
      refine rol_calls rfl rfl rfl (by rw [hz]; decide) (ex_call rfl (by simp [eval_slot (hF 0 (by decide)), eval_slot hv]; exact ⟨rfl, rfl⟩) e2) (KC.out v' wx (SS.out.below hG.below) (Nds.owned hown)) ?_ hG.below (Nat.le_trans BB.out.size hG.new)
      rintro e w1 ⟨u, rfl, hown, hb1⟩
      exact ⟨_, rfl, hb1, .inr (.inl ⟨_, u.ownBlock, rfl, fun b e => hown.lt b e, _, rfl, u, rfl, row_base hown hG.new, rfl⟩)⟩
    · exact rol_read rfl rfl rfl (by rw [hz]; decide) (hF 4 (by decide)) (fun v ob hv hp => by
        obtain ⟨u, rfl, hu⟩ := hp
        exact ⟨u, ex_extract rfl (eval_slot hv) rfl, hu⟩) hG.below
    · obtain ⟨v', ob, hv, hob, u, rfl, hu⟩ := hF 4 (by decide)
      exact rol_val rfl rfl rfl (by rw [hz]; decide) (ex_extract rfl (eval_slot hv) rfl) hG.below
    · exact rol_boxU rfl rfl rfl rfl (eval_slot ((hG.slots 6 (by decide)).trans rfl)) (hF 5 (by decide)) (hF 11 (by decide)) hG.below HGL.out
    · exact rol_val rfl rfl rfl (by rw [hz]; decide) (ex_move (Or.inr rfl) (eval_slot (hF 6 (by decide)))) hG.below
  · intro a wx who hG hF
    obtain ⟨v13, ob13, fv13, fo13, fp13⟩ := hF 5 (of_decide_eq_true (by kernel_rfl)) (of_decide_eq_true (by kernel_rfl))
    replace fv13 : a.tmps.getD 13 undef = v13 := eval_slot (s := 13) fv13
    have fv7 : a.tmps.getD 7 undef = .int .i64 rz := eval_slot (s := 7) (hF 8 (of_decide_eq_true (by kernel_rfl)) (of_decide_eq_true (by kernel_rfl)))
    have hbox := hF 7 (of_decide_eq_true (by kernel_rfl)) (of_decide_eq_true (by kernel_rfl))
    obtain ⟨p9, ob9, hp9, -, -, x9, y9, z9, hv9, hrow9⟩ := hbox
    have e9 : v13 = p9 := fv13.symm.trans (eval_slot hp9)
    subst e9
    clear hp9 ob9
    have hbx := hG.below
    have hnx := hG.new
    rw [hG.frame]
    simp only [List.foldl_cons, List.foldl_nil, List.setIfInBounds_toArray, List.set_cons_zero, List.set_cons_succ]
    generalize a.tmps.getD 8 undef = u8
    generalize a.tmps.getD 9 undef = u9
    generalize a.tmps.getD 10 undef = u10
    generalize a.tmps.getD 11 undef = u11
    generalize a.tmps.getD 12 undef = u12
    rw [fv13]
    generalize a.tmps.getD 14 undef = u14
    rw [fv7]
    clear hF hG fv13 fv7
    obtain ⟨x, hx, hrow, -⟩ := fp13
    rw [hx] at hv9 ⊢
    injection hv9 with hv9
    injection hv9 with hv9
    injection hv9 with q1 hv9
    injection hv9 with q2 hv9
    injection hv9 with q3 _
    subst q1 q2 q3 hx
    have HROW := Lib.hid hrow; have HR9 := Lib.hid hrow9; have HWS := Lib.hid BB.out.size
    clear fo13 hrow hrow9
    go_wp2
    try simp only [Exit.inBlock, Exit.then]
    refine bodyPost_ret (v := .tuple #[.agg #[.int .i64 rm, .int .i64 re, x], .int .i64 rz]) (results_cell_tmp (fn := Tryz.f14) (p := 6) (q := 7) (ty := 24) rfl _ _ gr 24 #[.int .i64 rm, .int .i64 re, x] (0, 0) _ rfl HR9.out Tryz.underlying24 rfl Tryz.size_use) rfl ?_
    exact ⟨_, rfl, row_base HROW.out HWS.out, hbx⟩
end Go.Proofs.YtglhjdbnpdoinaaGreat

namespace Go.Proofs.YtglhjdbnpdoinaaGreat
open Go.RowKit
set_option linter.unusedVariables false
set_option maxRecDepth 100000

theorem blk_nd {w : World} {b : Nat} {p v : List UInt8} (h : w.heap[b]? = some (.cells #[.string (mkB p), .string (mkB v)] 26 (0, 0))) : Nds w (.slice (some ⟨b, 0, none⟩) 1 1) [(p, v)] :=
  Nds.owned (base := 0) (e := 26) ⟨rfl, .inr ⟨b, 1, _, rfl, Nat.zero_le _, h, Nat.le_refl _, by unfold maxLen; omega, rfl, rfl⟩⟩

set_option maxHeartbeats 3200000 in
theorem rooton_any (m e : Int) (A : Option Addr) (n c : Nat) (s : List De) (p v : List UInt8) (w : World) (h : Dfs w (.slice A n c) s) (ss : ∀ e ∈ s, smallD e) (sn : smallN (p, v)) (ls : s.length ≤ 100000) :
    Calls Tryz.prog 22 #[.agg #[.int .i64 m, .int .i64 e, .slice A n c], .agg #[.string (mkB p), .string (mkB v)], .bool true] w fun x w' => ∃ v', x = .returned (.tuple #[.agg #[.int .i64 (chgE ⟨m, e, s⟩ 0 [] [(p, v)]).1.m, .int .i64 (chgE ⟨m, e, s⟩ 0 [] [(p, v)]).1.e, v'], .int .i64 (chgE ⟨m, e, s⟩ 0 [] [(p, v)]).2]) ∧ w'.ownsRow w.heap.size 56 3 v' (chgE ⟨m, e, s⟩ 0 [] [(p, v)]).1.s.length (dfC (chgE ⟨m, e, s⟩ 0 [] [(p, v)]).1.s) ∧ Below w.heap.size w w' := by
  obtain ⟨W, gs, gn, gr, hW, hg, hg', hg'', r0, r1, r2, hb⟩ := boxUNU w (.int .i64 m) (.int .i64 e) (.slice A n c) (.string (mkB p)) (.string (mkB v)) (.int .i64 0) (.int .i64 0) (.slice none 0 0) 24 26 24
  have sL : ∀ n ∈ [(p, v)], smallN n := fun n hn => by rw [List.mem_singleton.1 hn]; exact sn
  have hgrW := (Array.getElem?_eq_some_iff.1 r2).1
  obtain ⟨d0, d1, d2, -⟩ := row3 r0
  obtain ⟨e0, e1, -, -⟩ := row2 r1
  obtain ⟨q0, q1, q2, f0, f1, f2⟩ := row3 r2
  have kc := fun V w h h' => chg_any m e 0 A n c s (.slice none 0 0) V [] [(p, v)] w h (nds_none _) h' ss (fun _ hn => by cases hn) sL ls (by simp) (by simp) (by omega)
  obtain ⟨R, hR⟩ : ∃ R, chgE ⟨m, e, s⟩ 0 [] [(p, v)] = R := ⟨_, rfl⟩
  rw [hR] at kc ⊢
  obtain ⟨⟨rm, re, rs⟩, rz⟩ := R
  simp only at kc ⊢
  have hb2 : Below W.heap.size W (W.alloc (.cells #[.string (mkB p), .string (mkB v)] 26)) := (Below.refl _ _).alloc (Nat.le_refl _) _
  have hnd := blk_nd (heap_alloc_new W (.cells #[.string (mkB p), .string (mkB v)] 26))
  have SS := Lib.hid ((h.below hb).below hb2); have HND := Lib.hid hnd; have KC := Lib.hid kc; have HW := Lib.hid hW; have HG := Lib.hid hg; have HG' := Lib.hid hg'; have HG'' := Lib.hid hg''; have BB := Lib.hid hb; have R2 := Lib.hid r2; have BX := Lib.hid hb2
  have HGL := Lib.hid (show w.heap.size ≤ gr by omega); have HGR := Lib.hid (show gr < (W.alloc (.cells #[.string (mkB p), .string (mkB v)] 26)).heap.size from Nat.lt_of_lt_of_le hgrW hb2.size)
  clear h kc hW hg hg' hg'' hb r0 r1 r2 ss sn sL hR hgrW hb2 hnd
  go_enter Tryz.func22, Tryz.ntmps22
  go_upto_region 1 with fail
  rw [HW.out, HG''.out, HG'.out, HG.out]
  go_wp2_with (go_at_call 31; refine (KC.out _ _ SS.out HND.out).mono ?_; rintro x w1 ⟨v1, rfl, hrow, hb1⟩; obtain ⟨a1, c1, rfl, -⟩ := dfsO hrow; have HROW := Lib.hid hrow; have hbx := below_step BX.out hb1; replace R2 := Lib.hid (row_keepB R2.out hbx); clear q0 q1 q2 f0 f1 f2; obtain ⟨q0, q1, q2, f0, f1, f2⟩ := row3 R2.out; have HSZ := Lib.hid (below_step BB.out BX.out).size; replace BB := Lib.hid (below_step BB.out hbx); clear hbx hb1 hrow)
  try simp only [Exit.inBlock, Exit.then]
  refine bodyPost_ret (v := .tuple #[.agg #[.int .i64 rm, .int .i64 re, .slice a1 rs.length c1], .int .i64 rz]) (results_cell_tmp (fn := Tryz.f22) (p := 6) (q := 7) (ty := 24) rfl _ _ gr 24 #[.int .i64 rm, .int .i64 re, .slice a1 rs.length c1] (0, 0) _ rfl (row3_set R2.out _ _ _) Tryz.underlying24 rfl Tryz.size_use) rfl ?_
  exact ⟨_, rfl, row_base (row_far3 HROW.out HGR.out _ _ _) HSZ.out, ((BB.out.setCell HGL.out _).setCell HGL.out _).setCell HGL.out _⟩

set_option maxHeartbeats 3200000 in
theorem rootoff_any (m e : Int) (A : Option Addr) (n c : Nat) (s : List De) (p v : List UInt8) (w : World) (h : Dfs w (.slice A n c) s) (ss : ∀ e ∈ s, smallD e) (sn : smallN (p, v)) (ls : s.length ≤ 100000) :
    Calls Tryz.prog 22 #[.agg #[.int .i64 m, .int .i64 e, .slice A n c], .agg #[.string (mkB p), .string (mkB v)], .bool false] w fun x w' => ∃ v', x = .returned (.tuple #[.agg #[.int .i64 (chgE ⟨m, e, s⟩ 0 [(p, v)] []).1.m, .int .i64 (chgE ⟨m, e, s⟩ 0 [(p, v)] []).1.e, v'], .int .i64 (chgE ⟨m, e, s⟩ 0 [(p, v)] []).2]) ∧ w'.ownsRow w.heap.size 56 3 v' (chgE ⟨m, e, s⟩ 0 [(p, v)] []).1.s.length (dfC (chgE ⟨m, e, s⟩ 0 [(p, v)] []).1.s) ∧ Below w.heap.size w w' := by
  obtain ⟨W, gs, gn, gr, hW, hg, hg', hg'', r0, r1, r2, hb⟩ := boxUNU w (.int .i64 m) (.int .i64 e) (.slice A n c) (.string (mkB p)) (.string (mkB v)) (.int .i64 0) (.int .i64 0) (.slice none 0 0) 24 26 24
  have sL : ∀ n ∈ [(p, v)], smallN n := fun n hn => by rw [List.mem_singleton.1 hn]; exact sn
  have hgrW := (Array.getElem?_eq_some_iff.1 r2).1
  obtain ⟨d0, d1, d2, -⟩ := row3 r0
  obtain ⟨e0, e1, -, -⟩ := row2 r1
  obtain ⟨q0, q1, q2, f0, f1, f2⟩ := row3 r2
  have kc := fun V w h h' => chg_any m e 0 A n c s V (.slice none 0 0) [(p, v)] [] w h h' (nds_none _) ss sL (fun _ hn => by cases hn) ls (by simp) (by simp) (by omega)
  obtain ⟨R, hR⟩ : ∃ R, chgE ⟨m, e, s⟩ 0 [(p, v)] [] = R := ⟨_, rfl⟩
  rw [hR] at kc ⊢
  obtain ⟨⟨rm, re, rs⟩, rz⟩ := R
  simp only at kc ⊢
  have hb2 : Below W.heap.size W (W.alloc (.cells #[.string (mkB p), .string (mkB v)] 26)) := (Below.refl _ _).alloc (Nat.le_refl _) _
  have hnd := blk_nd (heap_alloc_new W (.cells #[.string (mkB p), .string (mkB v)] 26))
  have SS := Lib.hid ((h.below hb).below hb2); have HND := Lib.hid hnd; have KC := Lib.hid kc; have HW := Lib.hid hW; have HG := Lib.hid hg; have HG' := Lib.hid hg'; have HG'' := Lib.hid hg''; have BB := Lib.hid hb; have R2 := Lib.hid r2; have BX := Lib.hid hb2
  have HGL := Lib.hid (show w.heap.size ≤ gr by omega); have HGR := Lib.hid (show gr < (W.alloc (.cells #[.string (mkB p), .string (mkB v)] 26)).heap.size from Nat.lt_of_lt_of_le hgrW hb2.size)
  clear h kc hW hg hg' hg'' hb r0 r1 r2 ss sn sL hR hgrW hb2 hnd
  go_enter Tryz.func22, Tryz.ntmps22
  go_upto_region 1 with fail
  rw [HW.out, HG''.out, HG'.out, HG.out]
  go_wp2_with (go_at_call 31; refine (KC.out _ _ SS.out HND.out).mono ?_; rintro x w1 ⟨v1, rfl, hrow, hb1⟩; obtain ⟨a1, c1, rfl, -⟩ := dfsO hrow; have HROW := Lib.hid hrow; have hbx := below_step BX.out hb1; replace R2 := Lib.hid (row_keepB R2.out hbx); clear q0 q1 q2 f0 f1 f2; obtain ⟨q0, q1, q2, f0, f1, f2⟩ := row3 R2.out; have HSZ := Lib.hid (below_step BB.out BX.out).size; replace BB := Lib.hid (below_step BB.out hbx); clear hbx hb1 hrow)
  try simp only [Exit.inBlock, Exit.then]
  refine bodyPost_ret (v := .tuple #[.agg #[.int .i64 rm, .int .i64 re, .slice a1 rs.length c1], .int .i64 rz]) (results_cell_tmp (fn := Tryz.f22) (p := 6) (q := 7) (ty := 24) rfl _ _ gr 24 #[.int .i64 rm, .int .i64 re, .slice a1 rs.length c1] (0, 0) _ rfl (row3_set R2.out _ _ _) Tryz.underlying24 rfl Tryz.size_use) rfl ?_
  exact ⟨_, rfl, row_base (row_far3 HROW.out HGR.out _ _ _) HSZ.out, ((BB.out.setCell HGL.out _).setCell HGL.out _).setCell HGL.out _⟩

/-! ### Are two the same -/
def sameU (u v : Us) : Bool := decide (u.m = v.m) && (decide (u.e = v.e) && decide (u.s = v.s))
theorem sameU_self (u : Us) : sameU u u = true := by unfold sameU; simp
theorem sameU_iff {u v : Us} : sameU u v = true ↔ u = v := by
  obtain ⟨a, b, c⟩ := u
  obtain ⟨a', b', c'⟩ := v
  unfold sameU
  simp

set_option maxHeartbeats 1600000 in
theorem usame_any (m e m' e' : Int) (A A' : Option Addr) (n c n' c' : Nat) (s s' : List De) (w : World) (h : Dfs w (.slice A n c) s) (h' : Dfs w (.slice A' n' c') s') :
    Calls Tryz.prog 17 #[.agg #[.int .i64 m, .int .i64 e, .slice A n c], .agg #[.int .i64 m', .int .i64 e', .slice A' n' c']] w fun x w' => x = .returned (.bool (sameU ⟨m, e, s⟩ ⟨m', e', s'⟩)) ∧ Below w.heap.size w w' := by
  obtain ⟨W, g, g', hW, hg, hg', r0, r1, hb⟩ := boxU2 w (.int .i64 m) (.int .i64 e) (.slice A n c) (.int .i64 m') (.int .i64 e') (.slice A' n' c') 24 24
  obtain ⟨d0, d1, d2, -⟩ := row3 r0
  obtain ⟨q0, q1, q2, -⟩ := row3 r1
  have ks := fun w h h' => deq_any (.slice A n c) (.slice A' n' c') s s' w h h'
  have hR : sameU ⟨m, e, s⟩ ⟨m', e', s'⟩ = (decide (m = m') && (decide (e = e') && decide (s = s'))) := rfl
  rw [hR]
  clear hR
  obtain ⟨o, ho⟩ : ∃ o, decide (s = s') = o := ⟨_, rfl⟩
  rw [ho] at ks ⊢
  have S0 := Lib.hid (h.below hb); have S1 := Lib.hid (h'.below hb); have KS := Lib.hid ks; have HW := Lib.hid hW; have HG := Lib.hid hg; have HG' := Lib.hid hg'; have BB := Lib.hid hb
  clear h h' hb hW hg hg' r0 r1 ks ho
  by_cases t0 : m = m'
  · subst t0
    by_cases t1 : e = e'
    · subst t1
      rw [decide_eq_true rfl, decide_eq_true rfl, Bool.true_and, Bool.true_and]
      go_enter Tryz.func17, Tryz.ntmps17
      go_upto_region 1 with fail
      rw [HW.out, HG'.out, HG.out]
      go_wp2_with (go_at_call 38; refine (KS.out _ S0.out S1.out).mono ?_; rintro x w1 ⟨rfl, hb1⟩; replace BB := Lib.hid (below_step BB.out hb1); clear hb1)
      go_ret
      exact ⟨rfl, BB.out⟩
    · have d : decide (e = e') = false := decide_eq_false t1
      have d9 : (e == e') = false := by simp [t1]
      rw [decide_eq_true rfl, d, Bool.false_and, Bool.and_false]
      clear t1
      go_enter Tryz.func17, Tryz.ntmps17
      go_upto_region 1 with fail
      rw [HW.out, HG'.out, HG.out]
      go_wp2
      go_ret
      exact ⟨rfl, BB.out⟩
  · have d : decide (m = m') = false := decide_eq_false t0
    have d9 : (m == m') = false := by simp [t0]
    rw [d, Bool.false_and]
    clear t0
    go_enter Tryz.func17, Tryz.ntmps17
    go_upto_region 1 with fail
    rw [HW.out, HG'.out, HG.out]
    go_wp2
    go_ret
    exact ⟨rfl, BB.out⟩

set_option maxHeartbeats 1600000 in
theorem refusame_any (m e m' e' : Int) (A A' : Option Addr) (n c n' c' : Nat) (s s' : List De) (w : World) (h : Dfs w (.slice A n c) s) (h' : Dfs w (.slice A' n' c') s') :
    Calls Tryz.prog 18 #[.agg #[.int .i64 m, .int .i64 e, .slice A n c], .agg #[.int .i64 m', .int .i64 e', .slice A' n' c']] w fun x w' => x = .returned (.bool (sameU ⟨m, e, s⟩ ⟨m', e', s'⟩)) ∧ Below w.heap.size w w' := by
  obtain ⟨W, g, g', hW, hg, hg', r0, r1, hb⟩ := boxU2 w (.int .i64 m) (.int .i64 e) (.slice A n c) (.int .i64 m') (.int .i64 e') (.slice A' n' c') 24 24
  obtain ⟨d0, d1, d2, -⟩ := row3 r0
  obtain ⟨q0, q1, q2, -⟩ := row3 r1
  have ks := fun w h h' => dsame_any (.slice A n c) (.slice A' n' c') s s' w h h'
  have hR : sameU ⟨m, e, s⟩ ⟨m', e', s'⟩ = (decide (m = m') && (decide (e = e') && decide (s = s'))) := rfl
  rw [hR]
  clear hR
  obtain ⟨o, ho⟩ : ∃ o, decide (s = s') = o := ⟨_, rfl⟩
  rw [ho] at ks ⊢
  have S0 := Lib.hid (h.below hb); have S1 := Lib.hid (h'.below hb); have KS := Lib.hid ks; have HW := Lib.hid hW; have HG := Lib.hid hg; have HG' := Lib.hid hg'; have BB := Lib.hid hb
  clear h h' hb hW hg hg' r0 r1 ks ho
  by_cases t0 : m = m'
  · subst t0
    by_cases t1 : e = e'
    · subst t1
      rw [decide_eq_true rfl, decide_eq_true rfl, Bool.true_and, Bool.true_and]
      go_enter Tryz.func18, Tryz.ntmps18
      go_upto_region 1 with fail
      rw [HW.out, HG'.out, HG.out]
      go_wp2_with (go_at_call 39; refine (KS.out _ S0.out S1.out).mono ?_; rintro x w1 ⟨rfl, hb1⟩; replace BB := Lib.hid (below_step BB.out hb1); clear hb1)
      go_ret
      exact ⟨rfl, BB.out⟩
    · have d : decide (e = e') = false := decide_eq_false t1
      have d9 : (e == e') = false := by simp [t1]
      rw [decide_eq_true rfl, d, Bool.false_and, Bool.and_false]
      clear t1
      go_enter Tryz.func18, Tryz.ntmps18
      go_upto_region 1 with fail
      rw [HW.out, HG'.out, HG.out]
      go_wp2
      go_ret
      exact ⟨rfl, BB.out⟩
  · have d : decide (m = m') = false := decide_eq_false t0
    have d9 : (m == m') = false := by simp [t0]
    rw [d, Bool.false_and]
    clear t0
    go_enter Tryz.func18, Tryz.ntmps18
    go_upto_region 1 with fail
    rw [HW.out, HG'.out, HG.out]
    go_wp2
    go_ret
    exact ⟨rfl, BB.out⟩

/-! ### What fits -/
theorem row4f {w : World} {g : Nat} {x0 x1 x2 x3 : Value} {t : TypeId} (h : w.heap[g]? = some (.cells #[x0, x1, x2, x3] t (0, 0))) :
    w.cell? ⟨g, 0, none⟩ = some x0 ∧ w.cell? ⟨g, 1, none⟩ = some x1 ∧ w.cell? ⟨g, 2, none⟩ = some x2 ∧ w.cell? ⟨g, 3, none⟩ = some x3 := by
  simp [World.cell?, h]
theorem boxLU (w : World) (a b c d x y z : Value) (t t' : TypeId) : ∃ W g g', (w.alloc (.cells #[a, b, c, d] t)).alloc (.cells #[x, y, z] t') = W ∧ w.heap.size = g ∧ w.heap.size + 1 = g' ∧ W.heap[g]? = some (.cells #[a, b, c, d] t (0, 0)) ∧ W.heap[g']? = some (.cells #[x, y, z] t' (0, 0)) ∧ Below w.heap.size w W :=
  ⟨_, _, _, rfl, rfl, rfl, row_keepB (heap_alloc_new _ _) ((Below.refl _ _).alloc (Nat.le_refl _) _), by have := heap_alloc_new (w.alloc (.cells #[a, b, c, d] t)) (.cells #[x, y, z] t'); simpa using this, ((Below.refl _ _).alloc (Nat.le_refl _) _).alloc (by simp) _⟩

set_option maxHeartbeats 3200000 in
theorem fits_any (lt lm ln le m e : Int) (A : Option Addr) (n c : Nat) (s : List De) (w : World) (h : Dfs w (.slice A n c) s) (ss : ∀ e ∈ s, smallD e) (ls : s.length ≤ 100000) :
    Calls Tryz.prog 23 #[.agg #[.int .i64 lt, .int .i64 lm, .int .i64 ln, .int .i64 le], .agg #[.int .i64 m, .int .i64 e, .slice A n c]] w fun x w' => x = .returned (.int .i64 (fitE ⟨lt, lm, ln, le⟩ ⟨m, e, s⟩)) ∧ Below w.heap.size w w' := by
  obtain ⟨W, g, g', hW, hg, hg', r0, r1, hb⟩ := boxLU w (.int .i64 lt) (.int .i64 lm) (.int .i64 ln) (.int .i64 le) (.int .i64 m) (.int .i64 e) (.slice A n c) 43 24
  obtain ⟨-, l1, l2, l3⟩ := row4f r0
  obtain ⟨d0, d1, d2, -⟩ := row3 r1
  have HN := Lib.hid h.lenE.1
  have kc := fun w h => ucheck_any m e A n c s w h ss (by omega)
  have S0 := Lib.hid (h.below hb); have HW := Lib.hid hW; have HG := Lib.hid hg; have HG' := Lib.hid hg'; have BB := Lib.hid hb
  clear h hb hW hg hg' r0 r1 ss ls
  obtain ⟨o, ho⟩ : ∃ o, okU m e s = o := ⟨_, rfl⟩
  cases o
  · rw [fitE_no (show Us.ok ⟨m, e, s⟩ = false from ho)]
    rw [chkU_no ho] at kc
    have KC := Lib.hid kc
    clear kc ho
    go_enter Tryz.func23, Tryz.ntmps23
    go_upto_region 1 with fail
    rw [HW.out, HG'.out, HG.out]
    go_wp2_with (go_at_call 15; refine (KC.out _ S0.out).mono ?_; rintro x w1 ⟨rfl, hb1⟩; replace d0 := cell_keep d0 hb1; replace d1 := cell_keep d1 hb1; replace d2 := cell_keep d2 hb1; replace l1 := cell_keep l1 hb1; replace l2 := cell_keep l2 hb1; replace l3 := cell_keep l3 hb1; replace BB := Lib.hid (below_step BB.out hb1); clear hb1)
    go_ret
    exact ⟨rfl, BB.out⟩
  · rw [fitE_yes (show Us.ok ⟨m, e, s⟩ = true from ho)]
    rw [chkU_yes ho] at kc
    have KC := Lib.hid kc
    clear kc ho
    have hU : fitU ⟨lt, lm, ln, le⟩ ⟨m, e, s⟩ = if lm < m then 8 else if ln < (n : Int) then 9 else if le < e then 10 else 0 := by
      unfold fitU
      simp only
      rw [HN.out]
    rw [hU]
    clear hU
    by_cases t0 : lm < m
    · have d : decide (lm < m) = true := decide_eq_true t0
      rw [if_pos t0]
      clear t0
      go_enter Tryz.func23, Tryz.ntmps23
      go_upto_region 1 with fail
      rw [HW.out, HG'.out, HG.out]
      go_wp2_with (go_at_call 15; refine (KC.out _ S0.out).mono ?_; rintro x w1 ⟨rfl, hb1⟩; replace d0 := cell_keep d0 hb1; replace d1 := cell_keep d1 hb1; replace d2 := cell_keep d2 hb1; replace l1 := cell_keep l1 hb1; replace l2 := cell_keep l2 hb1; replace l3 := cell_keep l3 hb1; replace BB := Lib.hid (below_step BB.out hb1); clear hb1)
      go_ret
      exact ⟨rfl, BB.out⟩
    · have d : decide (lm < m) = false := decide_eq_false t0
      rw [if_neg t0]
      clear t0
      by_cases t1 : ln < (n : Int)
      · have da : decide (ln < (n : Int)) = true := decide_eq_true t1
        rw [if_pos t1]
        clear t1
        go_enter Tryz.func23, Tryz.ntmps23
        go_upto_region 1 with fail
        rw [HW.out, HG'.out, HG.out]
        go_wp2_with (go_at_call 15; refine (KC.out _ S0.out).mono ?_; rintro x w1 ⟨rfl, hb1⟩; replace d0 := cell_keep d0 hb1; replace d1 := cell_keep d1 hb1; replace d2 := cell_keep d2 hb1; replace l1 := cell_keep l1 hb1; replace l2 := cell_keep l2 hb1; replace l3 := cell_keep l3 hb1; replace BB := Lib.hid (below_step BB.out hb1); clear hb1)
        go_ret
        exact ⟨rfl, BB.out⟩
      · have da : decide (ln < (n : Int)) = false := decide_eq_false t1
        rw [if_neg t1]
        clear t1
        by_cases t2 : le < e
        · have db : decide (le < e) = true := decide_eq_true t2
          rw [if_pos t2]
          clear t2
          go_enter Tryz.func23, Tryz.ntmps23
          go_upto_region 1 with fail
          rw [HW.out, HG'.out, HG.out]
          go_wp2_with (go_at_call 15; refine (KC.out _ S0.out).mono ?_; rintro x w1 ⟨rfl, hb1⟩; replace d0 := cell_keep d0 hb1; replace d1 := cell_keep d1 hb1; replace d2 := cell_keep d2 hb1; replace l1 := cell_keep l1 hb1; replace l2 := cell_keep l2 hb1; replace l3 := cell_keep l3 hb1; replace BB := Lib.hid (below_step BB.out hb1); clear hb1)
          go_ret
          exact ⟨rfl, BB.out⟩
        · have db : decide (le < e) = false := decide_eq_false t2
          rw [if_neg t2]
          clear t2
          go_enter Tryz.func23, Tryz.ntmps23
          go_upto_region 1 with fail
          rw [HW.out, HG'.out, HG.out]
          go_wp2_with (go_at_call 15; refine (KC.out _ S0.out).mono ?_; rintro x w1 ⟨rfl, hb1⟩; replace d0 := cell_keep d0 hb1; replace d1 := cell_keep d1 hb1; replace d2 := cell_keep d2 hb1; replace l1 := cell_keep l1 hb1; replace l2 := cell_keep l2 hb1; replace l3 := cell_keep l3 hb1; replace BB := Lib.hid (below_step BB.out hb1); clear hb1)
          go_ret
          exact ⟨rfl, BB.out⟩

set_option maxHeartbeats 3200000 in
theorem refufits_any (lt lm ln le m e : Int) (A : Option Addr) (n c : Nat) (s : List De) (w : World) (h : Dfs w (.slice A n c) s) :
    Calls Tryz.prog 24 #[.agg #[.int .i64 lt, .int .i64 lm, .int .i64 ln, .int .i64 le], .agg #[.int .i64 m, .int .i64 e, .slice A n c]] w fun x w' => x = .returned (.int .i64 (fitU ⟨lt, lm, ln, le⟩ ⟨m, e, s⟩)) ∧ Below w.heap.size w w' := by
  obtain ⟨W, g, g', hW, hg, hg', r0, r1, hb⟩ := boxLU w (.int .i64 lt) (.int .i64 lm) (.int .i64 ln) (.int .i64 le) (.int .i64 m) (.int .i64 e) (.slice A n c) 43 24
  obtain ⟨-, l1, l2, l3⟩ := row4f r0
  obtain ⟨d0, d1, d2, -⟩ := row3 r1
  have HN := Lib.hid h.lenE.1
  have HW := Lib.hid hW; have HG := Lib.hid hg; have HG' := Lib.hid hg'; have BB := Lib.hid hb
  clear h hb hW hg hg' r0 r1
  have hU : fitU ⟨lt, lm, ln, le⟩ ⟨m, e, s⟩ = if lm < m then 8 else if ln < (n : Int) then 9 else if le < e then 10 else 0 := by
    unfold fitU
    simp only
    rw [HN.out]
  rw [hU]
  clear hU
  by_cases t0 : lm < m
  · have d : decide (lm < m) = true := decide_eq_true t0
    rw [if_pos t0]
    clear t0
    go_enter Tryz.func24, Tryz.ntmps24
    go_upto_region 1 with fail
    rw [HW.out, HG'.out, HG.out]
    go_wp2
    go_ret
    exact ⟨rfl, BB.out⟩
  · have d : decide (lm < m) = false := decide_eq_false t0
    rw [if_neg t0]
    clear t0
    by_cases t1 : ln < (n : Int)
    · have da : decide (ln < (n : Int)) = true := decide_eq_true t1
      rw [if_pos t1]
      clear t1
      go_enter Tryz.func24, Tryz.ntmps24
      go_upto_region 1 with fail
      rw [HW.out, HG'.out, HG.out]
      go_wp2
      go_ret
      exact ⟨rfl, BB.out⟩
    · have da : decide (ln < (n : Int)) = false := decide_eq_false t1
      rw [if_neg t1]
      clear t1
      by_cases t2 : le < e
      · have db : decide (le < e) = true := decide_eq_true t2
        rw [if_pos t2]
        clear t2
        go_enter Tryz.func24, Tryz.ntmps24
        go_upto_region 1 with fail
        rw [HW.out, HG'.out, HG.out]
        go_wp2
        go_ret
        exact ⟨rfl, BB.out⟩
      · have db : decide (le < e) = false := decide_eq_false t2
        rw [if_neg t2]
        clear t2
        go_enter Tryz.func24, Tryz.ntmps24
        go_upto_region 1 with fail
        rw [HW.out, HG'.out, HG.out]
        go_wp2
        go_ret
        exact ⟨rfl, BB.out⟩
end Go.Proofs.YtglhjdbnpdoinaaGreat

namespace Go.Proofs.YtglhjdbnpdoinaaGreat
open Go.RowKit
set_option linter.unusedVariables false
set_option maxRecDepth 100000

/-- A slice of slices of nodes, in memory: nil, empty, or cells that hold them. -/
structure NdL (w : World) (v : Value) (ls : List (List Nd)) : Prop where
  ex : ∃ a c, v = .slice a ls.length c ∧ ls.length ≤ c ∧ c ≤ maxLen ∧ (0 < ls.length → ∃ b off, a = some ⟨b, off, none⟩ ∧ ∀ j, j < ls.length → ∃ a' n' c', w.cell? ⟨b, off + j, none⟩ = some (.slice a' n' c') ∧ Nds w (.slice a' n' c') (ls.getD j []))
theorem NdL.below {w w' : World} {v : Value} {ls : List (List Nd)} (h : NdL w v ls) (hb : Below w.heap.size w w') : NdL w' v ls := by
  obtain ⟨a, c, hv, h1, h2, h3⟩ := h.ex
  refine ⟨a, c, hv, h1, h2, fun hp => ?_⟩
  obtain ⟨b, off, ha, hc⟩ := h3 hp
  refine ⟨b, off, ha, fun j hj => ?_⟩
  obtain ⟨a', n', c', h4, h5⟩ := hc j hj
  exact ⟨a', n', c', cell_keep h4 hb, h5.below hb⟩
theorem NdL.at {w : World} {a : Option Addr} {n c : Nat} {ls : List (List Nd)} (h : NdL w (.slice a n c) ls) (j : Nat) (hj : j < ls.length) : ∃ b off a' n' c', a = some ⟨b, off, none⟩ ∧ w.cell? ⟨b, off + j, none⟩ = some (.slice a' n' c') ∧ Nds w (.slice a' n' c') (ls.getD j []) := by
  obtain ⟨a0, c0, hv, _, _, h3⟩ := h.ex
  injection hv with e1 e2 e3
  subst e1
  obtain ⟨b, off, ha, hc⟩ := h3 (by omega)
  obtain ⟨a', n', c', h4, h5⟩ := hc j hj
  exact ⟨b, off, a', n', c', ha, h4, h5⟩
theorem NdL.lenU {w : World} {a : Option Addr} {n c : Nat} {ls : List (List Nd)} (h : NdL w (.slice a n c) ls) : ls.length = n ∧ n ≤ c ∧ c ≤ maxLen := by
  obtain ⟨_, _, hv, h1, h2, _⟩ := h.ex
  injection hv with e1 e2 e3
  subst e2 e3; exact ⟨rfl, h1, h2⟩
theorem ndl_none (w : World) : NdL w (.slice none 0 0) [] := ⟨none, 0, rfl, Nat.le_refl _, by unfold maxLen; omega, fun h => absurd h (by simp)⟩

/-! ### What manifests speak of -/
def spokeL : List Nd → List (List Nd) → List Nd
  | [], _ => []
  | _ :: _, [] => []
  | k :: ks, l :: ls => (k :: l) ++ spokeL ks ls
theorem spokeL_take : ∀ (ks : List Nd) (ls : List (List Nd)) (k : Nat), k < ks.length → k < ls.length → spokeL (ks.take (k + 1)) (ls.take (k + 1)) = spokeL (ks.take k) (ls.take k) ++ (ks.getD k ([], []) :: ls.getD k [])
  | [], _, k, h, _ => absurd h (Nat.not_lt_zero k)
  | _ :: _, [], k, _, h => absurd h (Nat.not_lt_zero k)
  | x :: ks, y :: ls, 0, _, _ => by simp [spokeL]
  | x :: ks, y :: ls, k + 1, h, h' => by
    have ih := spokeL_take ks ls k (by simpa using h) (by simpa using h')
    rw [List.take_succ_cons, List.take_succ_cons, List.take_succ_cons, List.take_succ_cons, spokeL, spokeL, ih]
    simp
theorem spokeL_mem : ∀ (ks : List Nd) (ls : List (List Nd)) (n : Nd), n ∈ spokeL ks ls → n ∈ ks ∨ ∃ l ∈ ls, n ∈ l
  | [], _, n, h => by rw [spokeL] at h; cases h
  | _ :: _, [], n, h => by rw [spokeL] at h; cases h
  | x :: ks, y :: ls, n, h => by
    rw [spokeL, List.mem_append, List.mem_cons] at h
    rcases h with (h | h) | h
    · exact .inl (by rw [h]; exact List.mem_cons_self)
    · exact .inr ⟨y, List.mem_cons_self, h⟩
    · rcases spokeL_mem ks ls n h with k | ⟨l, hl, k⟩
      · exact .inl (List.mem_cons_of_mem _ k)
      · exact .inr ⟨l, List.mem_cons_of_mem _ hl, k⟩
theorem spokeL_len (M : Nat) : ∀ (ks : List Nd) (ls : List (List Nd)), (∀ l ∈ ls, l.length ≤ M) → (spokeL ks ls).length ≤ ks.length * (M + 1)
  | [], _, _ => by rw [spokeL]; simp
  | _ :: _, [], _ => by rw [spokeL]; simp
  | x :: ks, y :: ls, h => by
    have ih := spokeL_len M ks ls fun l hl => h l (List.mem_cons_of_mem _ hl)
    have h1 := h y List.mem_cons_self
    rw [spokeL, List.length_append, List.length_cons, List.length_cons, Nat.succ_mul]
    omega
def ofE (ks : List Nd) (ls : List (List Nd)) (root : List Nd) : Us × Int := if ls.length = ks.length then chgE U0 ks.length [] (root ++ spokeL ks ls) else (U0, 1)
theorem ofE_no {ks : List Nd} {ls : List (List Nd)} {root : List Nd} (h : ¬ ls.length = ks.length) : ofE ks ls root = (U0, 1) := by unfold ofE; rw [if_neg h]
theorem ofE_yes {ks : List Nd} {ls : List (List Nd)} {root : List Nd} (h : ls.length = ks.length) : ofE ks ls root = chgE U0 ks.length [] (root ++ spokeL ks ls) := by unfold ofE; rw [if_pos h]
theorem idx_ndl {w : World} {b off n c k : Nat} (h : k < n) : (Instr.indexAt 49 (.slice (some ⟨b, off, none⟩) n c) (.int .i64 (k : Int))).run Tryz.prog w = .ok (.pointer (some ⟨b, off + k, none⟩)) w := by
  have h1 : (0 : Int) ≤ (k : Int) := by omega
  have h3 : (k : Int) < (n : Int) := by omega
  go_simp
theorem ld_ndsU {w : World} {g i n c : Nat} {a : Option Addr} (h : w.cell? ⟨g, i, none⟩ = some (.slice a n c)) : Sem.run Tryz.prog (Instr.loadAt 27 (.pointer (some ⟨g, i, none⟩))) w = .ok (.slice a n c) w := by
  go_simp
theorem boxNU (w : World) (x y : Value) (t : TypeId) : ∃ W g, w.alloc (.cells #[x, y] t) = W ∧ w.heap.size = g ∧ W.heap[g]? = some (.cells #[x, y] t (0, 0)) ∧ Below w.heap.size w W :=
  ⟨_, _, rfl, rfl, heap_alloc_new _ _, (Below.refl _ _).alloc (Nat.le_refl _) _⟩

set_option maxHeartbeats 800000 in
theorem of_no (U V Z : Value) (ks : List Nd) (ls : List (List Nd)) (root : List Nd) (w : World) (hU : Nds w U ks) (hV : NdL w V ls) (hZ : Nds w Z root) (sk : ∀ n ∈ ks, smallN n) (sl : ∀ l ∈ ls, ∀ n ∈ l, smallN n) (sr : ∀ n ∈ root, smallN n) (lk : ks.length ≤ 500) (ll : ∀ l ∈ ls, l.length ≤ 40) (lr : root.length ≤ 500) (hno : ¬ ls.length = ks.length) :
    Calls Tryz.prog 27 #[U, V, Z] w fun x w' => ∃ v, x = .returned (.tuple #[.agg #[.int .i64 (ofE ks ls root).1.m, .int .i64 (ofE ks ls root).1.e, v], .int .i64 (ofE ks ls root).2]) ∧ w'.ownsRow w.heap.size 56 3 v (ofE ks ls root).1.s.length (dfC (ofE ks ls root).1.s) ∧ Below w.heap.size w w' := by
  rw [ofE_no hno]
  simp only
  obtain ⟨Ak, ck, rfl, hk1, hk2, -, -⟩ := hU.ex
  obtain ⟨Al, cl, rfl, hl1, hl2, -⟩ := hV.ex
  obtain ⟨Ar, cr, rfl, hr1, hr2, -, -⟩ := hZ.ex
  unfold maxLen at hk2 hl2 hr2
  obtain ⟨W, gr, hW, hg, r0, hb⟩ := boxU w (.int .i64 0) (.int .i64 0) (.slice none 0 0) 24
  obtain ⟨q0, q1, q2, f0, f1, f2⟩ := row3 r0
  obtain ⟨n, hn⟩ : ∃ n, ks.length = n := ⟨_, rfl⟩
  obtain ⟨m, hm⟩ : ∃ n, ls.length = n := ⟨_, rfl⟩
  obtain ⟨nr, hnr⟩ : ∃ n, root.length = n := ⟨_, rfl⟩
  rw [hn, hm] at hno
  rw [hn, hm, hnr]
  have d : ((m : Int) != (n : Int)) = true := by simp; omega
  have HW := Lib.hid hW; have HG := Lib.hid hg; have BB := Lib.hid hb; have R0 := Lib.hid r0; have HLE := Lib.hid (show w.heap.size ≤ gr by omega)
  clear hU hV hZ hW hg hb r0 hno sk sl sr lk ll lr hn hm hnr hk1 hl1 hr1
  go_enter Tryz.func27, Tryz.ntmps27
  go_upto_region 1 with fail
  rw [HW.out, HG.out]
  go_wp2
  try simp only [Exit.inBlock, Exit.then]
  refine bodyPost_ret (v := .tuple #[.agg #[.int .i64 0, .int .i64 0, .slice none 0 0], .int .i64 1]) (results_cell_tmp (fn := Tryz.f27) (p := 6) (q := 7) (ty := 24) rfl _ _ gr 24 #[.int .i64 0, .int .i64 0, .slice none 0 0] (0, 0) _ rfl (row3_set R0.out _ _ _) Tryz.underlying24 rfl Tryz.size_use) rfl ?_
  exact ⟨_, rfl, World.ownsRow_nil _ _ _ _, ((BB.out.setCell HLE.out _).setCell HLE.out _).setCell HLE.out _⟩

set_option maxHeartbeats 3200000 in
theorem of_yes (U V Z : Value) (ks : List Nd) (ls : List (List Nd)) (root : List Nd) (w : World) (hU : Nds w U ks) (hV : NdL w V ls) (hZ : Nds w Z root) (sk : ∀ n ∈ ks, smallN n) (sl : ∀ l ∈ ls, ∀ n ∈ l, smallN n) (sr : ∀ n ∈ root, smallN n) (lk : ks.length ≤ 500) (ll : ∀ l ∈ ls, l.length ≤ 40) (lr : root.length ≤ 500) (hyes : ls.length = ks.length) :
    Calls Tryz.prog 27 #[U, V, Z] w fun x w' => ∃ v, x = .returned (.tuple #[.agg #[.int .i64 (ofE ks ls root).1.m, .int .i64 (ofE ks ls root).1.e, v], .int .i64 (ofE ks ls root).2]) ∧ w'.ownsRow w.heap.size 56 3 v (ofE ks ls root).1.s.length (dfC (ofE ks ls root).1.s) ∧ Below w.heap.size w w' := by
  rw [ofE_yes hyes]
  obtain ⟨Ak, ck, rfl, hk1, hk2, -, -⟩ := hU.ex
  obtain ⟨Al, cl, rfl, hl1, hl2, -⟩ := hV.ex
  obtain ⟨Ar, cr, rfl, hr1, hr2, -, -⟩ := hZ.ex
  unfold maxLen at hk2 hl2 hr2
  obtain ⟨W, gr, hW, hg, r0, hb⟩ := boxU w (.int .i64 0) (.int .i64 0) (.slice none 0 0) 24
  obtain ⟨q0, q1, q2, f0, f1, f2⟩ := row3 r0
  obtain ⟨n, hn⟩ : ∃ n, ks.length = n := ⟨_, rfl⟩
  obtain ⟨m, hm⟩ : ∃ n, ls.length = n := ⟨_, rfl⟩
  obtain ⟨nr, hnr⟩ : ∃ n, root.length = n := ⟨_, rfl⟩
  have hlm : m = n := by omega
  subst hlm
  have hpl := spokeL_len 40 ks ls ll
  rw [hn] at hpl
  have hall : (root ++ spokeL ks ls).length = nr + (spokeL ks ls).length := by rw [List.length_append, hnr]
  have sA : ∀ x ∈ root ++ spokeL ks ls, smallN x := fun x hx => by
    rcases List.mem_append.1 hx with q | q
    · exact sr x q
    · rcases spokeL_mem ks ls x q with q | ⟨l, hl, q⟩
      · exact sk x q
      · exact sl l hl x q
  rw [hn] at lk hk1 hU ⊢
  rw [hm] at hl1 hV ⊢
  rw [hnr] at lr hr1 hZ ⊢
  have kc := fun V w h => chg_any 0 0 (m : Int) none 0 0 [] (.slice none 0 0) V [] (root ++ spokeL ks ls) w (dfs_none w) (nds_none w) h (fun _ hn => by cases hn) (fun _ hn => by cases hn) sA (by simp) (by simp) (by omega) (by omega)
  obtain ⟨R, hR⟩ : ∃ R, chgE U0 (m : Int) [] (root ++ spokeL ks ls) = R := ⟨_, rfl⟩
  rw [hR] at kc ⊢
  obtain ⟨⟨rm, re, rs⟩, rz⟩ := R
  simp only at kc ⊢
  have kcl := fun w h => ncloneo_any (.slice Ar nr cr) root w h (by omega)
  rw [hnr] at kcl
  have hmm : ((m : Int) != (m : Int)) = false := by simp
  have e1 : ∀ args w, (callFunc 32 args).run Tryz.prog w = .ok (.enter 32 args) w := enters_of Tryz.func32 (by kernel_rfl) rfl
  have hgrW := (Array.getElem?_eq_some_iff.1 r0).1
  have SK := Lib.hid (hU.below hb); have SL := Lib.hid (hV.below hb); have SR := Lib.hid (hZ.below hb); have KC := Lib.hid kc; have KCL := Lib.hid kcl; have HW := Lib.hid hW; have HG := Lib.hid hg; have BB := Lib.hid hb; have R0 := Lib.hid r0; have HLE := Lib.hid (show w.heap.size ≤ gr by omega); have HKN := Lib.hid hn; have HLN := Lib.hid hm; have HRN := Lib.hid hnr; have HGR := Lib.hid hgrW; have HLL := Lib.hid ll; have HALL := Lib.hid hall; have HPM := Lib.hid hpl
  clear hU hV hZ hW hg hb r0 hyes sk sl sr sA hR kc kcl hn hm hnr hgrW ll hall hpl
  go_enter Tryz.func27, Tryz.ntmps27
  go_upto_region 1 with fail
  rw [HW.out, HG.out]
  go_upto_region 4 with (go_at_call 44; refine (KCL.out _ SR.out).mono ?_; rintro x w1 ⟨v0, rfl, hrow, hb1⟩; have HROW0 := Lib.hid hrow; have B1 := Lib.hid hb1; clear hb1 hrow)
  obtain ⟨N0, hN0⟩ : ∃ N, W.heap.size = N := ⟨_, rfl⟩
  have HN0 := Lib.hid hN0
  have HR1 := Lib.hid (row_keepB R0.out B1.out)
  rw [hN0] at HROW0 HGR B1
  clear hN0 q0 q1 q2 f0 f1 f2
  go_wp2
  go_loopw [8, 21] (fun v8 i wr => ∃ (k : Nat) (P : List Nd) (X : Value), k ≤ m ∧ i = .int .i64 k ∧ X = v8 ∧ Hid (P = root ++ spokeL (ks.take k) (ls.take k)) ∧ Hid (wr.ownsRow N0 26 2 X P.length (ndsC P)) ∧ Hid (Below N0 W wr)) (fun _ i _ => m - (intOf i).toNat)
  case atStart => exact ⟨0, root, _, Nat.zero_le _, rfl, rfl, Lib.hid (by simp [spokeL]), Lib.hid (by rw [HRN.out]; exact HROW0.out), B1⟩
  case round =>
    obtain ⟨k, P, X, hk, rfl, rfl, HP, HROW, HB⟩ := hrel
    have R0 : Hid (wr.heap[gr]? = some (.cells #[.int .i64 0, .int .i64 0, .slice none 0 0] 24 (0, 0))) := Lib.hid ((HB.out.block gr HGR.out).trans R0.out)
    by_cases hlt : k < m
    · have hkk : k < ks.length := by rw [HKN.out]; exact hlt
      have hkl : k < ls.length := by rw [HLN.out]; exact hlt
      have hBW : Below W.heap.size W wr := by rw [HN0.out]; exact HB.out
      obtain ⟨bk, ok, rfl, -, hc0, hc1⟩ := (SK.out.below hBW).at k hkk
      obtain ⟨bl, ol, ay, ny, cy, rfl, cy0, hsy⟩ := SL.out.at k hkl
      have htk := spokeL_take ks ls k hkk hkl
      have hyl := HLL.out (ls.getD k []) (by rw [List.getD_eq_getElem?_getD, List.getElem?_eq_getElem hkl]; exact List.getElem_mem hkl)
      have hpm := spokeL_len 40 (ks.take k) (ls.take k) (fun l hl => HLL.out l (List.mem_of_mem_take hl))
      obtain ⟨yl, hyl0⟩ : ∃ y, y = ls.getD k [] := ⟨_, rfl⟩
      obtain ⟨y, hy⟩ : ∃ y, y = ks.getD k ([], []) := ⟨_, rfl⟩
      rw [← hy] at hc0 hc1 htk
      rw [← hyl0] at hsy htk hyl
      obtain ⟨y1, y2⟩ := y
      simp only at hc0 hc1
      have hny := hsy.lenU
      have hpl2 : P.length ≤ 500 + 41 * 500 := by
        rw [HP.out, List.length_append, HRN.out]
        rw [List.length_take, HKN.out] at hpm
        omega
      obtain ⟨Y, hY⟩ : ∃ Y, (y1, y2) :: yl = Y := ⟨_, rfl⟩
      rw [hY] at htk
      have hYL : Y.length = ny + 1 := by rw [← hY, List.length_cons, hny.1]
      obtain ⟨P2, hP2⟩ : ∃ P2, P2 = P ++ Y := ⟨_, rfl⟩
      have hP3 : P2 = root ++ spokeL (ks.take (k + 1)) (ls.take (k + 1)) := by rw [hP2, htk, HP.out, List.append_assoc]
      have HPL := Lib.hid hpl2; have HYL := Lib.hid hYL; have HNY2 := Lib.hid (show ny ≤ 40 by omega); have HNY := Lib.hid (show ny ≤ 500000 by omega); have HYE := Lib.hid hY; have HP2 := Lib.hid hP2; have HP3 := Lib.hid hP3; have HLT := Lib.hid hlt; have SY := Lib.hid hsy
      have hNs : N0 ≤ wr.heap.size := by rw [← HN0.out]; exact hBW.size
      have HNS := Lib.hid hNs
      clear hyl0 hy htk hyl hsy hny hpl2 hpm hY hYL hP2 hP3 hBW hNs
      have hkb : (k : Int) < (m : Int) := by omega
      go_upto_region 7 with fail
      obtain ⟨W5, gk, hW5, hgk, r5, hb5⟩ := boxNU wr (.string (mkB y1)) (.string (mkB y2)) 26
      rw [hW5, hgk]
      have RK := Lib.hid r5
      have HK1 := Lib.hid (show Value.ownBlock X ≠ some gk from fun q => by have := (own_lt HROW.out q).2; omega)
      have HK2 := Lib.hid (show Value.ownBlock X ≠ some gr from fun q => by have := (own_lt HROW.out q).1; have := HGR.out; omega)
      replace R0 := Lib.hid (row_keepB R0.out hb5); replace HROW := Lib.hid (ownsRow_belowB HROW.out hb5)
      have HGK := Lib.hid (show ¬ gr = gk from fun q => by have := HGR.out; have := HNS.out; omega)
      have HB5 := Lib.hid (show Below N0 W W5 from HB.out.trans (hb5.mono HNS.out))
      have HNS5 := Lib.hid (show N0 ≤ W5.heap.size from Nat.le_trans HNS.out hb5.size)
      have c0 := cell_keep hc0 hb5
      clear hW5 hgk r5 hb5 hc0 hc1 c0
      refine rol_run (by kernel_rfl) [[], [], [], [], [2, 3], [2, 3, 4], [1, 2, 3, 4, 5], [0, 1, 2, 3, 4, 5, 6], [0, 1, 2, 3, 4, 5, 6, 7]] (by kernel_rfl) [26, 27, 28, 29, 30, 31, 32, 33, 8] [[12], [9], [], [], [2, 3], [4], [1, 5], [0, 6, 11], [7]] [0, 0, 0, 0, 0, 0, 2, 1, 1, 3, 4, 1, 0] [0, 0, 0, 0, 0, 0, 0, 1, 0] [1000, 1000, 1000, 1000, 1000, 1000, 1000, 1000, 1000, 1000, 1000, 7, 8] [.val 26 (X), .val 27 (.agg #[.string (mkB y1), .string (mkB y2)]), .val 28 (.slice (some ⟨bl, ol, none⟩) m cl), .val 29 (.int .i64 (k : Int)), .val 30 (.pointer (some ⟨bl, ol + k, none⟩)), .val 31 (.slice ay ny cy), .mem 32 (rowG W5.heap.size 26 2 Y.length (ndsC Y)), .mem 33 (rowG N0 26 2 P2.length (ndsC P2)), .mem 8 (rowG N0 26 2 P2.length (ndsC P2)), .box (gk) (.cells #[.string (mkB y1), .string (mkB y2)] 26), .box (gr) (.cells #[.int .i64 0, .int .i64 0, .slice none 0 0] 24), .mem 8 (rowX X N0 26 2 P.length (ndsC P)), .val 8 X] (by kernel_rfl) ?_ (N0) (W5.heap.size) rfl HB5.out rfl (fun k => if k = gk then 3 else if k = gr then 4 else 1) ?_ ?_ ?_
      · intro j hj
        have hj3 : j < 13 := hj
        have hj2 : j = 0 ∨ j = 1 ∨ j = 2 ∨ j = 3 ∨ j = 4 ∨ j = 5 ∨ j = 6 ∨ j = 7 ∨ j = 8 ∨ j = 9 ∨ j = 10 ∨ j = 11 ∨ j = 12 := by omega
        clear hj hj3
        rcases hj2 with rfl | rfl | rfl | rfl | rfl | rfl | rfl | rfl | rfl | rfl | rfl | rfl | rfl
        · exact trivial
        · exact trivial
        · exact trivial
        · exact trivial
        · exact trivial
        · exact trivial
        · exact rowG_near
        · exact rowG_near
        · exact rowG_near
        · exact trivial
        · exact trivial
        · exact rowX_near
        · exact trivial
      · intro j hj0 hj
        have hj1 : 9 ≤ j := hj0
        have hj3 : j < 13 := hj
        have hj2 : j = 9 ∨ j = 10 ∨ j = 11 ∨ j = 12 := by omega
        clear hj0 hj hj1 hj3
        rcases hj2 with rfl | rfl | rfl | rfl
        · exact ⟨RK.out, if_pos rfl⟩
        · exact ⟨R0.out, (if_neg HGK.out).trans (if_pos rfl)⟩
        · exact ⟨_, _, rfl, fun b e => ⟨(own_lt HROW.out e).2, (if_neg (fun q => HK1.out (by rw [← q]; exact e))).trans (if_neg (fun q => HK2.out (by rw [← q]; exact e)))⟩, HROW.out, rfl⟩
        · exact rfl
      · intro i hi a wx who hG hF
        have hz : a.tmps.size = 42 := hG.size
        have hi3 : i < 9 := hi
        have hi2 : i = 0 ∨ i = 1 ∨ i = 2 ∨ i = 3 ∨ i = 4 ∨ i = 5 ∨ i = 6 ∨ i = 7 ∨ i = 8 := by omega
        clear hi hi3
        rcases hi2 with rfl | rfl | rfl | rfl | rfl | rfl | rfl | rfl | rfl
        · exact rol_val rfl rfl rfl (by rw [hz]; decide) (ex_move (Or.inl rfl) (eval_slot (hF 12 (by decide)))) hG.below
        · exact rol_val rfl rfl rfl (by rw [hz]; decide) (ex_load rfl (eval_slot ((hG.slots 10 (by decide)).trans rfl)) (ld_node (row2 (hF 9 (by decide)).1).1 (row2 (hF 9 (by decide)).1).2.1)) hG.below
        · exact rol_val rfl rfl rfl (by rw [hz]; decide) (ex_move (Or.inl rfl) (eval_slot ((hG.slots 1 (by decide)).trans rfl))) hG.below
        · exact rol_val rfl rfl rfl (by rw [hz]; decide) (ex_move (Or.inl rfl) (eval_slot ((hG.slots 9 (by decide)).trans rfl))) hG.below
        · exact rol_val rfl rfl rfl (by rw [hz]; decide) (ex_index rfl (eval_slot (hF 2 (by decide))) (eval_slot (hF 3 (by decide))) (idx_ndl HLT.out)) hG.below
        · exact rol_val rfl rfl rfl (by rw [hz]; decide) (ex_load rfl (eval_slot (hF 4 (by decide))) (ld_ndsU (cell_keep cy0 (by rw [HN0.out]; exact hG.below)))) hG.below
        · refine rol_calls rfl rfl rfl (by rw [hz]; decide) (ex_call rfl (by simp [eval_slot (hF 1 (by decide)), eval_slot (hF 5 (by decide))]) e1) (spoken_any y1 y2 ay ny cy yl wx (SY.out.below (by rw [HN0.out]; exact hG.below)) HNY.out) ?_ hG.below (Nat.le_trans HNS5.out hG.new)
          rintro e w1 ⟨u, rfl, hown, hb1⟩
          rw [HYE.out, ← HYL.out] at hown
          exact ⟨u, rfl, hb1, .inr (.inl ⟨_, u.ownBlock, rfl, fun b e => hown.lt b e, row_base hown hG.new, rfl⟩)⟩
        · obtain ⟨v', ob, hv, hob, hown, rfl⟩ := hF 6 (by decide)
          obtain ⟨a7, c7, rfl, hnd7⟩ := ndsO hown
          exact rol_app_nd rfl rfl rfl (by rw [hz]; decide) rfl (hF 11 (by decide)) (eval_slot (hF 0 (by decide))) (eval_slot hv) hnd7 (by have := HPL.out; have := HYL.out; have := HNY2.out; omega) hG.below (Nat.le_refl _) (Nat.le_trans HNS5.out hG.new) (by rw [HP2.out, List.length_append]) HP2.out
        · exact rol_move rfl rfl rfl (by rw [hz]; decide) (Or.inr rfl) (hF 7 (by decide)) hG.below
      · intro a wx who hG hF
        obtain ⟨v8, ob8, fv8, fo8, fp8⟩ := hF 8 (of_decide_eq_true (by kernel_rfl)) (of_decide_eq_true (by kernel_rfl))
        replace fv8 : a.tmps.getD 8 undef = v8 := eval_slot (s := 8) fv8
        have hbr := hF 10 (of_decide_eq_true (by kernel_rfl)) (of_decide_eq_true (by kernel_rfl))
        have hbx := hG.below
        have hnx := hG.new
        rw [hG.frame]
        simp only [List.foldl_cons, List.foldl_nil, List.setIfInBounds_toArray, List.set_cons_zero, List.set_cons_succ]
        generalize a.tmps.getD 26 undef = u26
        generalize a.tmps.getD 27 undef = u27
        generalize a.tmps.getD 28 undef = u28
        generalize a.tmps.getD 29 undef = u29
        generalize a.tmps.getD 30 undef = u30
        generalize a.tmps.getD 31 undef = u31
        generalize a.tmps.getD 32 undef = u32
        generalize a.tmps.getD 33 undef = u33
        rw [fv8]
        clear hF hG fv8
        obtain ⟨hrow, -⟩ := fp8
        have HRW := Lib.hid hrow; have HBN := Lib.hid hbx
        clear fo8 hrow hbx hnx hbr
        go_wp2
        go_roundw
        case rel => exact ⟨k + 1, P2, _, by omega, by go_num, rfl, HP3, HRW, HBN⟩
        case measure => simp [intOf]; omega
    · have e : k = m := by omega
      subst e
      have hPE : P = root ++ spokeL ks ls := by
        rw [HP.out, List.take_of_length_le (by rw [HKN.out]; exact Nat.le_refl _), List.take_of_length_le (by rw [HLN.out]; exact Nat.le_refl _)]
      subst hPE
      obtain ⟨PA, hPA⟩ : ∃ PA, root ++ spokeL ks ls = PA := ⟨_, rfl⟩
      rw [hPA] at KC HROW
      obtain ⟨a8, c8, rfl, hnd⟩ := ndsO HROW.out
      obtain ⟨np, hnp⟩ : ∃ n, PA.length = n := ⟨_, rfl⟩
      rw [hnp] at hnd ⊢
      have SP := Lib.hid hnd
      clear hPA hnp hnd HROW HP HALL HPM
      obtain ⟨q0, q1, q2, f0, f1, f2⟩ := row3 R0.out
      have HGR2 := Lib.hid (show gr < wr.heap.size from (Array.getElem?_eq_some_iff.1 R0.out).1)
      replace BB := Lib.hid (show Below w.heap.size w wr from below_step BB.out (by rw [HN0.out]; exact HB.out))
      go_wp2_with (go_at_call 31; refine (KC.out _ _ SP.out).mono ?_; rintro x w3 ⟨v3, rfl, hrow, hb1⟩; obtain ⟨a3, c3, rfl, -⟩ := dfsO hrow; have HROW := Lib.hid hrow; replace R0 := Lib.hid (row_keepB R0.out hb1); clear q0 q1 q2 f0 f1 f2; obtain ⟨q0, q1, q2, f0, f1, f2⟩ := row3 R0.out; have HSZ := Lib.hid BB.out.size; replace BB := Lib.hid (below_step BB.out hb1); clear hb1 hrow)
      try simp only [Exit.inBlock, Exit.then]
      refine bodyPost_ret (v := .tuple #[.agg #[.int .i64 rm, .int .i64 re, .slice a3 rs.length c3], .int .i64 rz]) (results_cell_tmp (fn := Tryz.f27) (p := 6) (q := 7) (ty := 24) rfl _ _ gr 24 #[.int .i64 rm, .int .i64 re, .slice a3 rs.length c3] (0, 0) _ rfl (row3_set R0.out _ _ _) Tryz.underlying24 rfl Tryz.size_use) rfl ?_
      exact ⟨_, rfl, row_base (row_far3 HROW.out HGR2.out _ _ _) HSZ.out, ((BB.out.setCell HLE.out _).setCell HLE.out _).setCell HLE.out _⟩

theorem of_any (U V Z : Value) (ks : List Nd) (ls : List (List Nd)) (root : List Nd) (w : World) (hU : Nds w U ks) (hV : NdL w V ls) (hZ : Nds w Z root) (sk : ∀ n ∈ ks, smallN n) (sl : ∀ l ∈ ls, ∀ n ∈ l, smallN n) (sr : ∀ n ∈ root, smallN n) (lk : ks.length ≤ 500) (ll : ∀ l ∈ ls, l.length ≤ 40) (lr : root.length ≤ 500) :
    Calls Tryz.prog 27 #[U, V, Z] w fun x w' => ∃ v, x = .returned (.tuple #[.agg #[.int .i64 (ofE ks ls root).1.m, .int .i64 (ofE ks ls root).1.e, v], .int .i64 (ofE ks ls root).2]) ∧ w'.ownsRow w.heap.size 56 3 v (ofE ks ls root).1.s.length (dfC (ofE ks ls root).1.s) ∧ Below w.heap.size w w' := by
  by_cases h : ls.length = ks.length
  · exact of_yes U V Z ks ls root w hU hV hZ sk sl sr lk ll lr h
  · exact of_no U V Z ks ls root w hU hV hZ sk sl sr lk ll lr h
end Go.Proofs.YtglhjdbnpdoinaaGreat
