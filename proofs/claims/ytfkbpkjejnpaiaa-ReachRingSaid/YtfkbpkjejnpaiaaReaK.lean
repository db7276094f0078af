/- Link: of the program. -/
import Derived.Test.YtfkbpkjejnpaiaaReaJ
namespace Go.Proofs.Ytfkbpkjejnpaiaa
open Go.RowKit Go.Maps
set_option linter.unusedVariables false
set_option maxRecDepth 100000

/-! ### Plain facts -/
theorem withE_short (l : List Ed) (x : Ed) : (withE l x).length ≤ 2 * l.length + 1 := withE_len l x
theorem with_fit {l : List Ed} {f t n : Int} (hf : ∀ e ∈ l, fitE e) (h1 : fitI f) (h2 : fitI t) (h3 : fitI n) : ∀ e ∈ withE l (f, t, n), fitE e := fun e he => by
  rcases mem_with.1 he with h | ⟨rfl, -⟩ | h
  · exact hf e h.1
  · exact ⟨h1, h2, h3⟩
  · exact hf e h.1
theorem top_fit {n : Int} (h1 : 0 ≤ n) (h2 : n ≤ topE) : fitI n := by
  have e : topE = 1099511627776 := rfl
  rw [e] at h2
  exact ⟨by omega, by omega⟩
structure LinkOk (g : Gr) (f t : Int) (M : List Ed) : Prop where
  okg : okG g = true
  ok : okE M = true
  ed : ∀ x y, toE M x y ↔ toE g.1 x y ∨ (x = f ∧ y = t)
  len : M.length ≤ 2 * g.1.length + 1
theorem link_ok {g : Gr} {f t : Int} (h : linkK g f t = 0) : LinkOk g f t (linkL g f t) ∧ ((∀ e ∈ g.1, fitE e) → fitI f → fitI t → ∀ e ∈ linkL g f t, fitE e) := by
  unfold linkK at h
  unfold linkL
  by_cases ho : okG g = true
  · rw [if_pos ho] at h ⊢
    have hm : mayE g.1 f t = true := by
      unfold addK at h; by_cases hm : mayE g.1 f t = true
      · exact hm
      · rw [if_neg hm] at h; cases h
    obtain ⟨hok, hf, ht⟩ := mayE_ok hm
    have hne : manyE g.1 f t ≠ topE := fun e => by unfold addK at h; rw [if_pos hm, if_pos e] at h; cases h
    have hb := many_bd hok f t
    have he : addL g.1 f t = withE g.1 (f, t, manyE g.1 f t + 1) := by unfold addL; rw [if_pos h]
    rw [he]
    have h0 : 0 ≤ (f, t, manyE g.1 f t + 1).2.2 := by show 0 ≤ manyE g.1 f t + 1; omega
    have hok2 := with_ok (x := (f, t, manyE g.1 f t + 1)) hok hf ht (by show manyE g.1 f t + 1 ≤ topE; omega)
    refine ⟨⟨ho, hok2, fun x y => ?_, withE_len _ _⟩, fun a b c => with_fit a b c (top_fit h0 (by show manyE g.1 f t + 1 ≤ topE; omega))⟩
    rw [to_there hok2, to_there hok, with_many h0]
    by_cases e : isP x y (f, t, manyE g.1 f t + 1) = true
    · rw [if_pos e]
      have := isP_iff.1 e
      simp only at this ⊢
      refine ⟨fun _ => .inr ⟨this.1.symm, this.2.symm⟩, fun _ => by omega⟩
    · rw [if_neg e]
      refine ⟨.inl, fun h => h.elim id fun h => absurd (isP_iff.2 ⟨h.1.symm, h.2.symm⟩) e⟩
  · rw [if_neg ho] at h; cases h
noncomputable def linkG (g : Gr) (f t : Int) : Gr := if linkK g f t = 0 then (linkL g f t, liveE (linkL g f t)) else g
noncomputable def linkD (g : Gr) (f t : Int) : List Int := if linkK g f t = 0 then minusI (liveE (linkL g f t)) g.2 else []
theorem known_mem {g : Gr} {z : Int} : z ∈ addI (setI g.2) (-1) ↔ z ∈ g.2 ∨ z = -1 := by rw [addI_mem, setI_mem]
theorem minus_known {l : List Ed} {g : Gr} : minusI (liveE l) (addI (setI g.2) (-1)) = minusI (liveE l) g.2 := by
  unfold minusI
  refine List.filter_congr fun z hz => ?_
  have hne := (live_mem.1 hz).1
  have : hasB (addI (setI g.2) (-1)) z = hasB g.2 z := by
    unfold hasB; exact decide_eq_decide.2 (by rw [known_mem]; simp [hne])
  rw [this]
theorem live_fit {l : List Ed} (hf : ∀ e ∈ l, fitE e) : ∀ z ∈ liveE l, fitI z := fun z hz => by
  obtain ⟨e, he, rfl⟩ := live_to hz
  exact (hf e he).2.1

/-! ### In memory -/
def setR (N nn : Nat) (S : List Int) : World → Value → Option Nat → Prop := fun w v ob => ∃ b, v = .map (some b) ∧ ob = some b ∧ N ≤ b ∧ ZMap w b nn S
/-- A set in a block that is known, whatever slot it is told of. -/
def setX (b nn : Nat) (S : List Int) : World → Value → Option Nat → Prop := fun w _ ob => ob = some b ∧ ZMap w b nn S
theorem ZMap.near {w w' : World} {b nn : Nat} {S : List Int} (h : ZMap w b nn S) (hb : w'.heap[b]? = w.heap[b]?) : ZMap w' b nn S := by
  obtain ⟨hf, D, ⟨es, clock, he, rest⟩, hD⟩ := h
  exact ⟨hf, D, ⟨es, clock, hb.trans he, rest⟩, hD⟩
theorem setR_near {N nn : Nat} {S : List Int} : ∀ (w w' : World) (v : Value) (ob : Option Nat), (∀ b, ob = some b → w'.heap[b]? = w.heap[b]?) → setR N nn S w v ob → setR N nn S w' v ob := by
  rintro w w' v ob hb ⟨b, rfl, rfl, hN, h⟩
  exact ⟨b, rfl, rfl, hN, h.near (hb b rfl)⟩
theorem setX_near {b nn : Nat} {S : List Int} : ∀ (w w' : World) (v : Value) (ob : Option Nat), (∀ b, ob = some b → w'.heap[b]? = w.heap[b]?) → setX b nn S w v ob → setX b nn S w' v ob := by
  rintro w w' v ob hb ⟨rfl, h⟩
  exact ⟨rfl, h.near (hb b rfl)⟩
section
variable {ops : Array Oper} {Q : Exit → Act → World → Prop} {a : Act} {w w0 : World} {who : Nat → Nat} {i B r ro : Nat} {o : Oper}
theorem rol_boxVR (ho : ops[i]? = some o) (hw : Region.wanted o (yielded ops a.tmps) = true) (hd : o.dst = none) {x y : Operand} {g : Nat} (hop : o.op = .store 25 x y) (hx : a.eval x = .pointer (some ⟨g, 0, none⟩)) {A A' : Option Addr} {n c m d : Nat} (hy : a.eval y = .agg #[.slice A n c, .slice A' m d])
    {x0 y0 : Value} {ty : TypeId} (hg : (RLeaf.box g (.cells #[x0, y0] ty)).holds r a w who) (hb : Below B w0 w) (hB : B ≤ g) : wpOp Try.prog ops Q i (RPost ops i r r (.box g (.cells #[.slice A n c, .slice A' m d] ty)) B w0 a w who) a w := by
  refine rol_store ho hw hd (ex_store hop hx hy (store_gra hg.1)) hg (row2_set hg.1 _ _) (fun k hk => ?_) (by simp [World.setCell]) ((hb.setCell hB _).setCell hB _)
  rw [Below.heap_setCell _ ⟨g, 1, none⟩ _ k hk, Below.heap_setCell _ ⟨g, 0, none⟩ _ k hk]
end
/-- A graph's rows, whatever slot they are told of. -/
def graX (X : Value) (N : Nat) (K : List Ed) (T : List Int) : World → Value → (Nat → Prop) → Prop := fun w _ bs => graR N K T w X bs
theorem graX_near {X : Value} {N : Nat} {K : List Ed} {T : List Int} : ∀ (w w' : World) (v : Value) (bs : Nat → Prop), (∀ b, bs b → w'.heap[b]? = w.heap[b]?) → graX X N K T w v bs → graX X N K T w' v bs := fun w w' _ bs hb h => graR_near w w' X bs hb h
theorem graX.ints {A B : Option Addr} {n m c d N : Nat} {K : List Ed} {T : List Int} {w : World} {v : Value} {bs : Nat → Prop} (h : graX (.agg #[.slice A n c, .slice B m d]) N K T w v bs) : Ints w (.slice B m d) T := by
  obtain ⟨x, y, hxy, h1, h2, -, -⟩ := h
  injection hxy with hxy
  injection hxy with hxy
  injection hxy with e1 e2
  injection e2 with e2
  subst e1 e2
  obtain ⟨_, _, _, hI⟩ := intsZ h2
  rename_i hv
  rw [hv]; exact hI
/-- A row of edges, whatever slot it is told of. -/
def edsX (X : Value) (N : Nat) (K : List Ed) : World → Value → Option Nat → Prop := fun w _ ob => w.ownsRow N 43 3 X K.length (edC K) ∧ ob = X.ownBlock
theorem edsX_near {X : Value} {N : Nat} {K : List Ed} : ∀ (w w' : World) (v : Value) (ob : Option Nat), (∀ b, ob = some b → w'.heap[b]? = w.heap[b]?) → edsX X N K w v ob → edsX X N K w' v ob := by
  rintro w w' v ob hb ⟨h, rfl⟩
  exact ⟨row_heapR h hb, rfl⟩
section
variable {P : Program}
theorem results_cttR {fn : Func} {q r s : Tmp} {ty : TypeId} (h : fn.results = #[.cell q ty, .tmp r, .tmp s]) (tmps : Array Value) (w : World) (g : Nat) (t : TypeId) (cs : Array Value) (fr : Nat × Nat) (d : TypeDesc)
    (hp : tmps.getD q undef = .pointer (some ⟨g, 0, none⟩)) (hg : w.heap[g]? = some (.cells cs t fr))
    (hu : P.underlying ty = some d) (hd : (match d with | .struct _ | .array _ _ => true | _ => false) = true) (hi : (P.info? ty).map (·.size) = some cs.size) :
    (results fn tmps).run P w = .ok (.tuple #[.agg cs, tmps.getD r undef, tmps.getD s undef]) w := by
  have hp' : tmps[q]?.getD undef = .pointer (some ⟨g, 0, none⟩) := by simpa using hp
  simp [results, h, hp', asAddr, run_loadVar_row w g t ty cs fr d hg hu hd hi]
end
/-- A row stays while a map in another block is written. -/
theorem row_mapped {w w' : World} {base b nn : Nat} {S : List Int} {e : TypeId} {size n : Nat} {v : Value} {xs : List Value} (h : w.ownsRow base e size v n xs) (hz : ZMap w b nn S) (hg : w.grownBy w' (some b)) : w'.ownsRow base e size v n xs := by
  obtain ⟨h1, h0 | ⟨g, cap, cur, hv, h2, h3, h4⟩⟩ := h
  · exact ⟨h1, .inl h0⟩
  · have hne : some g ≠ some b := fun k => by
      obtain ⟨_, D, ⟨es, clock, he, _⟩, _⟩ := hz
      injection k with k
      rw [k, he] at h3; cases h3
    exact ⟨h1, .inr ⟨g, cap, cur, hv, h2, (hg.block g (Array.getElem?_eq_some_iff.1 h3).1 hne).trans h3, h4⟩⟩
theorem graR_base {N N' : Nat} {K : List Ed} {T : List Int} {w : World} {v : Value} {bs : Nat → Prop} (h : graR N K T w v bs) (hn : N' ≤ N) : graR N' K T w v bs := by
  obtain ⟨x, y, rfl, h1, h2, h3, h4⟩ := h
  exact ⟨x, y, rfl, row_base h1 hn, row_base h2 hn, h3, h4⟩
theorem row_cells {w : World} {base : Nat} {e : TypeId} {size n : Nat} {v : Value} {xs : List Value} (h : w.ownsRow base e size v n xs) {b : Nat} (hb : v.ownBlock = some b) : b < w.heap.size ∧ base ≤ b ∧ ∃ cs t fr, w.heap[b]? = some (.cells cs t fr) := by
  obtain ⟨h1, h2⟩ := h.lt b hb
  refine ⟨h2, h1, ?_⟩
  obtain ⟨_, ⟨rfl, _⟩ | ⟨g, cap, cur, rfl, _, h3, _⟩⟩ := h
  · simp [Value.ownBlock] at hb
  · have : g = b := by simpa [Value.ownBlock] using hb
    subst this
    exact ⟨_, _, _, h3⟩
/-- A graph's blocks. -/
theorem gra_bs {N : Nat} {K : List Ed} {T : List Int} {w : World} {v : Value} (h : GraO w N v K T) : ∃ bs : Nat → Prop, (∀ b, bs b → b < w.heap.size ∧ N ≤ b ∧ ∃ cs t fr, w.heap[b]? = some (.cells cs t fr)) ∧ graR N K T w v bs := by
  obtain ⟨x, y, rfl, h1, h2⟩ := h
  refine ⟨fun b => x.ownBlock = some b ∨ y.ownBlock = some b, fun b e => ?_, x, y, rfl, h1, h2, fun b e => .inl e, fun b e => .inr e⟩
  rcases e with e | e
  · exact row_cells h1 e
  · exact row_cells h2 e

set_option maxHeartbeats 6400000 in
theorem link_any (V : Value) (g : Gr) (f t : Int) (w : World) (h : Gra w V g) (hl : g.1.length ≤ 90) (hl2 : g.2.length ≤ 1000) (hf : ∀ e ∈ g.1, fitE e) (hff : fitI f) (hft : fitI t) :
    Calls Try.prog 20 #[V, .int .i64 f, .int .i64 t] w fun e w' => ∃ v u, e = .returned (.tuple #[v, u, .int .i64 (linkK g f t)]) ∧ GraO w' w.heap.size v (linkG g f t).1 (linkG g f t).2 ∧ w'.ownsRow w.heap.size 3 1 u (linkD g f t).length (intZ (linkD g f t)) ∧ Below w.heap.size w w' := by
  obtain ⟨a, c, b, d, rfl, u1, u2⟩ := h.ex
  obtain ⟨W, p, q, hW, hp, hq, r0, r1, hb⟩ := boxR2 w (.slice a g.1.length c) (.slice b g.2.length d) (.slice none 0 0) (.slice none 0 0) 25 25
  have kc := fun w h => chadd_any (.agg #[.slice a g.1.length c, .slice b g.2.length d]) g f t w h (by omega) hf
  have hG := Lib.hid (h.below hb)
  have kk := fun w h hf => known_any (.agg #[.slice a g.1.length c, .slice b g.2.length d]) g w h (by omega) hf
  obtain ⟨n1, hn1⟩ : ∃ n, g.1.length = n := ⟨_, rfl⟩
  obtain ⟨n2, hn2⟩ : ∃ n, g.2.length = n := ⟨_, rfl⟩
  rw [hn1, hn2] at hW r0 hG kc ⊢
  rw [hn1] at u1 hl
  rw [hn2] at u2 hl2
  rw [hn1, hn2] at kk
  obtain ⟨d0, d1, -, -⟩ := row2 r0
  have hwq : w.heap.size ≤ q := by omega
  have hwW : w.heap.size + 2 ≤ W.heap.size := by have := (Array.getElem?_eq_some_iff.1 r1).1; omega
  have U1 := Lib.hid (u1.below hb); have U2 := Lib.hid (u2.belowB hb); have HW := Lib.hid hW; have HP := Lib.hid hp; have HQ := Lib.hid hq; have BB := Lib.hid hb; have R0 := Lib.hid r0; have R1 := Lib.hid r1; have HN1 := Lib.hid hn1; have HN2 := Lib.hid hn2
  clear h u1 u2 hb hW hp hq r0 r1 hn1 hn2
  have e1 : ∀ args w, (callFunc 42 args).run Try.prog w = .ok (.enter 42 args) w := enters_of Try.func42 (by kernel_rfl) rfl
  have e2 : ∀ args w, (callFunc 44 args).run Try.prog w = .ok (.enter 44 args) w := enters_of Try.func44 (by kernel_rfl) rfl
  have e3 : ∀ args w, (callFunc 32 args).run Try.prog w = .ok (.enter 32 args) w := enters_of Try.func32 (by kernel_rfl) rfl
  by_cases hk : linkK g f t = 0
  · obtain ⟨hLO, hLF⟩ := link_ok hk
    have hg2 : linkG g f t = (linkL g f t, liveE (linkL g f t)) := by unfold linkG; rw [if_pos hk]
    have hd2 : linkD g f t = minusI (liveE (linkL g f t)) (addI (setI g.2) (-1)) := by unfold linkD; rw [if_pos hk, minus_known]
    rw [hg2, hd2, hk]
    rw [hk] at kc
    have hmf := hLF hf hff hft
    have hok := hLO.ok
    have hKW := fun z => known_way hLO.okg (S := addI (setI g.2) (-1)) (fun z => known_mem) z
    have hgf : ∀ z ∈ g.2, fitI z := by rw [(okG_iff.1 hLO.okg).2]; exact live_fit hf
    have hon := fun T hfS hT => link_on hLO.ed hKW (T := T) hfS hT
    have hoff := fun hfS => link_off hLO.ed hKW hfS
    have hml := hLO.len
    rw [HN1.out] at hml
    obtain ⟨M, hM⟩ : ∃ M, linkL g f t = M := ⟨_, rfl⟩
    obtain ⟨S, hS⟩ : ∃ S, addI (setI g.2) (-1) = S := ⟨_, rfl⟩
    rw [hM] at kc hmf hok hml
    simp only [hM, hS] at hon hoff ⊢
    rw [hS] at kk
    have hlm := live_len M
    have hlf := live_fit hmf
    have ks := fun (bb mm : Nat) (SS : List Int) (V : Value) (w' : World) h hz hnn => spread_any V M bb mm SS t w' h hz hok hmf hft (by omega) hnn
    have kg := fun (A : Option Addr) (n c bb nn : Nat) (SS : List Int) (w' : World) hz hS hnn => graph_any A n c M bb nn SS w' hz hmf hS hnn
    have kl := fun (bb nn : Nat) (w' : World) (U : Value) hm hi => lacks_any bb nn S U (liveE M) w' hm hi (by omega) hlf
    obtain ⟨m, hm⟩ : ∃ m, M.length = m := ⟨_, rfl⟩
    rw [hm] at kc hml hlm ks
    obtain ⟨L, hL⟩ : ∃ L, liveE M = L := ⟨_, rfl⟩
    simp only [hL] at kg kl hlm ⊢
    obtain ⟨D, hD⟩ : ∃ D, minusI L S = D := ⟨_, rfl⟩
    rw [hD]
    simp only [hD] at kl
    have khas := fun (bb nn : Nat) (w' : World) h => has_any bb nn S f w' h hff
    obtain ⟨o, ho⟩ : ∃ o, hasB S f = o := ⟨_, rfl⟩
    rw [ho] at khas
    have KK := Lib.hid (fun (w : World) h => kk w h hgf); have KS := Lib.hid ks; have KG := Lib.hid kg; have KL := Lib.hid (fun (bb nn : Nat) (w' : World) {U : Value} hm hi => kl bb nn w' U hm hi); have KH := Lib.hid khas; have HON := Lib.hid hon; have HOFF := Lib.hid hoff; have HO := Lib.hid ho; have HM := Lib.hid hm; have GRA := hG
    clear hLO hLF hg2 hd2 hk hmf hok hKW hgf hon hoff hM hS hlf ks kg kl khas kk hm hL hD ho hf hff hft
    go_enter Try.func20, Try.ntmps20
    go_upto_region 1 with fail
    rw [HW.out, HQ.out, HP.out]
    go_upto_region 4 with (go_at_call 39; refine (kc _ hG.out).mono ?_; rintro e w1 ⟨v, rfl, hx, hb1⟩; obtain ⟨a1, c1, rfl, -⟩ := edsO (by rw [HM.out]; exact hx); rw [HM.out] at hx ⊢; have HE := Lib.hid hx; replace BB := Lib.hid (below_step BB.out hb1); replace R1 := Lib.hid (row_keepB R1.out hb1); replace R0 := Lib.hid (row_keepB R0.out hb1); replace GRA := Lib.hid (GRA.out.below hb1); clear hb1 hx kc)
    refine rol_run (by kernel_rfl) [[], [0], [], [0, 1, 2], [0, 1, 2, 3], [0, 1, 2, 3, 4]] (by kernel_rfl) [26, 27, 28, 29, 11, 12] [[6], [0], [6], [2], [1], [3]] [0, 1, 0, 2, 1, 2, 3] [0, 0, 0, 0, 0, 0] [1000, 1000, 1000, 1000, 1000, 1000, 1000] [.val 26 (.agg #[.slice a n1 c, .slice b n2 d]), .mem 27 (setR w1.heap.size (n2 + 1) S), .val 28 (.agg #[.slice a n1 c, .slice b n2 d]), .mem 29 (setR w1.heap.size (n2 + 1) S), .mem 11 (setR w1.heap.size (n2 + 1) S), .mem 12 (setR w1.heap.size (n2 + 1) S), .box (p) (.cells #[.slice a n1 c, .slice b n2 d] 25)] (by kernel_rfl) ?_ (w1.heap.size) (w1.heap.size) rfl (Below.refl _ _) rfl (fun _ => 3) ?_ ?_ ?_
    · intro j hj
      have hj3 : j < 7 := hj
      have hj2 : j = 0 ∨ j = 1 ∨ j = 2 ∨ j = 3 ∨ j = 4 ∨ j = 5 ∨ j = 6 := by omega
      clear hj hj3
      rcases hj2 with rfl | rfl | rfl | rfl | rfl | rfl | rfl
      · exact trivial
      · exact setR_near
      · exact trivial
      · exact setR_near
      · exact setR_near
      · exact setR_near
      · exact trivial
    · intro j hj0 hj
      have hj1 : 6 ≤ j := hj0
      have hj3 : j < 7 := hj
      have hj2 : j = 6 := by omega
      clear hj0 hj hj1 hj3
      rcases hj2 with rfl
      · exact ⟨R0.out, rfl⟩
    · intro i hi a wx who hG hF
      have hz : a.tmps.size = 45 := hG.size
      have hi3 : i < 6 := hi
      have hi2 : i = 0 ∨ i = 1 ∨ i = 2 ∨ i = 3 ∨ i = 4 ∨ i = 5 := by omega
      clear hi hi3
      rcases hi2 with rfl | rfl | rfl | rfl | rfl | rfl
      · exact rol_val rfl rfl rfl (by rw [hz]; decide) (ex_load rfl (eval_slot ((hG.slots 3 (by decide)).trans rfl)) (ld_gra (row2 (hF 6 (by decide)).1).1 (row2 (hF 6 (by decide)).1).2.1)) hG.below
      · refine rol_calls rfl rfl rfl (by rw [hz]; decide) (ex_call rfl (by simp [eval_slot (hF 0 (by decide))]) e1) (KK.out wx (GRA.out.below hG.below)) ?_ hG.below hG.new
        rintro e w5 ⟨b5, rfl, hs5, hm5, hb5⟩
        exact ⟨_, rfl, hb5, .inr (.inl ⟨_, some b5, rfl, fun k e => by cases e; exact ⟨hs5, hm5.lt⟩, b5, rfl, rfl, Nat.le_trans hG.new hs5, hm5⟩)⟩
      · exact rol_val rfl rfl rfl (by rw [hz]; decide) (ex_load rfl (eval_slot ((hG.slots 3 (by decide)).trans rfl)) (ld_gra (row2 (hF 6 (by decide)).1).1 (row2 (hF 6 (by decide)).1).2.1)) hG.below
      · refine rol_calls rfl rfl rfl (by rw [hz]; decide) (ex_call rfl (by simp [eval_slot (hF 2 (by decide))]) e1) (KK.out wx (GRA.out.below hG.below)) ?_ hG.below hG.new
        rintro e w5 ⟨b5, rfl, hs5, hm5, hb5⟩
        exact ⟨_, rfl, hb5, .inr (.inl ⟨_, some b5, rfl, fun k e => by cases e; exact ⟨hs5, hm5.lt⟩, b5, rfl, rfl, Nat.le_trans hG.new hs5, hm5⟩)⟩
      · exact rol_move rfl rfl rfl (by rw [hz]; decide) (Or.inr rfl) (hF 1 (by decide)) hG.below
      · exact rol_move rfl rfl rfl (by rw [hz]; decide) (Or.inr rfl) (hF 3 (by decide)) hG.below
    · intro a wx who hG hF
      obtain ⟨v11, ob11, fv11, fo11, fp11⟩ := hF 4 (of_decide_eq_true (by kernel_rfl)) (of_decide_eq_true (by kernel_rfl))
      replace fv11 : a.tmps.getD 11 undef = v11 := eval_slot (s := 11) fv11
      obtain ⟨v12, ob12, fv12, fo12, fp12⟩ := hF 5 (of_decide_eq_true (by kernel_rfl)) (of_decide_eq_true (by kernel_rfl))
      replace fv12 : a.tmps.getD 12 undef = v12 := eval_slot (s := 12) fv12
      have hbx := hG.below
      have hnx := hG.new
      rw [hG.frame]
      simp only [List.foldl_cons, List.foldl_nil, List.setIfInBounds_toArray, List.set_cons_zero, List.set_cons_succ]
      generalize a.tmps.getD 26 undef = u26
      generalize a.tmps.getD 27 undef = u27
      generalize a.tmps.getD 28 undef = u28
      generalize a.tmps.getD 29 undef = u29
      rw [fv11]
      rw [fv12]
      clear hF hG fv11 fv12
      obtain ⟨p1, rfl, rfl, hn1, hm1⟩ := fp11
      obtain ⟨p2, rfl, rfl, hn2, hm2⟩ := fp12
      have hne : p1 ≠ p2 := fun e => by have h1 := (fo11 p1 rfl).2; have h2 := (fo12 p2 rfl).2; rw [e, h2] at h1; cases h1
      have hq1 : q < w1.heap.size := (Array.getElem?_eq_some_iff.1 R1.out).1
      have HZ1 := Lib.hid hm1; have HZ2 := Lib.hid hm2; have HE4 := Lib.hid (ownsRow_belowB HE.out hbx); have RQ4 := Lib.hid (row_keepB R1.out hbx); have B4 := Lib.hid (below_step BB.out hbx); have HN1Q := Lib.hid (show p1 ≠ q by omega); have HPN := Lib.hid (show w.heap.size ≤ p2 by omega); have HNE := Lib.hid hne; have HSZ4 := Lib.hid (show w.heap.size + 2 ≤ wx.heap.size from by have := hbx.size; have := HQ.out; omega); have HQ2 := Lib.hid (show q ≠ p2 by omega)
      clear hm1 hm2 fo11 fo12 hne hq1 hbx hn1 hn2 hnx
      obtain ⟨w4, hw4⟩ : ∃ v, v = wx := ⟨_, rfl⟩
      subst hw4
      cases o
      · have hno : f ∉ S := by have := HO.out; simpa [hasB] using this
        have HS6 := Lib.hid (HOFF.out hno)
        clear hno
        go_upto_region 7 with (go_at_call 43; refine (KH.out _ _ _ HZ2.out).mono ?_; rintro e w6 ⟨rfl, hb6⟩; have HZ6 := Lib.hid (HZ2.out.below hb6); have HS16 := Lib.hid (HZ1.out.below hb6); have HE6 := Lib.hid (ownsRow_belowB HE4.out hb6); have RQ6 := Lib.hid (row_keepB RQ4.out hb6); have B6 := Lib.hid (below_step B4.out hb6); have HSZ6 := Lib.hid (Nat.le_trans HSZ4.out hb6.size); clear hb6)
        obtain ⟨mm6, hmm⟩ : ∃ mm, n2 + 1 = mm := ⟨_, rfl⟩
        obtain ⟨S6, hS6⟩ : ∃ SS, SS = S := ⟨_, rfl⟩
        rw [hmm, ← hS6] at HZ6
        rw [← hS6] at HS6
        have hmm6 : mm6 ≤ 1000000 := by omega
        clear hS6
        go_upto_region 8 with (go_at_call 32; refine (KG.out a1 m c1 p2 mm6 S6 _ HZ6.out HS6.out hmm6).mono ?_; rintro e w7 ⟨b7, m7, d7, rfl, hrow7, hb7⟩; have HS7 := Lib.hid (HS16.out.below hb7); have HL7 := Lib.hid hrow7; have HE7 := Lib.hid (ownsRow_belowB HE6.out hb7); have RQ7 := Lib.hid (row_keepB RQ6.out hb7); have B7 := Lib.hid (below_step B6.out hb7); have HSZ7 := Lib.hid (Nat.le_trans HSZ6.out hb7.size); clear hb7 hrow7)
        obtain ⟨_, _, hv7, -⟩ := intsZ HL7.out
        injection hv7 with _ hm7 _
        subst hm7
        obtain ⟨X, x, hX, hx, rx, hbX⟩ := boxR1 w7 (.slice a1 m c1) (.slice b7 L.length d7) 25
        rw [hX, hx]
        have HS1 := Lib.hid (HS7.out.below hbX); have HLX := Lib.hid (ownsRow_belowB HL7.out hbX); have HEX := Lib.hid (ownsRow_belowB HE7.out hbX); have RQ := Lib.hid (row_keepB RQ7.out hbX); have B8 := Lib.hid (below_step B7.out hbX); have RX := Lib.hid rx
        have HXQ := Lib.hid (show x ≠ q ∧ x ≠ p1 from ⟨by have := (Array.getElem?_eq_some_iff.1 RQ7.out).1; omega, by have := HS7.out.lt; omega⟩)
        have hgx0 : GraO X (w.heap.size + 2) (.agg #[.slice a1 m c1, .slice b7 L.length d7]) M L := ⟨_, _, rfl, by rw [HM.out]; exact row_base HEX.out (by omega), row_base HLX.out (by have := HSZ6.out; omega)⟩
        have hne2 : ∀ b, (∃ cs t fr, X.heap[b]? = some (.cells cs t fr)) → b ≠ p1 := fun b ⟨cs, t, fr, h⟩ e => by
          obtain ⟨_, D0, ⟨es, clock, he, _⟩, _⟩ := HS1.out
          rw [e, he] at h; cases h
        obtain ⟨bsX, hbs, hgx1⟩ := gra_bs hgx0
        have HBS := Lib.hid (fun b (e : bsX b) => (show b < X.heap.size ∧ b ≠ q ∧ b ≠ p1 from ⟨(hbs b e).1, by have := (hbs b e).2.1; have := HQ.out; omega, hne2 b (hbs b e).2.2⟩)); have HGX := Lib.hid (show graX (.agg #[.slice a1 m c1, .slice b7 L.length d7]) w.heap.size M L X (.pointer (some ⟨x, 0, none⟩)) bsX from graR_base hgx1 (by omega))
        clear hX hx rx hbX hgx0 hne2 hbs hgx1
        refine rol_run (by kernel_rfl) [[], [], [], [2], [1, 2, 3], [0, 1, 2, 3, 4], [0, 1, 2, 3, 4, 5], [0, 1, 2, 3, 4, 5, 6]] (by kernel_rfl) [40, 41, 42, 43, 44, 7, 8] [[8], [], [], [2, 8], [1, 3, 10, 11], [0, 9], [4], []] [0, 0, 0, 0, 1, 2, 1, 0, 3, 2, 4, 3] [0, 0, 0, 0, 0, 2, 0, 0] [1000, 1000, 1000, 1000, 1000, 1000, 1000, 1000, 1000, 5, 1000, 1000] [.val 40 (.agg #[.slice a1 m c1, .slice b7 L.length d7]), .val 41 (.map (some p1)), .val 42 (.pointer (some ⟨x, 1, none⟩)), .val 43 (.slice b7 L.length d7), .mem 44 (rowR w.heap.size 3 1 D.length (intZ D)), .box (q) (.cells #[.slice a1 m c1, .slice b7 L.length d7] 25), .mem 7 (rowR w.heap.size 3 1 D.length (intZ D)), .val 8 (.int .i64 0), .box (x) (.cells #[.slice a1 m c1, .slice b7 L.length d7] 25), .box (q) (.cells #[.slice none 0 0, .slice none 0 0] 25), .mem 11 (setX p1 (n2 + 1) S), .mems 13 (graX (.agg #[.slice a1 m c1, .slice b7 L.length d7]) w.heap.size M L)] (by kernel_rfl) ?_ (w.heap.size) (X.heap.size) rfl B8.out rfl (fun k => if k = q then 2 else if k = p1 then 4 else 3) ?_ ?_ ?_
        · intro j hj
          have hj3 : j < 12 := hj
          have hj2 : j = 0 ∨ j = 1 ∨ j = 2 ∨ j = 3 ∨ j = 4 ∨ j = 5 ∨ j = 6 ∨ j = 7 ∨ j = 8 ∨ j = 9 ∨ j = 10 ∨ j = 11 := by omega
          clear hj hj3
          rcases hj2 with rfl | rfl | rfl | rfl | rfl | rfl | rfl | rfl | rfl | rfl | rfl | rfl
          · exact trivial
          · exact trivial
          · exact trivial
          · exact trivial
          · exact rowR_near
          · exact trivial
          · exact rowR_near
          · exact trivial
          · exact trivial
          · exact trivial
          · exact setX_near
          · exact graX_near
        · intro j hj0 hj
          have hj1 : 8 ≤ j := hj0
          have hj3 : j < 12 := hj
          have hj2 : j = 8 ∨ j = 9 ∨ j = 10 ∨ j = 11 := by omega
          clear hj0 hj hj1 hj3
          rcases hj2 with rfl | rfl | rfl | rfl
          · exact ⟨RX.out, (by simp [HXQ.out.1, HXQ.out.2])⟩
          · exact ⟨RQ.out, if_pos rfl⟩
          · exact ⟨_, some p1, rfl, fun b e => by cases e; exact ⟨HS1.out.lt, by simp [HN1Q.out]⟩, rfl, HS1.out.near rfl⟩
          · exact ⟨_, bsX, rfl, fun b e => ⟨(HBS.out b e).1, by have h5 := (HBS.out b e).2; simp [h5.1, h5.2]⟩, graX_near X _ _ bsX (fun _ _ => rfl) HGX.out⟩
        · intro i hi a wx who hG hF
          have hz : a.tmps.size = 45 := hG.size
          have hi3 : i < 8 := hi
          have hi2 : i = 0 ∨ i = 1 ∨ i = 2 ∨ i = 3 ∨ i = 4 ∨ i = 5 ∨ i = 6 ∨ i = 7 := by omega
          clear hi hi3
          rcases hi2 with rfl | rfl | rfl | rfl | rfl | rfl | rfl | rfl
          · exact rol_val rfl rfl rfl (by rw [hz]; decide) (ex_load rfl (eval_slot ((hG.slots 13 (by decide)).trans rfl)) (ld_gra (row2 (hF 8 (by decide)).1).1 (row2 (hF 8 (by decide)).1).2.1)) hG.below
          · exact rol_val rfl rfl rfl (by rw [hz]; decide) (ex_move (Or.inl rfl) (eval_slot ((hG.slots 11 (by decide)).trans rfl))) hG.below
          · exact rol_val rfl rfl rfl (by rw [hz]; decide) (ex_field rfl (eval_slot ((hG.slots 13 (by decide)).trans rfl)) (by go_simp)) hG.below
          · exact rol_val rfl rfl rfl (by rw [hz]; decide) (ex_load rfl (eval_slot (hF 2 (by decide))) (ld_ints (row2 (hF 8 (by decide)).1).2.1)) hG.below
          · obtain ⟨_, _, _, _, rfl, hm⟩ := hF 10 (by decide)
            obtain ⟨_, _, _, _, hgx⟩ := hF 11 (by decide)
            refine rol_calls rfl rfl rfl (by rw [hz]; decide) (ex_call rfl (by simp [eval_slot (hF 1 (by decide)), eval_slot (hF 3 (by decide))]) e2) (KL.out _ _ wx hm hgx.ints) ?_ hG.below (Nat.le_trans B8.out.size hG.new)
            rintro e w9 ⟨u, rfl, hown, hb9⟩
            exact ⟨u, rfl, hb9, .inr (.inl ⟨_, u.ownBlock, rfl, fun b e => hown.lt b e, row_base hown (Nat.le_trans B8.out.size hG.new), rfl⟩)⟩
          · exact rol_boxVR rfl rfl rfl rfl (eval_slot ((hG.slots 6 (by decide)).trans rfl)) (eval_slot (hF 0 (by decide))) (hF 9 (by decide)) hG.below hwq
          · exact rol_move rfl rfl rfl (by rw [hz]; decide) (Or.inr rfl) (hF 4 (by decide)) hG.below
          · exact rol_val rfl rfl rfl (by rw [hz]; decide) (ex_move (Or.inr rfl) rfl) hG.below
        · intro a wx who hG hF
          obtain ⟨v7, ob7, fv7, fo7, fp7⟩ := hF 6 (of_decide_eq_true (by kernel_rfl)) (of_decide_eq_true (by kernel_rfl))
          replace fv7 : a.tmps.getD 7 undef = v7 := eval_slot (s := 7) fv7
          have fv8 : a.tmps.getD 8 undef = .int .i64 0 := eval_slot (s := 8) (hF 7 (of_decide_eq_true (by kernel_rfl)) (of_decide_eq_true (by kernel_rfl)))
          have hbox := hF 5 (of_decide_eq_true (by kernel_rfl)) (of_decide_eq_true (by kernel_rfl))
          have hgx := hF 11 (of_decide_eq_true (by kernel_rfl)) (of_decide_eq_true (by kernel_rfl))
          have hbx := hG.below
          have hnx := hG.new
          rw [hG.frame]
          simp only [List.foldl_cons, List.foldl_nil, List.setIfInBounds_toArray, List.set_cons_zero, List.set_cons_succ]
          generalize a.tmps.getD 40 undef = u40
          generalize a.tmps.getD 41 undef = u41
          generalize a.tmps.getD 42 undef = u42
          generalize a.tmps.getD 43 undef = u43
          generalize a.tmps.getD 44 undef = u44
          rw [fv7]
          rw [fv8]
          clear hF hG fv7 fv8
          obtain ⟨hq9, -⟩ := hbox
          obtain ⟨_, _, _, _, hgr9⟩ := hgx
          have HGO := Lib.hid (graR.own hgr9); have HROW := Lib.hid fp7.1; have RQ9 := Lib.hid hq9; have B9 := Lib.hid hbx
          clear hgr9 fp7 fo7 hq9 hbx hnx
          go_wp2
          try simp only [Exit.inBlock, Exit.then]
          refine bodyPost_ret (v := .tuple #[.agg #[.slice a1 m c1, .slice b7 L.length d7], v7, .int .i64 0]) (results_cttR (fn := Try.f20) (q := 6) (r := 7) (s := 8) (ty := 25) rfl _ _ q 25 #[.slice a1 m c1, .slice b7 L.length d7] (0, 0) _ rfl RQ9.out Try.underlying25 rfl Try.size_gra) rfl ?_
          exact ⟨_, _, rfl, HGO.out, HROW.out, B9.out⟩
      · have hyes : f ∈ S := by have := HO.out; simpa [hasB] using this
        have HY := Lib.hid hyes
        clear hyes
        go_upto_region 6 with (go_at_call 43; refine (KH.out _ _ _ HZ2.out).mono ?_; rintro e w5 ⟨rfl, hb5⟩; have HZ5 := Lib.hid (HZ2.out.below hb5); have HS15 := Lib.hid (HZ1.out.below hb5); have HE5 := Lib.hid (ownsRow_belowB HE4.out hb5); have RQ5 := Lib.hid (row_keepB RQ4.out hb5); have B5 := Lib.hid (below_step B4.out hb5); have HSZ5 := Lib.hid (Nat.le_trans HSZ4.out hb5.size); clear hb5)
        have hE5 : Eds w5 (.slice a1 m c1) M := Eds.owned (by rw [HM.out]; exact HE5.out)
        have k5 := KS.out p2 (n2 + 1) S _ w5 hE5 HZ5.out (by omega)
        clear hE5
        go_upto_region 7 with (go_at_call 31; refine k5.mono ?_; rintro e w6 ⟨rfl, ⟨S6, mm6, hT, hm6, hmm⟩, hg6⟩)
        have HS6 := Lib.hid (HON.out S6 HY.out hT)
        have HZ6 := Lib.hid hm6
        have HS16 := Lib.hid (HS15.out.grown hg6 (by simp; exact fun e => HNE.out e.symm))
        have HE6 := Lib.hid (row_mapped HE5.out HZ5.out hg6)
        have RQ6 := Lib.hid (show w6.heap[q]? = _ from (hg6.block q (Array.getElem?_eq_some_iff.1 RQ5.out).1 (by simp; exact HQ2.out)).trans RQ5.out)
        have B6 := Lib.hid (B5.out.grown hg6 B5.out.size (fun k e => by cases e; exact HPN.out))
        have HSZ6 := Lib.hid (Nat.le_trans HSZ5.out hg6.size)
        have hmm6 : mm6 ≤ 1000000 := by omega
        clear hT hm6 hg6 hmm
        go_upto_region 8 with (go_at_call 32; refine (KG.out a1 m c1 p2 mm6 S6 _ HZ6.out HS6.out hmm6).mono ?_; rintro e w7 ⟨b7, m7, d7, rfl, hrow7, hb7⟩; have HS7 := Lib.hid (HS16.out.below hb7); have HL7 := Lib.hid hrow7; have HE7 := Lib.hid (ownsRow_belowB HE6.out hb7); have RQ7 := Lib.hid (row_keepB RQ6.out hb7); have B7 := Lib.hid (below_step B6.out hb7); have HSZ7 := Lib.hid (Nat.le_trans HSZ6.out hb7.size); clear hb7 hrow7)
        obtain ⟨_, _, hv7, -⟩ := intsZ HL7.out
        injection hv7 with _ hm7 _
        subst hm7
        obtain ⟨X, x, hX, hx, rx, hbX⟩ := boxR1 w7 (.slice a1 m c1) (.slice b7 L.length d7) 25
        rw [hX, hx]
        have HS1 := Lib.hid (HS7.out.below hbX); have HLX := Lib.hid (ownsRow_belowB HL7.out hbX); have HEX := Lib.hid (ownsRow_belowB HE7.out hbX); have RQ := Lib.hid (row_keepB RQ7.out hbX); have B8 := Lib.hid (below_step B7.out hbX); have RX := Lib.hid rx
        have HXQ := Lib.hid (show x ≠ q ∧ x ≠ p1 from ⟨by have := (Array.getElem?_eq_some_iff.1 RQ7.out).1; omega, by have := HS7.out.lt; omega⟩)
        have hgx0 : GraO X (w.heap.size + 2) (.agg #[.slice a1 m c1, .slice b7 L.length d7]) M L := ⟨_, _, rfl, by rw [HM.out]; exact row_base HEX.out (by omega), row_base HLX.out (by have := HSZ6.out; omega)⟩
        have hne2 : ∀ b, (∃ cs t fr, X.heap[b]? = some (.cells cs t fr)) → b ≠ p1 := fun b ⟨cs, t, fr, h⟩ e => by
          obtain ⟨_, D0, ⟨es, clock, he, _⟩, _⟩ := HS1.out
          rw [e, he] at h; cases h
        obtain ⟨bsX, hbs, hgx1⟩ := gra_bs hgx0
        have HBS := Lib.hid (fun b (e : bsX b) => (show b < X.heap.size ∧ b ≠ q ∧ b ≠ p1 from ⟨(hbs b e).1, by have := (hbs b e).2.1; have := HQ.out; omega, hne2 b (hbs b e).2.2⟩)); have HGX := Lib.hid (show graX (.agg #[.slice a1 m c1, .slice b7 L.length d7]) w.heap.size M L X (.pointer (some ⟨x, 0, none⟩)) bsX from graR_base hgx1 (by omega))
        clear hX hx rx hbX hgx0 hne2 hbs hgx1
        refine rol_run (by kernel_rfl) [[], [], [], [2], [1, 2, 3], [0, 1, 2, 3, 4], [0, 1, 2, 3, 4, 5], [0, 1, 2, 3, 4, 5, 6]] (by kernel_rfl) [40, 41, 42, 43, 44, 7, 8] [[8], [], [], [2, 8], [1, 3, 10, 11], [0, 9], [4], []] [0, 0, 0, 0, 1, 2, 1, 0, 3, 2, 4, 3] [0, 0, 0, 0, 0, 2, 0, 0] [1000, 1000, 1000, 1000, 1000, 1000, 1000, 1000, 1000, 5, 1000, 1000] [.val 40 (.agg #[.slice a1 m c1, .slice b7 L.length d7]), .val 41 (.map (some p1)), .val 42 (.pointer (some ⟨x, 1, none⟩)), .val 43 (.slice b7 L.length d7), .mem 44 (rowR w.heap.size 3 1 D.length (intZ D)), .box (q) (.cells #[.slice a1 m c1, .slice b7 L.length d7] 25), .mem 7 (rowR w.heap.size 3 1 D.length (intZ D)), .val 8 (.int .i64 0), .box (x) (.cells #[.slice a1 m c1, .slice b7 L.length d7] 25), .box (q) (.cells #[.slice none 0 0, .slice none 0 0] 25), .mem 11 (setX p1 (n2 + 1) S), .mems 13 (graX (.agg #[.slice a1 m c1, .slice b7 L.length d7]) w.heap.size M L)] (by kernel_rfl) ?_ (w.heap.size) (X.heap.size) rfl B8.out rfl (fun k => if k = q then 2 else if k = p1 then 4 else 3) ?_ ?_ ?_
        · intro j hj
          have hj3 : j < 12 := hj
          have hj2 : j = 0 ∨ j = 1 ∨ j = 2 ∨ j = 3 ∨ j = 4 ∨ j = 5 ∨ j = 6 ∨ j = 7 ∨ j = 8 ∨ j = 9 ∨ j = 10 ∨ j = 11 := by omega
          clear hj hj3
          rcases hj2 with rfl | rfl | rfl | rfl | rfl | rfl | rfl | rfl | rfl | rfl | rfl | rfl
          · exact trivial
          · exact trivial
          · exact trivial
          · exact trivial
          · exact rowR_near
          · exact trivial
          · exact rowR_near
          · exact trivial
          · exact trivial
          · exact trivial
          · exact setX_near
          · exact graX_near
        · intro j hj0 hj
          have hj1 : 8 ≤ j := hj0
          have hj3 : j < 12 := hj
          have hj2 : j = 8 ∨ j = 9 ∨ j = 10 ∨ j = 11 := by omega
          clear hj0 hj hj1 hj3
          rcases hj2 with rfl | rfl | rfl | rfl
          · exact ⟨RX.out, (by simp [HXQ.out.1, HXQ.out.2])⟩
          · exact ⟨RQ.out, if_pos rfl⟩
          · exact ⟨_, some p1, rfl, fun b e => by cases e; exact ⟨HS1.out.lt, by simp [HN1Q.out]⟩, rfl, HS1.out.near rfl⟩
          · exact ⟨_, bsX, rfl, fun b e => ⟨(HBS.out b e).1, by have h5 := (HBS.out b e).2; simp [h5.1, h5.2]⟩, graX_near X _ _ bsX (fun _ _ => rfl) HGX.out⟩
        · intro i hi a wx who hG hF
          have hz : a.tmps.size = 45 := hG.size
          have hi3 : i < 8 := hi
          have hi2 : i = 0 ∨ i = 1 ∨ i = 2 ∨ i = 3 ∨ i = 4 ∨ i = 5 ∨ i = 6 ∨ i = 7 := by omega
          clear hi hi3
          rcases hi2 with rfl | rfl | rfl | rfl | rfl | rfl | rfl | rfl
          · exact rol_val rfl rfl rfl (by rw [hz]; decide) (ex_load rfl (eval_slot ((hG.slots 13 (by decide)).trans rfl)) (ld_gra (row2 (hF 8 (by decide)).1).1 (row2 (hF 8 (by decide)).1).2.1)) hG.below
          · exact rol_val rfl rfl rfl (by rw [hz]; decide) (ex_move (Or.inl rfl) (eval_slot ((hG.slots 11 (by decide)).trans rfl))) hG.below
          · exact rol_val rfl rfl rfl (by rw [hz]; decide) (ex_field rfl (eval_slot ((hG.slots 13 (by decide)).trans rfl)) (by go_simp)) hG.below
          · exact rol_val rfl rfl rfl (by rw [hz]; decide) (ex_load rfl (eval_slot (hF 2 (by decide))) (ld_ints (row2 (hF 8 (by decide)).1).2.1)) hG.below
          · obtain ⟨_, _, _, _, rfl, hm⟩ := hF 10 (by decide)
            obtain ⟨_, _, _, _, hgx⟩ := hF 11 (by decide)
            refine rol_calls rfl rfl rfl (by rw [hz]; decide) (ex_call rfl (by simp [eval_slot (hF 1 (by decide)), eval_slot (hF 3 (by decide))]) e2) (KL.out _ _ wx hm hgx.ints) ?_ hG.below (Nat.le_trans B8.out.size hG.new)
            rintro e w9 ⟨u, rfl, hown, hb9⟩
            exact ⟨u, rfl, hb9, .inr (.inl ⟨_, u.ownBlock, rfl, fun b e => hown.lt b e, row_base hown (Nat.le_trans B8.out.size hG.new), rfl⟩)⟩
          · exact rol_boxVR rfl rfl rfl rfl (eval_slot ((hG.slots 6 (by decide)).trans rfl)) (eval_slot (hF 0 (by decide))) (hF 9 (by decide)) hG.below hwq
          · exact rol_move rfl rfl rfl (by rw [hz]; decide) (Or.inr rfl) (hF 4 (by decide)) hG.below
          · exact rol_val rfl rfl rfl (by rw [hz]; decide) (ex_move (Or.inr rfl) rfl) hG.below
        · intro a wx who hG hF
          obtain ⟨v7, ob7, fv7, fo7, fp7⟩ := hF 6 (of_decide_eq_true (by kernel_rfl)) (of_decide_eq_true (by kernel_rfl))
          replace fv7 : a.tmps.getD 7 undef = v7 := eval_slot (s := 7) fv7
          have fv8 : a.tmps.getD 8 undef = .int .i64 0 := eval_slot (s := 8) (hF 7 (of_decide_eq_true (by kernel_rfl)) (of_decide_eq_true (by kernel_rfl)))
          have hbox := hF 5 (of_decide_eq_true (by kernel_rfl)) (of_decide_eq_true (by kernel_rfl))
          have hgx := hF 11 (of_decide_eq_true (by kernel_rfl)) (of_decide_eq_true (by kernel_rfl))
          have hbx := hG.below
          have hnx := hG.new
          rw [hG.frame]
          simp only [List.foldl_cons, List.foldl_nil, List.setIfInBounds_toArray, List.set_cons_zero, List.set_cons_succ]
          generalize a.tmps.getD 40 undef = u40
          generalize a.tmps.getD 41 undef = u41
          generalize a.tmps.getD 42 undef = u42
          generalize a.tmps.getD 43 undef = u43
          generalize a.tmps.getD 44 undef = u44
          rw [fv7]
          rw [fv8]
          clear hF hG fv7 fv8
          obtain ⟨hq9, -⟩ := hbox
          obtain ⟨_, _, _, _, hgr9⟩ := hgx
          have HGO := Lib.hid (graR.own hgr9); have HROW := Lib.hid fp7.1; have RQ9 := Lib.hid hq9; have B9 := Lib.hid hbx
          clear hgr9 fp7 fo7 hq9 hbx hnx
          go_wp2
          try simp only [Exit.inBlock, Exit.then]
          refine bodyPost_ret (v := .tuple #[.agg #[.slice a1 m c1, .slice b7 L.length d7], v7, .int .i64 0]) (results_cttR (fn := Try.f20) (q := 6) (r := 7) (s := 8) (ty := 25) rfl _ _ q 25 #[.slice a1 m c1, .slice b7 L.length d7] (0, 0) _ rfl RQ9.out Try.underlying25 rfl Try.size_gra) rfl ?_
          exact ⟨_, _, rfl, HGO.out, HROW.out, B9.out⟩
  · have hg2 : linkG g f t = g := by unfold linkG; rw [if_neg hk]
    have hd2 : linkD g f t = [] := by unfold linkD; rw [if_neg hk]
    rw [hg2, hd2]
    obtain ⟨K, hK⟩ : ∃ K, linkK g f t = K := ⟨_, rfl⟩
    rw [hK] at kc hk ⊢
    have hkb : (K != 0) = true := by simp [hk]
    clear hg2 hd2 hK hk kk hf hff hft
    go_enter Try.func20, Try.ntmps20
    go_upto_region 1 with fail
    rw [HW.out, HQ.out, HP.out]
    go_wp2_with (first
      | (go_at_call 39; refine (kc _ hG.out).mono ?_; rintro e w1 ⟨v, rfl, hx, hb1⟩; replace BB := Lib.hid (below_step BB.out hb1); replace R1 := Lib.hid (row_keepB R1.out hb1); replace d0 := cell_keep d0 hb1; replace d1 := cell_keep d1 hb1; replace U1 := Lib.hid (U1.out.below hb1); replace U2 := Lib.hid (U2.out.belowB hb1); clear hb1 hx kc)
      | (go_at_call 41; refine (rown_any a b n1 c n2 d g.1 g.2 _ U1.out U2.out (by omega) (by omega)).mono ?_; rintro e w2 ⟨v2, rfl, hx2, hb2⟩; obtain ⟨a2, c2, b2, d2, rfl, -, -⟩ := hx2.forms; rw [HN1.out, HN2.out]; have HX := Lib.hid hx2; have HS := Lib.hid (show w.heap.size + 2 ≤ w1.heap.size from by have := (Array.getElem?_eq_some_iff.1 R1.out).1; have := HQ.out; omega); replace BB := Lib.hid (below_step BB.out hb2); replace R1 := Lib.hid (row_keepB R1.out hb2); obtain ⟨x0, x1, f0, f1⟩ := row2 R1.out; clear hb2 hx2))
    have hbel := (BB.out.setCell (p := ⟨q, 0, none⟩) hwq (.slice a2 n1 c2)).setCell (p := ⟨q, 1, none⟩) hwq (.slice b2 n2 d2)
    obtain ⟨y1, y2, hy, hr1, hr2⟩ := HX.out
    rw [HN1.out, HN2.out] at hy
    injection hy with hy
    injection hy with hy
    injection hy with hy1 hy2
    injection hy2 with hy2
    subst hy1 hy2
    have hq2 : q < w1.heap.size + 1 := by have := HS.out; have := HQ.out; omega
    have hrow1 := row_far1 (row_far1 hr1 (g := q) (i := 0) hq2 (.slice a2 n1 c2)) (g := q) (i := 1) hq2 (.slice b2 n2 d2)
    have hrow2 := row_far1 (row_far1 hr2 (g := q) (i := 0) hq2 (.slice a2 n1 c2)) (g := q) (i := 1) hq2 (.slice b2 n2 d2)
    have hset := row2_set R1.out (.slice a2 n1 c2) (.slice b2 n2 d2)
    have hle : w.heap.size ≤ w1.heap.size + 1 := by have := HS.out; omega
    refine bodyPost_ret (v := .tuple #[.agg #[.slice a2 n1 c2, .slice b2 n2 d2], .slice none 0 0, .int .i64 K]) (results_cttR (fn := Try.f20) (q := 6) (r := 7) (s := 8) (ty := 25) rfl _ _ q 25 #[.slice a2 n1 c2, .slice b2 n2 d2] (0, 0) _ rfl hset Try.underlying25 rfl Try.size_gra) rfl ?_
    exact ⟨_, _, rfl, ⟨_, _, rfl, row_base hrow1 hle, row_base hrow2 hle⟩, World.ownsRow_nil _ _ _ _, hbel⟩
end Go.Proofs.Ytfkbpkjejnpaiaa
