/- Numbers put in order: of the document. -/
import Derived.Test.YtfkbpkjejnpaiaaReaQ
import Derived.Laws.CopyOwn
import Derived.BigQuiet
import Derived.Deep.QuietTactic
namespace Go.Proofs.Ytfkbpkjejnpaiaa
open Go.RowKit
set_option linter.unusedVariables false
set_option maxRecDepth 100000

/-! ### Plain facts -/
theorem rise_nil : riseI [] = [] := by unfold riseI; simp
theorem sort_put {S O : List Int} {x : Int} {k : Nat} (hO : O = riseI S) (hn : (S ++ [x]).Nodup) (h1 : ∀ z ∈ O.take k, z < x) (h2 : ∀ z ∈ O.drop k, x < z) : riseI (S ++ [x]) = O.take k ++ x :: O.drop k := by
  have hS : S.Nodup := (List.nodup_append.1 hn).1
  have hpw : O.Pairwise (· < ·) := by rw [hO]; exact rise_pw hS
  rw [← List.take_append_drop k O, List.pairwise_append] at hpw
  refine rises_uniq (rise_pw hn) ?_ fun z => ?_
  · refine List.pairwise_append.2 ⟨hpw.1, List.pairwise_cons.2 ⟨h2, hpw.2.1⟩, fun a ha b hb => ?_⟩
    rcases List.mem_cons.1 hb with rfl | hb
    · exact h1 a ha
    · exact Int.lt_trans (h1 a ha) (h2 b hb)
  · have hm : z ∈ S ↔ z ∈ O.take k ∨ z ∈ O.drop k := by rw [← List.mem_append, List.take_append_drop, hO, rise_mem]
    rw [rise_mem, List.mem_append, List.mem_singleton, List.mem_append, List.mem_cons, hm]
    constructor
    · rintro ((h | h) | h)
      · exact .inl h
      · exact .inr (.inr h)
      · exact .inr (.inl h)
    · rintro (h | h | h)
      · exact .inl (.inl h)
      · exact .inr h
      · exact .inl (.inr h)
theorem drop_gt {O : List Int} {x : Int} {s : Nat} (hs : s < O.length) (h : ∀ z ∈ O.drop (s + 1), x < z) (hx : x < O.getD s 0) : ∀ z ∈ O.drop s, x < z := fun z hz => by
  rw [List.drop_eq_getElem_cons hs, List.mem_cons] at hz
  rcases hz with rfl | hz
  · simpa [List.getD_eq_getElem?_getD, List.getElem?_eq_getElem hs] using hx
  · exact h z hz
theorem take_lt {O : List Int} {x : Int} {s : Nat} (hpw : O.Pairwise (· < ·)) (hs : s < O.length) (hx : O.getD s 0 < x) : ∀ z ∈ O.take (s + 1), z < x := fun z hz => by
  obtain ⟨j, hj, rfl⟩ := List.getElem_of_mem hz
  rw [List.length_take] at hj
  rw [List.getElem_take]
  have hx2 : O[s] < x := by simpa [List.getD_eq_getElem?_getD, List.getElem?_eq_getElem hs] using hx
  rcases Nat.lt_or_ge j s with h | h
  · exact Int.lt_trans (List.pairwise_iff_getElem.1 hpw j s (by omega) hs h) hx2
  · have : j = s := by omega
    subst this; exact hx2
theorem put_there {O : List Int} {x : Int} {k : Nat} (hk : k ≤ O.length) : ((O ++ [0]).take (k + 1) ++ O.drop k).set k x = O.take k ++ x :: O.drop k := by
  have h1 : ((O ++ [0]).take (k + 1)) = O.take k ++ [(O ++ [0]).getD k 0] := by
    rw [List.take_succ_eq_append_getElem (by simp; omega), List.take_append_of_le_length hk]
    simp [List.getD_eq_getElem?_getD, List.getElem?_eq_getElem (show k < (O ++ [0]).length by simp; omega)]
  rw [h1, List.append_assoc, List.singleton_append, List.set_append_right _ _ (by rw [List.length_take]; omega), List.length_take, Nat.min_eq_left hk, Nat.sub_self]
  rfl

/-! ### In memory -/
theorem add1R {i : Nat} {w : World} (h : i ≤ 2000000) : Sem.run Try.prog (binOp .add 3 (.int .i64 (i : Int)) (.int .i64 1)) w = .ok (.int .i64 ((i + 1 : Nat) : Int)) w := by
  have e : IntKind.i64.wrap ((i : Int) + 1) = ((i + 1 : Nat) : Int) := by rw [IntKind.wrap_i64]; omega
  go_simp
theorem iz_back (w : World) (A : Option Addr) (n c i : Nat) (h : i ≤ n) (hc : n ≤ c) : (Instr.sliceAt 23 (.slice A n c) (some (.int .i64 i)) none none).run Try.prog w = .ok (sliced A i n c 1) w := by
  have h1 : (0 : Int) ≤ (i : Int) := by omega
  have h2 : (i : Int) ≤ (n : Int) := by omega
  have h3 : (n : Int) ≤ (c : Int) := by omega
  go_simp
/-- A row in a block that is known. -/
def rowV (g c N n : Nat) (xs : List Value) : World → Value → Option Nat → Prop := fun w v ob => v = .slice (some ⟨g, 0, none⟩) n c ∧ ob = some g ∧ w.ownsRow N 3 1 v n xs
theorem rowV_near {g c N n : Nat} {xs : List Value} : ∀ (w w' : World) (v : Value) (ob : Option Nat), (∀ b, ob = some b → w'.heap[b]? = w.heap[b]?) → rowV g c N n xs w v ob → rowV g c N n xs w' v ob := by
  rintro w w' v ob hb ⟨rfl, rfl, h⟩
  exact ⟨rfl, rfl, row_heapR h fun b e => hb b (by simpa [Value.ownBlock] using e)⟩
theorem row_setI {w : World} {N g n c k : Nat} {e : TypeId} {xs : List Value} (h : w.ownsRow N e 1 (.slice (some ⟨g, 0, none⟩) n c) n xs) (u : Value) : (w.setCell ⟨g, k, none⟩ u).ownsRow N e 1 (.slice (some ⟨g, 0, none⟩) n c) n (xs.set k u) := by
  obtain ⟨h1, h0 | ⟨g', c', cur, hv, h2, h3, h4, h5, h6, h7⟩⟩ := h
  · cases h0.1
  · cases hv
    refine ⟨by simpa using h1, .inr ⟨g, c, cur.setIfInBounds k u, rfl, h2, ?_, h4, h5, by simpa using h6, ?_⟩⟩
    · simp [World.setCell, Array.getElem?_modify, h3]
    · rw [Array.toList_setIfInBounds, List.take_set, h7]
theorem row_cellS {w : World} {N n c k : Nat} {A : Option Addr} {e : TypeId} {l : List Int} (h : w.ownsRow N e 1 (.slice A n c) n (intZ l)) (hk : k < n) : ∃ g, A = some ⟨g, 0, none⟩ ∧ w.cell? ⟨g, k, none⟩ = some (.int .i64 (l.getD k 0)) := by
  have h0 := h
  obtain ⟨_, h1 | ⟨g, c', cur, hv, -⟩⟩ := h
  · exact absurd h1.2 (by omega)
  · cases hv
    have hl : l.length = n := by have := h0.1; simpa using this
    refine ⟨g, rfl, ?_⟩
    rw [h0.cellAt k (by omega), List.getElem?_map, List.getD_eq_getElem?_getD, List.getElem?_eq_getElem (show k < l.length by omega)]; rfl
theorem row_cellI {w : World} {N g n c k : Nat} {e : TypeId} {l : List Int} (h : w.ownsRow N e 1 (.slice (some ⟨g, 0, none⟩) n c) n (intZ l)) (hk : k < n) : w.cell? ⟨g, k, none⟩ = some (.int .i64 (l.getD k 0)) ∧ w.frozen? ⟨g, k, none⟩ = false ∧ n ≤ c := by
  have hl : l.length = n := by have := h.1; simpa using this
  have h3 := h.cellAt k (by omega)
  obtain ⟨-, h0 | ⟨g', c', cur, hv, -, hh, h4, -⟩⟩ := h
  · cases h0.1
  · cases hv
    refine ⟨?_, by simp [World.frozen?, hh], h4⟩
    rw [h3, List.getElem?_map, List.getD_eq_getElem?_getD, List.getElem?_eq_getElem (show k < l.length by omega)]; rfl
section
variable {P : Program} {a : Act} {w : World} {o : Oper}
theorem ex_backR {t : TypeId} {x y : Operand} {vx vy v : Value} (hop : o.op = .slice t x (some y) none none) (hx : a.eval x = vx) (hy : a.eval y = vy) (hr : Sem.run P (Instr.sliceAt t vx (some vy) none none) w = .ok v w) : Sem.run P (execOp a.eval o) w = .ok (.value v) w := by
  simp only [execOp, hop, Option.map, hx, hy]
  simp [hr]
end
section
variable {ops : Array Oper} {Q : Exit → Act → World → Prop} {a : Act} {w w0 : World} {who : Nat → Nat} {i B r ro : Nat} {o : Oper}
/-- 'copy(out[k+1:], out[k:])'. -/
theorem rol_copyI (ho : ops[i]? = some o) (hw : Region.wanted o (yielded ops a.tmps) = true) {s : Nat} (hd : o.dst = some s) {x y : Operand} (hop : o.op = .call { callee := .builtin .copy, args := #[x, y], argTypes := #[23, 23] }) {g n k c N t : Nat} {O : List Int}
    (hx : a.eval x = sliced (some ⟨g, 0, none⟩) (k + 1) (n + 1) c 1) (hy : a.eval y = sliced (some ⟨g, 0, none⟩) k (n + 1) c 1) (hk : k ≤ n) (hO : O.length = n) (hne : s ≠ t) (h : (RLeaf.mem t (rowV g c N (n + 1) (intZ (O ++ [0])))).holds r a w who) (hb : Below B w0 w) (hB : B ≤ g) :
    wpOp Try.prog ops Q i (RPost ops i r r (.mem t (rowV g c N (n + 1) (intZ ((O ++ [0]).take (k + 1) ++ O.drop k)))) B w0 a w who) a w := by
  obtain ⟨v, ob, hv, hob, rfl, rfl, hrow⟩ := h
  have hg := hob g rfl
  have hrow0 := hrow
  obtain ⟨h1, h0 | ⟨g', c', cur, hvv, hN, hh, hle, hcm, hsz, htk⟩⟩ := hrow
  · cases h0.1
  cases hvv
  have hsize : ((Try.prog.info? 3).map (·.size)) = some 1 := by kernel_rfl
  have hl0 : (intZ (O ++ [0])).length = n + 1 := by simp [hO]
  by_cases hkn : k = n
  · subst hkn
    have e : (O ++ [0]).take (k + 1) ++ O.drop k = O ++ [0] := by rw [List.take_of_length_le (by simp [hO]), List.drop_eq_nil_of_le (by omega), List.append_nil]
    rw [e]
    unfold sliced at hx hy
    obtain ⟨A1, hA1⟩ : ∃ A1, (if c = k + 1 then some (⟨g, 0, none⟩ : Addr) else Option.map (fun x : Addr => x.add ((k + 1) * 1)) (some ⟨g, 0, none⟩)) = A1 := ⟨_, rfl⟩
    obtain ⟨A2, hA2⟩ : ∃ A2, (if c = k then some (⟨g, 0, none⟩ : Addr) else Option.map (fun x : Addr => x.add (k * 1)) (some ⟨g, 0, none⟩)) = A2 := ⟨_, rfl⟩
    rw [hA1] at hx
    rw [hA2] at hy
    have hrun := run_copy_none (P := Try.prog) w 23 23 o.type 3 A1 A2 (k + 1 - (k + 1)) (c - (k + 1)) (k + 1 - k) (c - k) Try.underlying23 hsize (by simp)
    have hr : Sem.run Try.prog (execOp a.eval o) w = .ok (.value (goInt 0)) w := by
      have e1 : k + 1 - k = 1 := by omega
      simp only [Nat.sub_self, e1] at hx hy hrun
      simp [execOp, hop, resolve, invoke, builtin, hx, hy, hrun, Result.andThen]
    refine rol_wp ho hw ?_
    unfold Oper.wp
    rw [hr, Oper.upon_value, hd]
    exact ⟨⟨_, by rw [dst_of ho, hd]⟩, hb, who, RKeep.same _ _ _, _, some g, by rw [put_other (by simpa using hne)]; exact hv, hob, rfl, rfl, hrow0⟩
  · have hc1 : c ≠ k + 1 := by omega
    have hc2 : c ≠ k := by omega
    have ha1 : (⟨g, 0, none⟩ : Addr).add ((k + 1) * 1) = ⟨g, k + 1, none⟩ := by rw [addr_add]; simp
    have ha2 : (⟨g, 0, none⟩ : Addr).add (k * 1) = ⟨g, k, none⟩ := by rw [addr_add]; simp
    have hcl : (intZ (O.drop k)).length = n - k := by simp [hO]
    have hsrc : ∀ j u, (intZ (O.drop k))[j]? = some u → w.cell? ((⟨g, k, none⟩ : Addr).add j) = some u := fun j u hu => by
      have hj : j < n - k := by have := (List.getElem?_eq_some_iff.1 hu).1; rw [hcl] at this; exact this
      rw [addr_add, hrow0.cellAt (k + j) (by omega), ← hu, intZ, intZ, List.getElem?_map, List.getElem?_map, List.getElem?_append_left (show k + j < O.length by omega), List.getElem?_drop]
    have hrun := run_copy_row (P := Try.prog) w 23 23 o.type 3 g (k + 1) (n + 1 - (k + 1)) (c - (k + 1)) ⟨g, k, none⟩ (n + 1 - k) (c - k) cur 3 (intZ (O.drop k)) Try.underlying23 hsize hh (hcl.trans ((show n - k = n + 1 - (k + 1) by omega).trans (Nat.min_eq_right (show n + 1 - (k + 1) ≤ n + 1 - k by omega)).symm)) hsrc (by rw [hcl, hsz]; omega) (fun u hu => by obtain ⟨z, _, rfl⟩ := List.mem_map.1 hu; rfl)
    unfold sliced at hx hy
    rw [if_neg hc1, Option.map_some, ha1] at hx
    rw [if_neg hc2, Option.map_some, ha2] at hy
    obtain ⟨new, hnew⟩ : ∃ new, (cur.toList.take (k + 1) ++ intZ (O.drop k) ++ cur.toList.drop (k + 1 + (intZ (O.drop k)).length)).toArray = new := ⟨_, rfl⟩
    rw [hnew] at hrun
    have hr : Sem.run Try.prog (execOp a.eval o) w = .ok (.value (goInt (intZ (O.drop k)).length)) (w.setRow g new) := by
      simp only [show n + 1 - (k + 1) = n - k by omega] at hx hrun
      simp [execOp, hop, resolve, invoke, builtin, hx, hy, hrun, Result.andThen]
    have hgl := (Array.getElem?_eq_some_iff.1 hh).1
    have hnh := setRow_heap w g cur new 3 (0, 0) hh
    have htk2 : cur.toList.take (k + 1) = intZ ((O ++ [0]).take (k + 1)) := by
      have : cur.toList.take (k + 1) = (cur.toList.take ((n + 1) * 1)).take (k + 1) := by rw [List.take_take]; congr 1; omega
      rw [this, htk, intZ, intZ, List.map_take]
    have hcs : cur.toList.length = c := by simpa using hsz
    refine rol_wp ho hw ?_
    unfold Oper.wp
    rw [hr, Oper.upon_value, hd]
    refine ⟨⟨_, by rw [dst_of ho, hd]⟩, below_setRow hb hB _, who, ⟨fun j _ hj => setRow_other w g j _ (fun e => hj (by rw [e]; exact hg.2)), fun _ _ => rfl, by simp [World.setRow]⟩, _, some g, by rw [put_other (by simpa using hne)]; exact hv, fun b e => ?_, rfl, rfl, ?_⟩
    · cases e; exact ⟨by simp [World.setRow]; exact hgl, hg.2⟩
    · refine ⟨by simp [hO]; omega, .inr ⟨g, c, new, rfl, hN, hnh, hle, hcm, ?_, ?_⟩⟩
      · rw [← hnew]; simp [hO, hcs]; omega
      · rw [← hnew, List.toList_toArray, htk2, ← intZ_app, List.take_append_of_le_length (by simp [hO]; omega)]
        exact List.take_of_length_le (by simp [hO]; omega)
end

set_option maxHeartbeats 6400000 in
theorem refsorted_any (U : Value) (zs : List Int) (w : World) (h : Ints w U zs) (hnd : zs.Nodup) (hl : zs.length ≤ 1000000) :
    Calls Try.prog 38 #[U] w fun e w' => ∃ v, e = .returned v ∧ w'.ownsRow w.heap.size 3 1 v (riseI zs).length (intZ (riseI zs)) ∧ Below w.heap.size w w' := by
  obtain ⟨a, c0, rfl, -⟩ := h.ex
  obtain ⟨n, hn⟩ : ∃ n, zs.length = n := ⟨_, rfl⟩
  rw [hn] at h hl ⊢
  have ST := Lib.hid h; have HN := Lib.hid hn; have HND := Lib.hid hnd
  clear h hn hnd
  go_enter Try.func38, Try.ntmps38
  go_wp2
  go_loopw [3, 4] (fun v i wr => ∃ k : Nat, k ≤ n ∧ i = .int .i64 k ∧ Hid (wr.ownsRow w.heap.size 3 1 v k (intZ (riseI (zs.take k)))) ∧ Hid (Below w.heap.size w wr)) (fun _ i _ => n - (numR i).toNat)
  case atStart => exact ⟨0, Nat.zero_le _, rfl, Lib.hid (by rw [List.take_zero, rise_nil]; exact World.ownsRow_nil _ _ _ _), Lib.hid (Below.refl _ _)⟩
  case round =>
    obtain ⟨k, hk, rfl, HO, HB⟩ := hrel
    by_cases hlt : k < n
    · have hkl : k < zs.length := by rw [HN.out]; exact hlt
      obtain ⟨b, off, rfl⟩ := ST.out.some (by omega)
      have htk := int_take hkl
      have hnd : (zs.take k ++ [zs.getD k 0]).Nodup := by rw [← htk]; exact HND.out.sublist (List.take_sublist _ _)
      obtain ⟨O, hO⟩ : ∃ O, riseI (zs.take k) = O := ⟨_, rfl⟩
      have hOl : O.length = k := by rw [← hO, rise_len, List.length_take]; omega
      have hpw : O.Pairwise (· < ·) := by rw [← hO]; exact rise_pw (List.nodup_append.1 hnd).1
      obtain ⟨y, hy⟩ : ∃ y, y = zs.getD k 0 := ⟨_, rfl⟩
      rw [← hy] at htk hnd
      have hyO : ∀ z ∈ O, z ≠ y := fun z hz e => by
        rw [← hO, rise_mem] at hz
        exact (List.nodup_append.1 hnd).2.2 z hz y (by simp) e
      have hput := fun at0 h1 h2 => sort_put (k := at0) hO.symm hnd h1 h2
      have hOr := HO.out
      rw [hO] at hOr
      replace HO := Lib.hid hOr
      obtain ⟨a3, c3, rfl, -⟩ := intsZ (l := O) (by rw [hOl]; exact HO.out)
      rw [hOl] at HO ⊢
      have HOL := Lib.hid hOl; have HPW := Lib.hid hpw; have HY := Lib.hid hy; have HPUT := Lib.hid hput; have HTK := Lib.hid htk; have HYO := Lib.hid hyO
      have hkb : (k : Int) < (n : Int) := by omega
      clear hO hOl hpw hy hput htk hyO hnd hOr
      go_wp2
      go_loopw [5] (fun s wr2 => ∃ at0 q : Nat, at0 ≤ k ∧ s = .int .i64 at0 ∧ wr2 = wr.drewN q ∧ Hid (∀ z ∈ O.drop at0, y < z)) (fun s _ => (numR s).toNat)
      case atStart => exact ⟨k, 0, Nat.le_refl _, rfl, rfl, Lib.hid (fun z hz => by rw [List.drop_eq_nil_of_le (by rw [HOL.out]; exact Nat.le_refl _)] at hz; cases hz)⟩
      case round =>
        obtain ⟨at0, q, hat, rfl, rfl, HD⟩ := hrel
        obtain ⟨Wq, hWq⟩ : ∃ Wq, wr.drewN q = Wq := ⟨_, rfl⟩
        have hbq : Below wr.heap.size wr Wq := by rw [← hWq]; exact below_q ⟨q, rfl⟩
        have HOQ := Lib.hid (ownsRow_belowB HO.out hbq); have HBQ := Lib.hid (below_step HB.out hbq); have HWQ := Lib.hid hWq
        rw [hWq]
        clear hbq hWq
        rcases Nat.eq_zero_or_pos at0 with h0 | hp
        · have hd0 : decide (0 < at0) = false := by simp; omega
          have h1 : ∀ z ∈ O.take at0, z < y := by rw [h0]; simp
          have H0 := Lib.hid h0; have HH0 := Lib.hid h1
          clear h0 h1
          go_wp2_with fail
          go_quiet (fail)
          obtain ⟨w2, hw2⟩ : ∃ w2, Wq.drewN nq = w2 := ⟨_, rfl⟩
          have hb2 : Below Wq.heap.size Wq w2 := by rw [← hw2]; exact below_q ⟨nq, rfl⟩
          have HO2 := Lib.hid (ownsRow_belowB HOQ.out hb2); have HB2 := Lib.hid (below_step HBQ.out hb2)
          rw [hw2]
          clear hb2 hw2
          clear hd0
          have h1 := HH0.out
          have HAT := Lib.hid (show at0 ≤ 2000000 by omega); have HH1 := Lib.hid h1; have HH2 := Lib.hid HD.out
          go_upto_region 9 with (at_builtin; refine wpList_append_new rfl _ _ 23 rfl w.heap.size 3 (.int .i64 0) 1 8 Try.underlying23 Try.info_int rfl (by decide) _ k _ rfl HO2.out [.int .i64 0] rfl rfl rfl (by omega) (by unfold maxLen; omega) HB2.out.size ?_; intro v5 w5 hown5 hb5; have H50 := Lib.hid hown5; have B5 := Lib.hid (HB2.out.trans hb5.toBelow); clear hown5 hb5)
          obtain ⟨g, c, rfl, -, hcc, -⟩ := row_short H50.out (by rw [List.length_map, HOL.out])
          have H5 := Lib.hid (show w5.ownsRow w.heap.size 3 1 (.slice (some ⟨g, 0, none⟩) (k + 1) c) (k + 1) (intZ (O ++ [0])) from by rw [intZ_snoc]; exact H50.out)
          have HAK := Lib.hid (show at0 + 1 ≤ k + 1 ∧ k + 1 ≤ c from ⟨by omega, hcc⟩); have HGB := Lib.hid (H5.out.lt g rfl).1; have HGL := Lib.hid (H5.out.lt g rfl).2
          clear hcc
          refine rol_run (by kernel_rfl) [[], [], [1], [0, 1, 2], [], [], [4, 5], [0, 1, 2, 3, 4, 5, 6]] (by kernel_rfl) [33, 34, 35, 36, 37, 38, 39, 40] [[], [], [1], [0, 2], [], [], [4, 5], [3, 6, 8]] [0, 0, 0, 0, 0, 0, 0, 1, 1] [0, 0, 0, 0, 0, 0, 0, 1] [1000, 1000, 1000, 1000, 1000, 1000, 1000, 1000, 7] [.val 33 (.slice (some ⟨g, 0, none⟩) (k + 1) c), .val 34 (.int .i64 (at0 : Int)), .val 35 (.int .i64 ((at0 + 1 : Nat) : Int)), .val 36 (sliced (some ⟨g, 0, none⟩) (at0 + 1) (k + 1) c 1), .val 37 (.slice (some ⟨g, 0, none⟩) (k + 1) c), .val 38 (.int .i64 (at0 : Int)), .val 39 (sliced (some ⟨g, 0, none⟩) at0 (k + 1) c 1), .mem 3 (rowV g c w.heap.size (k + 1) (intZ ((O ++ [0]).take (at0 + 1) ++ O.drop at0))), .mem 3 (rowV g c w.heap.size (k + 1) (intZ (O ++ [0])))] (by kernel_rfl) ?_ (w.heap.size) (w5.heap.size) rfl B5.out rfl (fun k => if k = g then 1 else 3) ?_ ?_ ?_
          · intro j hj
            have hj3 : j < 9 := hj
            have hj2 : j = 0 ∨ j = 1 ∨ j = 2 ∨ j = 3 ∨ j = 4 ∨ j = 5 ∨ j = 6 ∨ j = 7 ∨ j = 8 := by omega
            clear hj hj3
            rcases hj2 with rfl | rfl | rfl | rfl | rfl | rfl | rfl | rfl | rfl
            · exact trivial
            · exact trivial
            · exact trivial
            · exact trivial
            · exact trivial
            · exact trivial
            · exact trivial
            · exact rowV_near
            · exact rowV_near
          · intro j hj0 hj
            have hj1 : 8 ≤ j := hj0
            have hj3 : j < 9 := hj
            have hj2 : j = 8 := by omega
            clear hj0 hj hj1 hj3
            rcases hj2 with rfl
            · exact ⟨_, some g, rfl, fun b e => by cases e; exact ⟨HGL.out, if_pos rfl⟩, rfl, rfl, row_heapR H5.out (fun _ _ => rfl)⟩
          · intro i hi a wx who hG hF
            have hz : a.tmps.size = 49 := hG.size
            have hi3 : i < 8 := hi
            have hi2 : i = 0 ∨ i = 1 ∨ i = 2 ∨ i = 3 ∨ i = 4 ∨ i = 5 ∨ i = 6 ∨ i = 7 := by omega
            clear hi hi3
            rcases hi2 with rfl | rfl | rfl | rfl | rfl | rfl | rfl | rfl
            · exact rol_val rfl rfl rfl (by rw [hz]; decide) (ex_move (Or.inl rfl) (eval_slot ((hG.slots 3 (by decide)).trans rfl))) hG.below
            · exact rol_val rfl rfl rfl (by rw [hz]; decide) (ex_move (Or.inl rfl) (eval_slot ((hG.slots 5 (by decide)).trans rfl))) hG.below
            · exact rol_val rfl rfl rfl (by rw [hz]; decide) (ex_bin rfl (eval_slot (hF 1 (by decide))) rfl (by go_simp) (add1R HAT.out)) hG.below
            · exact rol_val rfl rfl rfl (by rw [hz]; decide) (ex_backR rfl (eval_slot (hF 0 (by decide))) (eval_slot (hF 2 (by decide))) (iz_back wx _ (k + 1) c (at0 + 1) HAK.out.1 HAK.out.2)) hG.below
            · exact rol_val rfl rfl rfl (by rw [hz]; decide) (ex_move (Or.inl rfl) (eval_slot ((hG.slots 3 (by decide)).trans rfl))) hG.below
            · exact rol_val rfl rfl rfl (by rw [hz]; decide) (ex_move (Or.inl rfl) (eval_slot ((hG.slots 5 (by decide)).trans rfl))) hG.below
            · exact rol_val rfl rfl rfl (by rw [hz]; decide) (ex_backR rfl (eval_slot (hF 4 (by decide))) (eval_slot (hF 5 (by decide))) (iz_back wx _ (k + 1) c at0 (Nat.le_trans (Nat.le_succ _) HAK.out.1) HAK.out.2)) hG.below
            · exact rol_copyI rfl rfl rfl rfl (eval_slot (hF 3 (by decide))) (eval_slot (hF 6 (by decide))) (Nat.le_of_succ_le_succ HAK.out.1) HOL.out (by decide) (hF 8 (by decide)) hG.below HGB.out
          · intro a wx who hG hF
            have hrow := hF 7 (of_decide_eq_true (by kernel_rfl)) (of_decide_eq_true (by kernel_rfl))
            have hbx := hG.below
            have hnx := hG.new
            rw [hG.frame]
            simp only [List.foldl_cons, List.foldl_nil, List.setIfInBounds_toArray, List.set_cons_zero, List.set_cons_succ]
            generalize a.tmps.getD 33 undef = u33
            generalize a.tmps.getD 34 undef = u34
            generalize a.tmps.getD 35 undef = u35
            generalize a.tmps.getD 36 undef = u36
            generalize a.tmps.getD 37 undef = u37
            generalize a.tmps.getD 38 undef = u38
            generalize a.tmps.getD 39 undef = u39
            generalize a.tmps.getD 40 undef = u40
            clear hF hG
            obtain ⟨_, _, _, _, rfl, -, hT⟩ := hrow
            have hTl : at0 < k + 1 := by omega
            obtain ⟨hc3, hf3, hkc⟩ := row_cellI hT hTl
            have hsrc := (ST.out.belowB hbx).cell k hlt
            rw [← HY.out] at hsrc
            have hbz := hbx.setCell (p := ⟨g, at0, none⟩) HGB.out (.int .i64 y)
            have hrz := row_setI (k := at0) hT (.int .i64 y)
            have hat3 : (at0 : Int) < ((k + 1 : Nat) : Int) := by omega
            have hfin : intZ (riseI (zs.take (k + 1))) = (intZ ((O ++ [0]).take (at0 + 1) ++ O.drop at0)).set at0 (.int .i64 y) := by
              rw [HTK.out, HPUT.out at0 HH1.out HH2.out, ← put_there (by rw [HOL.out]; omega)]
              simp only [intZ, List.map_set]
            have HFIN := Lib.hid hfin; have HRZ := Lib.hid hrz; have HBZ := Lib.hid hbz
            clear hT hfin hrz hbz hbx hnx H50 H5 B5
            go_wp2
            go_roundw
            case rel => exact ⟨k + 1, by omega, by go_num, Lib.hid (by rw [HFIN.out]; exact HRZ.out), HBZ⟩
            case measure => simp [numR]; omega
        · obtain ⟨s, hs1⟩ : ∃ s, at0 = s + 1 := ⟨at0 - 1, by omega⟩
          have hs : s < k := by omega
          obtain ⟨g3, rfl, hc4⟩ := row_cellS HOQ.out hs
          have hsrc := (ST.out.belowB HBQ.out).cell k hlt
          rw [← HY.out] at hsrc
          have hd0 : decide (0 < at0) = true := by simp; omega
          have hsi : (at0 : Int) - 1 = (s : Int) := by omega
          have hsn : (s : Int) < (k : Int) := by omega
          obtain ⟨u, hu⟩ : ∃ u, u = O.getD s 0 := ⟨_, rfl⟩
          rw [← hu] at hc4
          have hsO : s < O.length := by rw [HOL.out]; exact hs
          by_cases hgt : y < u
          · have hd1 : decide (y < u) = true := by simp [hgt]
            have HD2 : Hid (∀ z ∈ O.drop s, y < z) := Lib.hid (drop_gt hsO (by rw [← hs1]; exact HD.out) (by rw [← hu]; exact hgt))
            have HS1 := Lib.hid hs1; have HWE := HWQ
            clear hgt hu hs1
            go_wp2_with fail
            go_quiet (fail)
            go_wp2
            go_roundw
            case rel => exact ⟨s, q + nq, by omega, by go_num, by rw [← HWE.out, World.drewN_drewN], HD2⟩
            case measure => simp [numR]; have := HS1.out; omega
          · have hd1 : decide (y < u) = false := by simp [hgt]
            have hlt2 : u < y := by
              have hm : O.getD s 0 ∈ O := int_mem hsO
              have := HYO.out _ hm
              rw [← hu] at this
              omega
            have h1 : ∀ z ∈ O.take at0, z < y := by rw [hs1]; exact take_lt HPW.out hsO (by rw [← hu]; exact hlt2)
            have HH0 := Lib.hid h1; have HS1 := Lib.hid hs1
            clear hgt hlt2 hu h1 hs1
            go_wp2_with fail
            go_quiet (fail)
            obtain ⟨w2, hw2⟩ : ∃ w2, Wq.drewN nq = w2 := ⟨_, rfl⟩
            have hb2 : Below Wq.heap.size Wq w2 := by rw [← hw2]; exact below_q ⟨nq, rfl⟩
            have HO2 := Lib.hid (ownsRow_belowB HOQ.out hb2); have HB2 := Lib.hid (below_step HBQ.out hb2)
            rw [hw2]
            clear hb2 hw2
            clear hd0 hd1 hsi hsn hc4 hsrc hs hsO
            have h1 := HH0.out
            have HAT := Lib.hid (show at0 ≤ 2000000 by omega); have HH1 := Lib.hid h1; have HH2 := Lib.hid HD.out
            go_upto_region 9 with (at_builtin; refine wpList_append_new rfl _ _ 23 rfl w.heap.size 3 (.int .i64 0) 1 8 Try.underlying23 Try.info_int rfl (by decide) _ k _ rfl HO2.out [.int .i64 0] rfl rfl rfl (by omega) (by unfold maxLen; omega) HB2.out.size ?_; intro v5 w5 hown5 hb5; have H50 := Lib.hid hown5; have B5 := Lib.hid (HB2.out.trans hb5.toBelow); clear hown5 hb5)
            obtain ⟨g, c, rfl, -, hcc, -⟩ := row_short H50.out (by rw [List.length_map, HOL.out])
            have H5 := Lib.hid (show w5.ownsRow w.heap.size 3 1 (.slice (some ⟨g, 0, none⟩) (k + 1) c) (k + 1) (intZ (O ++ [0])) from by rw [intZ_snoc]; exact H50.out)
            have HAK := Lib.hid (show at0 + 1 ≤ k + 1 ∧ k + 1 ≤ c from ⟨by omega, hcc⟩); have HGB := Lib.hid (H5.out.lt g rfl).1; have HGL := Lib.hid (H5.out.lt g rfl).2
            clear hcc
            refine rol_run (by kernel_rfl) [[], [], [1], [0, 1, 2], [], [], [4, 5], [0, 1, 2, 3, 4, 5, 6]] (by kernel_rfl) [33, 34, 35, 36, 37, 38, 39, 40] [[], [], [1], [0, 2], [], [], [4, 5], [3, 6, 8]] [0, 0, 0, 0, 0, 0, 0, 1, 1] [0, 0, 0, 0, 0, 0, 0, 1] [1000, 1000, 1000, 1000, 1000, 1000, 1000, 1000, 7] [.val 33 (.slice (some ⟨g, 0, none⟩) (k + 1) c), .val 34 (.int .i64 (at0 : Int)), .val 35 (.int .i64 ((at0 + 1 : Nat) : Int)), .val 36 (sliced (some ⟨g, 0, none⟩) (at0 + 1) (k + 1) c 1), .val 37 (.slice (some ⟨g, 0, none⟩) (k + 1) c), .val 38 (.int .i64 (at0 : Int)), .val 39 (sliced (some ⟨g, 0, none⟩) at0 (k + 1) c 1), .mem 3 (rowV g c w.heap.size (k + 1) (intZ ((O ++ [0]).take (at0 + 1) ++ O.drop at0))), .mem 3 (rowV g c w.heap.size (k + 1) (intZ (O ++ [0])))] (by kernel_rfl) ?_ (w.heap.size) (w5.heap.size) rfl B5.out rfl (fun k => if k = g then 1 else 3) ?_ ?_ ?_
            · intro j hj
              have hj3 : j < 9 := hj
              have hj2 : j = 0 ∨ j = 1 ∨ j = 2 ∨ j = 3 ∨ j = 4 ∨ j = 5 ∨ j = 6 ∨ j = 7 ∨ j = 8 := by omega
              clear hj hj3
              rcases hj2 with rfl | rfl | rfl | rfl | rfl | rfl | rfl | rfl | rfl
              · exact trivial
              · exact trivial
              · exact trivial
              · exact trivial
              · exact trivial
              · exact trivial
              · exact trivial
              · exact rowV_near
              · exact rowV_near
            · intro j hj0 hj
              have hj1 : 8 ≤ j := hj0
              have hj3 : j < 9 := hj
              have hj2 : j = 8 := by omega
              clear hj0 hj hj1 hj3
              rcases hj2 with rfl
              · exact ⟨_, some g, rfl, fun b e => by cases e; exact ⟨HGL.out, if_pos rfl⟩, rfl, rfl, row_heapR H5.out (fun _ _ => rfl)⟩
            · intro i hi a wx who hG hF
              have hz : a.tmps.size = 49 := hG.size
              have hi3 : i < 8 := hi
              have hi2 : i = 0 ∨ i = 1 ∨ i = 2 ∨ i = 3 ∨ i = 4 ∨ i = 5 ∨ i = 6 ∨ i = 7 := by omega
              clear hi hi3
              rcases hi2 with rfl | rfl | rfl | rfl | rfl | rfl | rfl | rfl
              · exact rol_val rfl rfl rfl (by rw [hz]; decide) (ex_move (Or.inl rfl) (eval_slot ((hG.slots 3 (by decide)).trans rfl))) hG.below
              · exact rol_val rfl rfl rfl (by rw [hz]; decide) (ex_move (Or.inl rfl) (eval_slot ((hG.slots 5 (by decide)).trans rfl))) hG.below
              · exact rol_val rfl rfl rfl (by rw [hz]; decide) (ex_bin rfl (eval_slot (hF 1 (by decide))) rfl (by go_simp) (add1R HAT.out)) hG.below
              · exact rol_val rfl rfl rfl (by rw [hz]; decide) (ex_backR rfl (eval_slot (hF 0 (by decide))) (eval_slot (hF 2 (by decide))) (iz_back wx _ (k + 1) c (at0 + 1) HAK.out.1 HAK.out.2)) hG.below
              · exact rol_val rfl rfl rfl (by rw [hz]; decide) (ex_move (Or.inl rfl) (eval_slot ((hG.slots 3 (by decide)).trans rfl))) hG.below
              · exact rol_val rfl rfl rfl (by rw [hz]; decide) (ex_move (Or.inl rfl) (eval_slot ((hG.slots 5 (by decide)).trans rfl))) hG.below
              · exact rol_val rfl rfl rfl (by rw [hz]; decide) (ex_backR rfl (eval_slot (hF 4 (by decide))) (eval_slot (hF 5 (by decide))) (iz_back wx _ (k + 1) c at0 (Nat.le_trans (Nat.le_succ _) HAK.out.1) HAK.out.2)) hG.below
              · exact rol_copyI rfl rfl rfl rfl (eval_slot (hF 3 (by decide))) (eval_slot (hF 6 (by decide))) (Nat.le_of_succ_le_succ HAK.out.1) HOL.out (by decide) (hF 8 (by decide)) hG.below HGB.out
            · intro a wx who hG hF
              have hrow := hF 7 (of_decide_eq_true (by kernel_rfl)) (of_decide_eq_true (by kernel_rfl))
              have hbx := hG.below
              have hnx := hG.new
              rw [hG.frame]
              simp only [List.foldl_cons, List.foldl_nil, List.setIfInBounds_toArray, List.set_cons_zero, List.set_cons_succ]
              generalize a.tmps.getD 33 undef = u33
              generalize a.tmps.getD 34 undef = u34
              generalize a.tmps.getD 35 undef = u35
              generalize a.tmps.getD 36 undef = u36
              generalize a.tmps.getD 37 undef = u37
              generalize a.tmps.getD 38 undef = u38
              generalize a.tmps.getD 39 undef = u39
              generalize a.tmps.getD 40 undef = u40
              clear hF hG
              obtain ⟨_, _, _, _, rfl, -, hT⟩ := hrow
              have hTl : at0 < k + 1 := by omega
              obtain ⟨hc3, hf3, hkc⟩ := row_cellI hT hTl
              have hsrc := (ST.out.belowB hbx).cell k hlt
              rw [← HY.out] at hsrc
              have hbz := hbx.setCell (p := ⟨g, at0, none⟩) HGB.out (.int .i64 y)
              have hrz := row_setI (k := at0) hT (.int .i64 y)
              have hat3 : (at0 : Int) < ((k + 1 : Nat) : Int) := by omega
              have hfin : intZ (riseI (zs.take (k + 1))) = (intZ ((O ++ [0]).take (at0 + 1) ++ O.drop at0)).set at0 (.int .i64 y) := by
                rw [HTK.out, HPUT.out at0 HH1.out HH2.out, ← put_there (by rw [HOL.out]; omega)]
                simp only [intZ, List.map_set]
              have HFIN := Lib.hid hfin; have HRZ := Lib.hid hrz; have HBZ := Lib.hid hbz
              clear hT hfin hrz hbz hbx hnx H50 H5 B5
              go_wp2
              go_roundw
              case rel => exact ⟨k + 1, by omega, by go_num, Lib.hid (by rw [HFIN.out]; exact HRZ.out), HBZ⟩
              case measure => simp [numR]; omega
    · go_wp2
      go_ret
      have e : k = n := by omega
      subst e
      have h5 := HO.out
      rw [List.take_of_length_le (by rw [HN.out]; exact Nat.le_refl _)] at h5
      have e2 : (riseI zs).length = k := by rw [rise_len, HN.out]
      rw [e2]
      exact ⟨_, rfl, h5, HB.out⟩
end Go.Proofs.Ytfkbpkjejnpaiaa
