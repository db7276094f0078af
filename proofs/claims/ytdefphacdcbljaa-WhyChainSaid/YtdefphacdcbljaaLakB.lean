/- THE TEXTS OF ItnA LakB: Maps from nodes to numbers: each node's last place; all nodes may be; the map of some nodes. Maps from nodes to places; needs of the root, of a node, not wanted: what closures ask; the first need that is asked for. -/
import Derived.Test.YtdefphacdcbljaaItnM
import Derived.Test.YtdefphacdcbljaaRolA
import Derived.Maps.OwnOps
import Derived.Test.YtdefphacdcbljaaLakA
import Derived.Shelf.Abstract
namespace Go.Proofs.Ytdefphacdcbljaa
open Go.RowKit Go.Maps
set_option maxRecDepth 100000

/-! ### A map that the call makes: each node of a list with its last place -/
structure IMap (w : World) (b nn : Nat) (K : List Nd) : Prop where
  fits : ∀ n ∈ K, fitsN n
  ex : ∃ D : DataW Unit, w.ownsMap Try.prog 24 (plainElem Try.prog 3) b nn D ∧ Maps.size D = dcN K ∧ ∀ n, fitsN n → has D (litN n) = hasN K n ∧ (hasN K n = true → D.atKey (litN n) (.lit (.int .i64 0)) = .lit (.int .i64 (laN K n)))
theorem IMap.made (w : World) : IMap (w.alloc (.map #[] 0)) w.heap.size 0 [] :=
  ⟨(fun n hn => by cases hn), _, World.ownsMap_made w _ _ _, rfl, fun n _ => ⟨by simp [has, hasN], fun h => by simp [hasN] at h⟩⟩
theorem IMap.kept {w w' : World} {b nn : Nat} {K : List Nd} {row : Option Nat} (h : IMap w b nn K) (hg : w.grownBy w' row) (hne : some b ≠ row) : IMap w' b nn K := by
  obtain ⟨hf, D, ho, hD⟩ := h
  exact ⟨hf, D, ho.kept hg hne, hD⟩
theorem IMap.alloc {w : World} {b nn : Nat} {K : List Nd} (h : IMap w b nn K) (o : Obj) : IMap (w.alloc o) b nn K := h.kept (World.grownBy_alloc w o none) (by simp)
theorem IMap.lt {w : World} {b nn : Nat} {K : List Nd} (h : IMap w b nn K) : b < w.heap.size := by obtain ⟨_, D, ho, _⟩ := h; exact ho.lt
theorem IMap.near {w w' : World} {b nn : Nat} {K : List Nd} (h : IMap w b nn K) (hb : w'.heap[b]? = w.heap[b]?) : IMap w' b nn K := by
  obtain ⟨hf, D, ⟨es, clock, he, rest⟩, hD⟩ := h
  exact ⟨hf, D, ⟨es, clock, hb.trans he, rest⟩, hD⟩
theorem IMap.below {w w' : World} {b nn : Nat} {K : List Nd} (h : IMap w b nn K) (hb : Below w.heap.size w w') : IMap w' b nn K := h.near (hb.block b h.lt)
theorem imap_step {D : DataW Unit} {K : List Nd} {n : Nd} (hi : Tidy D) (hn : fitsN n) (hs : Maps.size D = dcN K)
    (hD : ∀ n, fitsN n → has D (litN n) = hasN K n ∧ (hasN K n = true → D.atKey (litN n) (.lit (.int .i64 0)) = .lit (.int .i64 (laN K n)))) :
    Maps.size (D.put (litN n) (.lit (.int .i64 K.length))) = dcN (K ++ [n]) ∧ ∀ m, fitsN m → has (D.put (litN n) (.lit (.int .i64 K.length))) (litN m) = hasN (K ++ [n]) m ∧
      (hasN (K ++ [n]) m = true → (D.put (litN n) (.lit (.int .i64 K.length))).atKey (litN m) (.lit (.int .i64 0)) = .lit (.int .i64 (laN (K ++ [n]) m))) := by
  have hk : WideAt.IsKeyLit (litN n) := node_keyed.key (key_n n hn.1 hn.2)
  refine ⟨?_, fun m hm => ?_⟩
  · rw [size_put hi, (hD n hn).1, hs, dcN_snoc]
  · by_cases e : m = n
    · subst e
      have h1 : hasN (K ++ [m]) m = true := hasN_iff.2 (by simp)
      rw [has_put_same hi.isMap hk, h1, atKey_put_same hi.isMap hk, laN_same]
      exact ⟨rfl, fun _ => rfl⟩
    · have hne : litN m ≠ litN n := fun h => e (litN_inj hm hn h)
      have h1 : hasN (K ++ [n]) m = hasN K m := by
        rw [Bool.eq_iff_iff, hasN_iff, hasN_iff]; simp [e]
      rw [has_put_other hne, h1, atKey_put_other hne, laN_other K (fun h => e h.symm)]
      exact hD m hm

theorem make_imap (n : Int) (w : World) : (Instr.makeMap 46 (some (.int .i64 n))).run Try.prog w = .ok (.map (some w.heap.size)) (w.alloc (.map #[] 0)) := by
  simp [Instr.makeMap, run_underlying Try.underlying46, asInt, asIntOf, Result.andThen]

theorem all_drop {ns : List Nd} {k : Nat} (h : k < ns.length) : (ns.drop k).all okN = (okN (ns.getD k ([], [])) && (ns.drop (k + 1)).all okN) := by
  rw [List.drop_eq_getElem_cons h, List.all_cons, nd_getD h]

end Go.Proofs.Ytdefphacdcbljaa

namespace Go.Proofs.Ytdefphacdcbljaa
open Go.RowKit Go.Maps Go.ChangeShapes Go.WideShapes
set_option linter.unusedVariables false
set_option maxRecDepth 100000

/-! ### Places -/
theorem lookok_imap {w : World} {b n : Nat} {L : List Nd} {p v : List UInt8} (h : IMap w b n L) (hf : fitsN (p, v)) {O : Bool} (ho : hasN L (p, v) = O) :
    ∃ I : Int, Sem.run Try.prog (Instr.lookup 46 (.map (some b)) (.agg #[.string (mkB p), .string (mkB v)]) true) w = .ok (.tuple #[.int .i64 I, .bool O]) w := by
  obtain ⟨_, D, hown, _, hD⟩ := h
  obtain ⟨h1, h2⟩ := hD _ hf
  obtain ⟨u, ps, hr, hv⟩ := hown.look_ok node_keyed Try.underlying46 (Try.zeroValue3 w) (plainElem_int Try.underlying3 (by decide)) (key_n (p, v) hf.1 hf.2)
  obtain ⟨c, rfl, hc, _⟩ := plainElem_int_inv Try.underlying3 hv
  rw [h1, ho] at hr
  exact ⟨c, hr⟩
theorem lookat_imap {w : World} {b n : Nat} {L : List Nd} {p v : List UInt8} (h : IMap w b n L) (hf : fitsN (p, v)) (hm : hasN L (p, v) = true) {k : Nat} (hk : laN L (p, v) = k) :
    Sem.run Try.prog (Instr.lookup 46 (.map (some b)) (.agg #[.string (mkB p), .string (mkB v)]) false) w = .ok (.int .i64 (k : Int)) w := by
  obtain ⟨_, D, hown, _, hD⟩ := h
  obtain ⟨h1, h2⟩ := hD _ hf
  obtain ⟨c, hr, hat, _⟩ := hown.lookup_int node_keyed Try.underlying46 Try.underlying3 (Try.zeroValue3 w) (key_n (p, v) hf.1 hf.2)
  rw [h2 hm, hk] at hat
  have : (k : Int) = c := by simpa using hat
  subst this
  exact hr

/-! ### What is asked of a need -/
theorem eq_ndz (p v : List UInt8) (w : World) : Sem.run Try.prog (binOp .eql 24 (.agg #[.string (mkB p), .string (mkB v)]) (.agg #[.string { data := #[] }, .string { data := #[] }])) w = .ok (.bool (decide ((p, v) = (([], []) : Nd)))) w := eq_nd p v [] [] w
theorem neq_ndz (p v : List UInt8) (w : World) : Sem.run Try.prog (binOp .neq 24 (.agg #[.string (mkB p), .string (mkB v)]) (.agg #[.string { data := #[] }, .string { data := #[] }])) w = .ok (.bool (!decide ((p, v) = (([], []) : Nd)))) w := neq_nd p v [] [] w
set_option maxHeartbeats 400000 in
theorem lroot_any (p v q u : List UInt8) (w : World) :
    Calls Try.prog 29 #[.agg #[.string (mkB p), .string (mkB v), .string (mkB q), .string (mkB u)]] w fun e w' => e = .returned (.bool (rootK ((p, v), (q, u)))) ∧ Below w.heap.size w w' := by
  obtain ⟨W, g, hW, hg, c0, c1, c2, c3, hb⟩ := boxNe w (.string (mkB p)) (.string (mkB v)) (.string (mkB q)) (.string (mkB u)) 39
  have B := Lib.hid hb; have HW := Lib.hid hW; have HG := Lib.hid hg; clear hb hW hg
  have hgd := guard_nd; have heq := eq_ndz p v
  obtain ⟨R, hR⟩ : ∃ R, rootK ((p, v), (q, u)) = R := ⟨_, rfl⟩
  rw [hR]
  rw [show decide ((p, v) = (([], []) : Nd)) = R from hR] at heq
  clear hR
  go_enter Try.func29, Try.ntmps29
  go_upto_region 1 with fail
  rw [HW.out, HG.out]
  go_wp2
  go_ret
  exact ⟨rfl, B.out⟩
/-! ### A function value, asked of needs -/
def AsksK (F : Nat) (lb : Array Value) (p : Ne → Bool) (B : Nat) (w : World) (l : List Ne) : Prop :=
  ∀ w', Below B w w' → ∀ d ∈ l, Calls Try.prog F (#[neV d] ++ lb) w' fun e w'' => e = .returned (.bool (p d)) ∧ Below w'.heap.size w' w''
theorem AsksK.below {F : Nat} {lb : Array Value} {p : Ne → Bool} {B : Nat} {w w1 : World} {l : List Ne} (h : AsksK F lb p B w l) (hb : Below B w w1) : AsksK F lb p B w1 l := fun w' hw d hd => h w' (hb.trans hw) d hd
theorem AsksK.mono {F : Nat} {lb : Array Value} {p : Ne → Bool} {B B' : Nat} {w : World} {l : List Ne} (h : AsksK F lb p B w l) (hb : B ≤ B') : AsksK F lb p B' w l := fun w' hw d hd => h w' (hw.mono hb) d hd
theorem AsksK.sub {F : Nat} {lb : Array Value} {p : Ne → Bool} {B : Nat} {w : World} {l m : List Ne} (h : AsksK F lb p B w l) (hm : ∀ d ∈ m, d ∈ l) : AsksK F lb p B w m := fun w' hw d hd => h w' hw d (hm d hd)
theorem asks_root (B : Nat) (w : World) (l : List Ne) : AsksK 29 #[] rootK B w l := fun w' _ d _ => lroot_any d.1.1 d.1.2 d.2.1 d.2.2 w'

/-! ### The first need that is asked for -/
def fixK (p : Ne → Bool) : List Ne → Nat → Int
  | [], _ => -1
  | d :: l, n => if p d = true then (n : Int) else fixK p l (n + 1)
theorem fixK_drop {p : Ne → Bool} {l : List Ne} {k : Nat} (h : k < l.length) : fixK p (l.drop k) k = if p (l.getD k zNe) = true then (k : Int) else fixK p (l.drop (k + 1)) (k + 1) := by
  rw [List.drop_eq_getElem_cons h, fixK, ne_getD h]
theorem fixK_spec (p : Ne → Bool) : ∀ (l : List Ne) (n : Nat), (fixK p l n = -1 ∧ ∀ d ∈ l, p d = false) ∨ ∃ k, k < l.length ∧ fixK p l n = ((n + k : Nat) : Int) ∧ p (l.getD k zNe) = true ∧ ∀ d ∈ l.take k, p d = false
  | [], _ => .inl ⟨rfl, fun d hd => by cases hd⟩
  | x :: l, n => by
    cases h : p x
    · rw [fixK, if_neg (by rw [h]; exact Bool.false_ne_true)]
      rcases fixK_spec p l (n + 1) with ⟨e, ha⟩ | ⟨k, hk, e, ht, ha⟩
      · exact .inl ⟨e, fun d hd => by rcases List.mem_cons.1 hd with rfl | hd; exact h; exact ha d hd⟩
      · refine .inr ⟨k + 1, by simpa using hk, by rw [e]; congr 1; omega, by simpa using ht, fun d hd => ?_⟩
        rw [List.take_succ_cons] at hd
        rcases List.mem_cons.1 hd with rfl | hd
        · exact h
        · exact ha d hd
    · exact .inr ⟨0, by simp, by rw [fixK, if_pos h]; rfl, h, fun d hd => by cases hd⟩
theorem fixK_any (p : Ne → Bool) (l : List Ne) : decide (0 ≤ fixK p l 0) = l.any p := by
  rcases fixK_spec p l 0 with ⟨e, ha⟩ | ⟨k, hk, e, ht, ha⟩
  · rw [e, show l.any p = false from List.any_eq_false.2 fun d hd => by rw [ha d hd]; exact Bool.false_ne_true]; rfl
  · rw [e, show l.any p = true from List.any_eq_true.2 ⟨_, ne_mem hk, ht⟩]
    exact decide_eq_true (by omega)

set_option maxHeartbeats 800000 in
theorem lindex_any (F : Nat) (lb : Array Value) (eg : ∀ args w, (callFunc F args).run Try.prog w = .ok (.enter F args) w) (p : Ne → Bool) (V : Value) (l : List Ne) (w : World) (B : Nat) (hB : B ≤ w.heap.size) (h : Nes w V l) (hp : AsksK F lb p B w l) :
    Calls Try.prog 48 #[V, .func (.func F) #[] lb] w fun e w' => e = .returned (.int .i64 (fixK p l 0)) ∧ Below w.heap.size w w' := by
  obtain ⟨a, c, rfl, h1, h2, -, -⟩ := h.ex
  unfold maxLen at h2
  obtain ⟨n, hn⟩ : ∃ n, l.length = n := ⟨_, rfl⟩
  obtain ⟨R, hR⟩ : ∃ R, fixK p l 0 = R := ⟨_, rfl⟩
  rw [hR]
  rw [hn] at h1 h ⊢
  have ST := Lib.hid h; have HN := Lib.hid hn; have HR := Lib.hid hR; have HP := Lib.hid hp; have HBB := Lib.hid hB
  clear h hn hR hp hB
  go_enter Try.func48, Try.ntmps48
  go_wp2
  go_loopw [8] (fun i wr => ∃ k : Nat, k ≤ n ∧ i = .int .i64 k ∧ Hid (fixK p (l.drop k) k = R) ∧ Hid (Below w.heap.size w wr)) (fun i _ => n - (intOf i).toNat)
  case atStart => exact ⟨0, Nat.zero_le _, rfl, Lib.hid (by simpa using HR.out), Lib.hid (Below.refl _ _)⟩
  case round =>
    obtain ⟨k, hk, rfl, H, HB⟩ := hrel
    by_cases hlt : k < n
    · have hkl : k < l.length := by rw [HN.out]; exact hlt
      obtain ⟨b, off, rfl, -, hc0, hc1, hc2, hc3⟩ := (ST.out.below HB.out).at k hkl
      have hd := fixK_drop (p := p) hkl
      have hcall := HP.out wr (HB.out.mono HBB.out) _ (ne_mem hkl)
      obtain ⟨y, hy⟩ : ∃ y, y = l.getD k zNe := ⟨_, rfl⟩
      rw [← hy] at hc0 hc1 hc2 hc3 hd hcall
      obtain ⟨⟨y1, y2⟩, y3, y4⟩ := y
      simp only [neV] at hc0 hc1 hc2 hc3 hcall
      obtain ⟨I, hI⟩ : ∃ I, p ((y1, y2), y3, y4) = I := ⟨_, rfl⟩
      rw [hI] at hd hcall
      have HD := Lib.hid hd
      clear hy hI hd
      have hkb : (k : Int) < (n : Int) := by omega
      cases I
      · go_wp2_with (go_at_fn F; refine hcall.mono ?_; rintro e w1 ⟨rfl, hb1⟩; have B1 := Lib.hid (below_step HB.out hb1); clear hb1 hcall)
        have H5 : Hid (fixK p (l.drop (k + 1)) (k + 1) = R) := Lib.hid (by rw [← H.out, HD.out]; rfl)
        go_roundw
        case rel => exact ⟨k + 1, by omega, by go_num, H5, B1⟩
        case measure => simp [intOf]; omega
      · go_wp2_with (go_at_fn F; refine hcall.mono ?_; rintro e w1 ⟨rfl, hb1⟩; have B1 := Lib.hid (below_step HB.out hb1); clear hb1 hcall)
        go_ret
        refine ⟨?_, B1.out⟩
        rw [← H.out, HD.out]; rfl
    · go_wp2
      go_ret
      refine ⟨?_, HB.out⟩
      rw [← H.out, List.drop_eq_nil_of_le (by rw [HN.out]; omega)]; rfl
end Go.Proofs.Ytdefphacdcbljaa
