/- THE TEXTS OF LakF LakG LakH LakN: May needs be; who needs a node; what is not wanted of needs: of the program. Needs beside what they are needs of: a row of rows of the call's own, one of which grows. What is missing, and who needs it: of the program. The chapter's examples. -/
import Derived.Test.YtjnkjjlpkgbkiaaLakE
import Derived.Test.YtjnkjjlpkgbkiaaLakC
import Derived.Laws.MakeOwn
import Derived.Test.YtjnkjjlpkgbkiaaLakI
namespace Go.Proofs.Ytjnkjjlpkgbkiaa
open Go.RowKit Go.Maps Go.ChangeShapes Go.WideShapes
set_option linter.unusedVariables false
set_option maxRecDepth 100000

set_option maxHeartbeats 1600000 in
theorem lCheck_any (V : Value) (l : List Ne) (w : World) (h : Nes w V l) (hs : ∀ d ∈ l, smallNe d) :
    Calls Try.prog 14 #[V] w fun e w' => e = .returned (.int .i64 (chkK l)) ∧ Below w.heap.size w w' := by
  obtain ⟨a, c, rfl, h1, h2, -, -⟩ := h.ex
  unfold maxLen at h2
  obtain ⟨n, hn⟩ : ∃ n, l.length = n := ⟨_, rfl⟩
  rw [hn] at h1 h
  rw [hn]
  obtain ⟨R, hR⟩ : ∃ R, chkK l = R := ⟨_, rfl⟩
  rw [hR]
  have ST := Lib.hid h; have HN := Lib.hid hn; have HS := Lib.hid hs; have HR := Lib.hid hR
  clear h hn hs hR
  go_enter Try.func14, Try.ntmps14
  go_wp2
  go_loopw [7] (fun i wr => ∃ k : Nat, k ≤ n ∧ i = .int .i64 k ∧ Hid (mayK (l.take k) = true) ∧ Hid (Below w.heap.size w wr)) (fun i _ => n - (intOf i).toNat)
  case atStart => exact ⟨0, Nat.zero_le _, rfl, Lib.hid rfl, Lib.hid (Below.refl _ _)⟩
  case round =>
    obtain ⟨k, hk, rfl, HA, HB⟩ := hrel
    by_cases hlt : k < n
    · have hkl : k < l.length := by rw [HN.out]; exact hlt
      obtain ⟨b, off, rfl, -, hc0, hc1, hc2, hc3⟩ := (ST.out.below HB.out).at k hkl
      have hsy := HS.out _ (ne_mem hkl)
      have hno := fun o => chkK_no (mayK_no hkl o)
      have hye := fun o => mayK_take hkl o HA.out
      obtain ⟨y, hy⟩ : ∃ y, y = l.getD k zNe := ⟨_, rfl⟩
      rw [← hy] at hc0 hc1 hc2 hc3 hsy hno hye
      obtain ⟨⟨y1, y2⟩, y3, y4⟩ := y
      simp only at hc0 hc1 hc2 hc3
      obtain ⟨T, hT⟩ : ∃ T, okN (y3, y4) = T := ⟨_, rfl⟩
      obtain ⟨F, hF⟩ : ∃ F, okN (y1, y2) = F := ⟨_, rfl⟩
      obtain ⟨O, hO⟩ : ∃ O, rootK ((y1, y2), y3, y4) = O := ⟨_, rfl⟩
      have h1m : mayK1 ((y1, y2), y3, y4) = (T && (O || F)) := by unfold mayK1; rw [hT, hO, hF]
      rw [h1m] at hno hye
      have HSY := Lib.hid hsy; have HNO := Lib.hid hno; have HYE := Lib.hid hye; have HT := Lib.hid hT; have HF := Lib.hid hF; have HO := Lib.hid hO
      clear hy hsy hno hye hT hF hO h1m
      have hkb : (k : Int) < (n : Int) := by omega
      go_upto_region 4 with fail
      obtain ⟨X, q, hX, hq, d0, d1, d2, d3, hxb⟩ := boxNe wr (.string (mkB y1)) (.string (mkB y2)) (.string (mkB y3)) (.string (mkB y4)) 33
      rw [hX, hq]
      have B := Lib.hid (below_step HB.out hxb)
      clear hX hq hxb hc0 hc1 hc2 hc3
      cases T
      · have hz := HNO.out rfl
        rw [HR.out] at hz
        subst hz
        go_wp2_with (go_at_call 22; refine (nmay_any _ _ _ HSY.out.2.1 HSY.out.2.2).mono ?_; rintro e w1 ⟨rfl, hb1⟩; rw [HT.out]; replace B := Lib.hid (below_step B.out hb1); clear hb1)
        go_ret
        exact ⟨rfl, B.out⟩
      · cases O
        · cases F
          · have hz := HNO.out rfl
            rw [HR.out] at hz
            subst hz
            go_wp2_with (first
              | (go_at_call 22; refine Calls.mono (nmay_any _ _ _ ?_ ?_) ?_; (first | exact HSY.out.2.1 | exact HSY.out.1.1); (first | exact HSY.out.2.2 | exact HSY.out.1.2); rintro e w1 ⟨rfl, hb1⟩; (first | rw [HT.out] | rw [HF.out]); replace B := Lib.hid (below_step B.out hb1); replace d0 := cell_keep d0 hb1; replace d1 := cell_keep d1 hb1; replace d2 := cell_keep d2 hb1; replace d3 := cell_keep d3 hb1; clear hb1)
              | (go_at_call 18; refine (lroot_any _ _ _ _ _).mono ?_; rintro e w1 ⟨rfl, hb1⟩; rw [HO.out]; replace B := Lib.hid (below_step B.out hb1); replace d0 := cell_keep d0 hb1; replace d1 := cell_keep d1 hb1; replace d2 := cell_keep d2 hb1; replace d3 := cell_keep d3 hb1; clear hb1))
            go_ret
            exact ⟨rfl, B.out⟩
          · have hz := Lib.hid (HYE.out rfl)
            go_wp2_with (first
              | (go_at_call 22; refine Calls.mono (nmay_any _ _ _ ?_ ?_) ?_; (first | exact HSY.out.2.1 | exact HSY.out.1.1); (first | exact HSY.out.2.2 | exact HSY.out.1.2); rintro e w1 ⟨rfl, hb1⟩; (first | rw [HT.out] | rw [HF.out]); replace B := Lib.hid (below_step B.out hb1); replace d0 := cell_keep d0 hb1; replace d1 := cell_keep d1 hb1; replace d2 := cell_keep d2 hb1; replace d3 := cell_keep d3 hb1; clear hb1)
              | (go_at_call 18; refine (lroot_any _ _ _ _ _).mono ?_; rintro e w1 ⟨rfl, hb1⟩; rw [HO.out]; replace B := Lib.hid (below_step B.out hb1); replace d0 := cell_keep d0 hb1; replace d1 := cell_keep d1 hb1; replace d2 := cell_keep d2 hb1; replace d3 := cell_keep d3 hb1; clear hb1))
            go_roundw
            case rel => exact ⟨k + 1, by omega, by go_num, hz, B⟩
            case measure => simp [intOf]; omega
        · have hz := Lib.hid (HYE.out rfl)
          go_wp2_with (first
            | (go_at_call 22; refine (nmay_any _ _ _ HSY.out.2.1 HSY.out.2.2).mono ?_; rintro e w1 ⟨rfl, hb1⟩; rw [HT.out]; replace B := Lib.hid (below_step B.out hb1); replace d0 := cell_keep d0 hb1; replace d1 := cell_keep d1 hb1; replace d2 := cell_keep d2 hb1; replace d3 := cell_keep d3 hb1; clear hb1)
            | (go_at_call 18; refine (lroot_any _ _ _ _ _).mono ?_; rintro e w1 ⟨rfl, hb1⟩; rw [HO.out]; replace B := Lib.hid (below_step B.out hb1); clear hb1))
          go_roundw
          case rel => exact ⟨k + 1, by omega, by go_num, hz, B⟩
          case measure => simp [intOf]; omega
    · go_wp2
      go_ret
      have e : k = n := by omega
      subst e
      have hA := HA.out
      rw [List.take_of_length_le (by rw [HN.out]; exact Nat.le_refl _)] at hA
      exact ⟨by rw [← HR.out, chkK_yes hA]; rfl, HB.out⟩

/-! ### Who needs a node -/
/-! ### What is not wanted of all needs -/
set_option maxHeartbeats 1600000 in
theorem lof_any (p v q u : List UInt8) (g1 g2 b1 b2 n1 n2 : Nat) (M L : List Nd) (w : World) (h1 : w.cell? ⟨g1, 0, none⟩ = some (.map (some b1))) (h2 : w.cell? ⟨g2, 0, none⟩ = some (.map (some b2))) (m1 : IMap w b1 n1 M) (m2 : IMap w b2 n2 L) (hf : fitNe ((p, v), (q, u))) :
    Calls Try.prog 17 #[.agg #[.string (mkB p), .string (mkB v), .string (mkB q), .string (mkB u)], .pointer (some ⟨g1, 0, none⟩), .pointer (some ⟨g2, 0, none⟩)] w fun e w' => e = .returned (.bool (delK L M ((p, v), (q, u)))) ∧ Below w.heap.size w w' := by
  obtain ⟨W, g, hW, hg, c0, c1, c2, c3, hb⟩ := boxNe w (.string (mkB p)) (.string (mkB v)) (.string (mkB q)) (.string (mkB u)) 33
  replace h1 := cell_keep h1 hb
  replace h2 := cell_keep h2 hb
  obtain ⟨O1, ho1⟩ : ∃ O, hasN M (q, u) = O := ⟨_, rfl⟩
  obtain ⟨O2, ho2⟩ : ∃ O, hasN L (p, v) = O := ⟨_, rfl⟩
  obtain ⟨O3, ho3⟩ : ∃ O, rootK ((p, v), (q, u)) = O := ⟨_, rfl⟩
  obtain ⟨I1, k1⟩ := lookok_imap (m1.below hb) hf.2 ho1
  obtain ⟨I2, k2⟩ := lookok_imap (m2.below hb) hf.1 ho2
  have hd : delK L M ((p, v), (q, u)) = (!O1 || (!O2 && !O3)) := by unfold delK; rw [ho1, ho2, ho3]
  rw [hd]
  have B := Lib.hid hb; have HW := Lib.hid hW; have HG := Lib.hid hg; have H3 := Lib.hid ho3
  clear hb hW hg ho1 ho2 ho3 m1 m2 hd hf
  cases O1
  · go_enter Try.func17, Try.ntmps17
    go_upto_region 1 with fail
    rw [HW.out, HG.out]
    go_wp2
    go_ret
    exact ⟨rfl, B.out⟩
  · cases O2
    · cases O3
      all_goals
        go_enter Try.func17, Try.ntmps17
        go_upto_region 1 with fail
        rw [HW.out, HG.out]
        go_wp2_with (go_at_call 18; refine (lroot_any _ _ _ _ _).mono ?_; rintro e w1 ⟨rfl, hb1⟩; rw [H3.out]; replace B := Lib.hid (below_step B.out hb1); clear hb1)
        go_ret
        exact ⟨rfl, B.out⟩
    · go_enter Try.func17, Try.ntmps17
      go_upto_region 1 with fail
      rw [HW.out, HG.out]
      go_wp2
      go_ret
      exact ⟨by cases O3 <;> rfl, B.out⟩
theorem asks_of (g1 g2 b1 b2 n1 n2 : Nat) (M L : List Nd) (w : World) (h1 : w.cell? ⟨g1, 0, none⟩ = some (.map (some b1))) (h2 : w.cell? ⟨g2, 0, none⟩ = some (.map (some b2))) (m1 : IMap w b1 n1 M) (m2 : IMap w b2 n2 L) (l : List Ne) (hf : ∀ d ∈ l, fitNe d) : AsksK 17 #[.pointer (some ⟨g1, 0, none⟩), .pointer (some ⟨g2, 0, none⟩)] (delK L M) w.heap.size w l :=
  fun w' hb d hd => lof_any d.1.1 d.1.2 d.2.1 d.2.2 g1 g2 b1 b2 n1 n2 M L w' (cell_keep h1 hb) (cell_keep h2 hb) (m1.below hb) (m2.below hb) (hf d hd)
end Go.Proofs.Ytjnkjjlpkgbkiaa

namespace Go.Proofs.Ytjnkjjlpkgbkiaa
open Go.RowKit
set_option linter.unusedVariables false
set_option maxRecDepth 100000

/-! ### Plain -/
def besL (l : List Ne) (miss : List Nd) : List (List Ne) := miss.map fun n => l.filter (toK n)
theorem besL_len (l : List Ne) (miss : List Nd) : (besL l miss).length = miss.length := by unfold besL; rw [List.length_map]
theorem besL_at {l : List Ne} {miss : List Nd} {k : Nat} (h : k < miss.length) : (besL l miss).getD k [] = l.filter (toK (miss.getD k ([], []))) := by
  rw [List.getD_eq_getElem?_getD, List.getElem?_eq_getElem (by rw [besL_len]; exact h), nd_getD h]
  unfold besL
  simp
theorem besL_nil (miss : List Nd) : besL [] miss = List.replicate miss.length [] := by
  unfold besL
  rw [List.map_eq_replicate_iff.2]
  intro n _; rfl
theorem besL_step {l : List Ne} {miss : List Nd} {d : Ne} (hn : miss.Nodup) {k : Nat} (hk : k < miss.length) (hd : miss.getD k ([], []) = d.2) : besL (l ++ [d]) miss = (besL l miss).set k ((besL l miss).getD k [] ++ [d]) := by
  apply List.ext_getElem
  · rw [List.length_set, besL_len, besL_len]
  · intro j h1 h2
    rw [besL_len] at h1
    have e1 : (besL (l ++ [d]) miss)[j]'(by rw [besL_len]; exact h1) = (l ++ [d]).filter (toK miss[j]) := by unfold besL; simp
    have e2 : (besL l miss)[j]'(by rw [besL_len]; exact h1) = l.filter (toK miss[j]) := by unfold besL; simp
    rw [e1, List.getElem_set, List.filter_append]
    rw [nd_getD hk] at hd
    by_cases e : k = j
    · subst e
      have ht : toK miss[k] d = true := toK_iff.2 hd.symm
      rw [if_pos rfl, besL_at hk, nd_getD hk, List.filter_cons, ht]
      simp
    · have ht : toK miss[j] d = false := by
        cases h : toK miss[j] d
        · rfl
        · exact absurd ((List.getElem_inj hn).1 (hd.trans (toK_iff.1 h))) e
      rw [if_neg e, e2, List.filter_cons, ht]
      simp

/-! ### In memory -/
structure BesK (w : World) (lo g : Nat) (vs : List Value) (ls : List (List Ne)) : Prop where
  row : w.heap[g]? = some (.cells vs.toArray 23 (0, 0))
  len : vs.length = ls.length
  own : ∀ j, j < ls.length → w.ownsRow lo 33 4 (vs.getD j undef) (ls.getD j []).length (neC (ls.getD j []))
  apart : ∀ i j, i < ls.length → j < ls.length → i ≠ j → ∀ b, (vs.getD i undef).ownBlock = some b → (vs.getD j undef).ownBlock ≠ some b
theorem BesK.below {w w' : World} {lo g : Nat} {vs : List Value} {ls : List (List Ne)} (h : BesK w lo g vs ls) (hb : Below w.heap.size w w') : BesK w' lo g vs ls :=
  ⟨row_keepB h.row hb, h.len, fun j hj => ownsRow_belowB (h.own j hj) hb, h.apart⟩
theorem BesK.cell {w : World} {lo g : Nat} {vs : List Value} {ls : List (List Ne)} (h : BesK w lo g vs ls) {k : Nat} (hk : k < ls.length) : w.cell? ⟨g, k, none⟩ = some (vs.getD k undef) := by
  have hv : k < vs.length := by rw [h.len]; exact hk
  simp [World.cell?, h.row, List.getD_eq_getElem?_getD, hv]
theorem replicate_getD {α : Type} {n j : Nat} {x z : α} (h : j < n) : (List.replicate n x).getD j z = x := by
  rw [List.getD_eq_getElem?_getD, List.getElem?_replicate, if_pos h]; rfl
theorem BesK.start {w : World} {lo g n : Nat} {ls : List (List Ne)} (h : w.heap[g]? = some (.cells (List.replicate n (.slice none 0 0)).toArray 23 (0, 0))) (hl : ls = List.replicate n []) : BesK w lo g (List.replicate n (.slice none 0 0)) ls := by
  subst hl
  refine ⟨h, by rw [List.length_replicate, List.length_replicate], fun j hj => ?_, fun i j hi hj _ b e => ?_⟩
  · rw [List.length_replicate] at hj
    rw [replicate_getD hj, replicate_getD hj]
    exact World.ownsRow_nil _ _ _ _
  · rw [List.length_replicate] at hi
    rw [replicate_getD hi] at e
    cases e
theorem own_formN {w : World} {base : Nat} {e : TypeId} {size : Nat} {v : Value} {n : Nat} {xs : List Value} (h : w.ownsRow base e size v n xs) : ∃ a c, v = .slice a n c := by
  rcases h.2 with ⟨rfl, h0⟩ | ⟨g, cap, cur, rfl, _⟩
  · exact ⟨none, 0, by rw [h0]⟩
  · exact ⟨_, _, rfl⟩
theorem set_getD {α : Type} {l : List α} {k j : Nat} {x z : α} (hj : j < l.length) : (l.set k x).getD j z = if j = k then x else l.getD j z := by
  rw [List.getD_eq_getElem?_getD, List.getElem?_set, List.getD_eq_getElem?_getD]
  by_cases e : k = j
  · subst e; rw [if_pos rfl, if_pos rfl, if_pos hj]; rfl
  · rw [if_neg e, if_neg (fun h => e h.symm)]
/-- One of them has grown. -/
theorem BesK.grow {w w' : World} {lo g k : Nat} {vs : List Value} {ls : List (List Ne)} (h : BesK w lo g vs ls) {v : Value} {L : List Ne} (hr : w'.heap[g]? = some (.cells (vs.set k v).toArray 23 (0, 0)))
    (hv : w'.ownsRow lo 33 4 v L.length (neC L)) (ho : ∀ j, j < ls.length → j ≠ k → w'.ownsRow lo 33 4 (vs.getD j undef) (ls.getD j []).length (neC (ls.getD j []))) (ha : ∀ j, j < ls.length → j ≠ k → ∀ b, (vs.getD j undef).ownBlock = some b → v.ownBlock ≠ some b) : BesK w' lo g (vs.set k v) (ls.set k L) := by
  refine ⟨hr, by rw [List.length_set, List.length_set, h.len], fun j hj => ?_, fun i j hi hj hne b e q => ?_⟩
  · rw [List.length_set] at hj
    rw [set_getD (by rw [h.len]; exact hj), set_getD hj]
    by_cases e : j = k
    · rw [if_pos e, if_pos e]; exact hv
    · rw [if_neg e, if_neg e]; exact ho j hj e
  · rw [List.length_set] at hi hj
    rw [set_getD (by rw [h.len]; exact hi)] at e
    rw [set_getD (by rw [h.len]; exact hj)] at q
    by_cases ei : i = k
    · rw [if_pos ei] at e
      rw [if_neg (fun x => hne (ei.trans x.symm))] at q
      exact ha j hj (fun x => hne (ei.trans x.symm)) b q e
    · rw [if_neg ei] at e
      by_cases ej : j = k
      · rw [if_pos ej] at q
        exact ha i hi ei b e q
      · rw [if_neg ej] at q
        exact h.apart i j hi hj hne b e q

/-! ### Operations -/
theorem info_slN : (Try.prog.info? 23).map (fun i => (i.zero, i.size, i.bytes)) = some (some (.slice none 0 0), 1, 24) := by kernel_rfl
theorem make_bes (w : World) (n : Nat) (hn : n ≤ 1000000) : (Instr.makeSlice 51 (.int .i64 (n : Int)) (.int .i64 (n : Int))).run Try.prog w = .ok (.slice (some ⟨w.heap.size, 0, none⟩) n n) (w.alloc (.cells (List.replicate n (.slice none 0 0)).toArray 23)) := by
  obtain ⟨i, hi, hz, hsize, hby⟩ := info_parts info_slN
  have hr := run_make (P := Try.prog) w 51 23 i (.slice none 0 0) Try.underlying51 hi hz .i64 .i64 n n (by omega) (Int.le_refl _) (by rw [hby]; omega) (by omega)
  simp only [Int.toNat_natCast, hsize, Nat.mul_one] at hr
  rw [hr]
  congr 3
  apply Array.ext
  · rw [size_madeCells]; simp
  · intro j h1 h2
    have e : j % 1 = 0 := Nat.mod_one j
    simp [madeCells, Value.cells, e]
theorem idx_bes {w : World} {b n c k : Nat} (h : k < n) : (Instr.indexAt 51 (.slice (some ⟨b, 0, none⟩) n c) (.int .i64 (k : Int))).run Try.prog w = .ok (.pointer (some ⟨b, k, none⟩)) w := by
  have h1 : (0 : Int) ≤ (k : Int) := by omega
  have h3 : (k : Int) < (n : Int) := by omega
  go_simp
theorem ld_bes {w : World} {g i n c : Nat} {A : Option Addr} (h : w.cell? ⟨g, i, none⟩ = some (.slice A n c)) : Sem.run Try.prog (Instr.loadAt 23 (.pointer (some ⟨g, i, none⟩))) w = .ok (.slice A n c) w := by
  go_simp
theorem st_bes {w : World} {g i n c : Nat} {A : Option Addr} {u : Value} (h : w.cell? ⟨g, i, none⟩ = some u) (hf : w.frozen? ⟨g, i, none⟩ = false) : Sem.run Try.prog (Instr.storeAt 23 (.pointer (some ⟨g, i, none⟩)) (.slice A n c)) w = .ok () (w.setCell ⟨g, i, none⟩ (.slice A n c)) := by
  go_simp
/-- The row of rows, a row put into it. -/
def besF (g : Nat) (vs : List Value) (k : Nat) : World → Value → Option Nat → Prop := fun w v ob => ob = some g ∧ w.heap[g]? = some (.cells (vs.set k v).toArray 23 (0, 0))
theorem besF_near {g : Nat} {vs : List Value} {k : Nat} : ∀ (w w' : World) (v : Value) (ob : Option Nat), (∀ b, ob = some b → w'.heap[b]? = w.heap[b]?) → besF g vs k w v ob → besF g vs k w' v ob := by
  rintro w w' v ob hb ⟨rfl, h⟩
  exact ⟨rfl, (hb g rfl).trans h⟩
/-- The other rows. -/
def besI (lo k : Nat) (vs : List Value) (ls : List (List Ne)) : World → Value → (Nat → Prop) → Prop := fun w _ bs => ∀ j, j < ls.length → j ≠ k → w.ownsRow lo 33 4 (vs.getD j undef) (ls.getD j []).length (neC (ls.getD j [])) ∧ ∀ b, (vs.getD j undef).ownBlock = some b → bs b
theorem besI_near {lo k : Nat} {vs : List Value} {ls : List (List Ne)} : ∀ (w w' : World) (v : Value) (bs : Nat → Prop), (∀ b, bs b → w'.heap[b]? = w.heap[b]?) → besI lo k vs ls w v bs → besI lo k vs ls w' v bs := by
  rintro w w' v bs hb h j hj hk
  obtain ⟨h1, h2⟩ := h j hj hk
  exact ⟨row_heap h1 fun b e => hb b (h2 b e), h2⟩
section
variable {ops : Array Oper} {Q : Exit → Act → World → Prop} {a : Act} {w w0 : World} {who : Nat → Nat} {i B r ro : Nat} {o : Oper}
theorem rol_setB (ho : ops[i]? = some o) (hw : Region.wanted o (yielded ops a.tmps) = true) (hd : o.dst = none) {x : Operand} {t g k : Nat} (hop : o.op = .store 23 x (.tmp t)) (hx : a.eval x = .pointer (some ⟨g, k, none⟩)) {N n : Nat} {xs : List Value} {r2 : Nat} (h : (RLeaf.mem t (rowG N 33 4 n xs)).holds r2 a w who)
    {vs : List Value} (hg : (RLeaf.box g (.cells vs.toArray 23)).holds r a w who) (hk : k < vs.length) (hb : Below B w0 w) (hB : B ≤ g) : wpOp Try.prog ops Q i (RPost ops i r r (.mem t (besF g vs k)) B w0 a w who) a w := by
  obtain ⟨v, ob, hv, -, hrow, rfl⟩ := h
  obtain ⟨h1, h2⟩ := hg
  obtain ⟨av, cv, rfl⟩ := own_formN hrow
  have hc : w.cell? ⟨g, k, none⟩ = some vs[k] := by simp [World.cell?, h1, hk]
  have hf : w.frozen? ⟨g, k, none⟩ = false := by unfold World.frozen?; simp only [h1]; simp
  refine rol_wp ho hw ?_
  unfold Oper.wp
  rw [ex_store hop hx (eval_slot hv) (st_bes hc hf), Oper.upon_skip, hd]
  have hlt : g < w.heap.size := (Array.getElem?_eq_some_iff.1 h1).1
  refine ⟨⟨undef, by rw [dst_of ho, hd]⟩, hb.setCell hB _, who, ⟨fun j _ hj => ?_, fun _ _ => rfl, by simp [World.setCell]⟩, _, some g, hv, fun b e => ?_, rfl, ?_⟩
  · exact Below.heap_setCell _ ⟨g, k, none⟩ _ j (fun e => hj (by rw [e]; exact h2))
  · cases e
    exact ⟨by simp [World.setCell]; exact hlt, h2⟩
  · simp [World.setCell, Array.getElem?_modify, h1]
end
end Go.Proofs.Ytjnkjjlpkgbkiaa

namespace Go.Proofs.Ytjnkjjlpkgbkiaa
open Go.RowKit Go.Maps
set_option linter.unusedVariables false
set_option maxRecDepth 100000

theorem boxMM (w : World) (x : Value) (t : TypeId) (y : Value) (u : TypeId) : ∃ W g g', (w.alloc (.cells #[x] t)).alloc (.cells #[y] u) = W ∧ w.heap.size = g ∧ w.heap.size + 1 = g' ∧ W.cell? ⟨g, 0, none⟩ = some x ∧ W.cell? ⟨g', 0, none⟩ = some y ∧ Below w.heap.size w W :=
  ⟨_, _, _, rfl, rfl, rfl, cell_alloc (cell_new rfl rfl) _, cell_new (by simp) rfl, ((Below.refl _ _).alloc (Nat.le_refl _) _).alloc (by simp) _⟩
theorem LkO.base {w : World} {N N' : Nat} {v : Value} {rs : List Lk} (h : LkO w N v rs) (hn : N' ≤ N) : LkO w N' v rs := by
  obtain ⟨ys, h1, h2⟩ := h
  exact ⟨ys, row_base h1 hn, h2.1, fun j hj => row_base (h2.2 j hj) hn⟩
theorem lMiss_any (U V : Value) (l m : List Nd) (w : World) (hU : Nds w U l) (hV : Nds w V m) (sl : ∀ n ∈ l, smallN n) (sm : ∀ n ∈ m, smallN n) (hl : l.length ≤ 1000000) (hm : m.length ≤ 1000000) :
    Calls Try.prog 13 #[U, V] w fun e w' => ∃ a c, e = .returned (.tuple #[.slice a (minusNE l m).1.length c, .int .i64 (minusNE l m).2]) ∧ Nds w' (.slice a (minusNE l m).1.length c) (minusNE l m).1 ∧ Below w.heap.size w w' := by
  have K := Lib.hid (nminus_any U V l m w hU hV sl sm hl hm)
  obtain ⟨a, c, rfl, -⟩ := hU.ex
  obtain ⟨a', c', rfl, -⟩ := hV.ex
  obtain ⟨n, hn⟩ : ∃ n, l.length = n := ⟨_, rfl⟩
  obtain ⟨n', hn'⟩ : ∃ n, m.length = n := ⟨_, rfl⟩
  obtain ⟨R, hR⟩ : ∃ R, minusNE l m = R := ⟨_, rfl⟩
  rw [hn, hn', hR] at K
  rw [hn, hn', hR]
  obtain ⟨R1, R2⟩ := R
  simp only at K ⊢
  clear hU hV sl sm hl hm hn hn' hR
  go_enter Try.func13, Try.ntmps13
  go_wp2_with (go_at_call 21; refine K.out.mono ?_; rintro e w1 ⟨a1, c1, rfl, hs, hb1⟩; have S1 := Lib.hid hs; have B := Lib.hid hb1; clear hs hb1)
  go_ret2
  exact ⟨a1, c1, rfl, S1.out, B.out⟩

set_option maxHeartbeats 3200000 in
theorem lOf_any (U V D : Value) (live keys : List Nd) (l : List Ne) (w : World) (hU : Nds w U live) (hV : Nds w V keys) (hD : Nes w D l) (sl : ∀ n ∈ live, smallN n) (sk : ∀ n ∈ keys, smallN n) (sd : ∀ d ∈ l, smallNe d) (hl : live.length ≤ 100000) (hk : keys.length ≤ 100000) (hd : l.length ≤ 100000) :
    Calls Try.prog 7 #[U, V, D] w fun e w' => ∃ v, e = .returned (.tuple #[v, .int .i64 (lackKE live keys l).2]) ∧ LkO w' w.heap.size v (lackKE live keys l).1 ∧ Below w.heap.size w w' := by
  have kmiss := lMiss_any U V live keys w hU hV sl sk (by omega) (by omega)
  obtain ⟨a0, c0, rfl, h01, h02, -, -⟩ := hU.ex
  obtain ⟨a1, c1, rfl, h11, h12, -, -⟩ := hV.ex
  obtain ⟨a2, c2, rfl, h21, h22, -, -⟩ := hD.ex
  have kchk := fun w' (h' : Nes w' (.slice a2 l.length c2) l) => lCheck_any _ l w' h' sd
  obtain ⟨n0, hn0⟩ : ∃ n, live.length = n := ⟨_, rfl⟩
  obtain ⟨n1, hn1⟩ : ∃ n, keys.length = n := ⟨_, rfl⟩
  obtain ⟨n2, hn2⟩ : ∃ n, l.length = n := ⟨_, rfl⟩
  rw [hn0, hn1] at kmiss
  rw [hn2] at kchk
  rw [hn0] at hU h01 hl
  rw [hn2] at hD h21 hd
  rw [hn0, hn1, hn2]
  obtain ⟨x, hx⟩ : ∃ x, (checkN live && checkN keys) = x := ⟨_, rfl⟩
  obtain ⟨y, hy⟩ : ∃ y, mayK l = y := ⟨_, rfl⟩
  have SU := Lib.hid hU; have SD := Lib.hid hD; have KM := Lib.hid kmiss; have KC := Lib.hid kchk
  have SLL := Lib.hid sl; have SDD := Lib.hid sd
  clear hU hV hD kmiss kchk h02 h12 h11 hn1 hk sl sk sd
  cases x
  · rw [lackKE_no (by rw [hx]; rfl)]
    rw [minusNE_no hx] at KM
    clear hx hy hn0 hn2 hl hd h01 h21 h22
    go_enter Try.func7, Try.ntmps7
    go_wp2_with (go_at_call 13; refine KM.out.mono ?_; rintro e w1 ⟨a3, c3, rfl, hs, hb1⟩; have B := Lib.hid hb1; clear hs hb1)
    go_ret2
    exact ⟨_, rfl, LkO.nil _ _, B.out⟩
  · have hx2 := (Bool.and_eq_true _ _).mp hx
    rw [minusNE_yes hx2.1 hx2.2] at KM
    obtain ⟨M, hM⟩ : ∃ M, minusN live keys = M := ⟨_, rfl⟩
    obtain ⟨m, hm⟩ : ∃ m, M.length = m := ⟨_, rfl⟩
    rw [hM] at KM
    simp only at KM
    rw [hm] at KM
    cases y
    · rw [lackKE_no (by rw [hx, hy]; rfl)]
      rw [chkK_no hy] at KC
      clear hx hx2 hy hM hm hn0 hn2 hl hd h01 h21 h22
      go_enter Try.func7, Try.ntmps7
      go_wp2_with (first
        | (go_at_call 13; refine KM.out.mono ?_; rintro e w1 ⟨a3, c3, rfl, hs, hb1⟩; have B := Lib.hid hb1; clear hs hb1)
        | (go_at_call 14; refine (KC.out _ (SD.out.below B.out)).mono ?_; rintro e w2 ⟨rfl, hb1⟩; have B2 := Lib.hid (below_step B.out hb1); clear hb1))
      go_ret2
      exact ⟨_, rfl, LkO.nil _ _, B2.out⟩
    · rw [lackKE_yes hx2.1 hx2.2 hy, hM]
      rw [chkK_yes hy] at KC
      simp only
      have hMN : M.Nodup := by rw [← hM]; exact rises_nodup (checkN_rises (minusN_check hx2.1))
      have hMl : ∀ n ∈ M, n ∈ live := fun n hn => by rw [← hM, minusN_mem] at hn; exact hn.1
      have hml : m ≤ n0 := by rw [← hm, ← hM, ← hn0]; exact minusN_len _ _
      have hMs : ∀ n ∈ M, smallN n := fun n hn => SLL.out n (hMl n hn)
      obtain ⟨FL, hFL⟩ : ∃ FL, needK live M l = FL := ⟨_, rfl⟩
      obtain ⟨f0, hf0⟩ : ∃ f, FL.length = f := ⟨_, rfl⟩
      have hf0l : f0 ≤ n2 := by rw [← hf0, ← hFL, ← hn2]; exact List.length_filter_le _ _
      have hFLm : mayK FL = true := by rw [← hFL]; exact mayK_filter hy _
      have hFLs : ∀ d ∈ FL, smallNe d := fun d hd => by rw [← hFL] at hd; exact SDD.out d (List.mem_filter.1 hd).1
      have hFLM : ∀ d ∈ FL, hasN M d.2 = true := fun d hd => by
        rw [← hFL] at hd
        have := (List.mem_filter.1 hd).2
        cases h : hasN M d.2
        · unfold delK at this; rw [h] at this; cases this
        · rfl
      have hbes : ∀ k, k < m → (besL FL M).getD k [] = (liveK live l).filter (toK (M.getD k ([], []))) := fun k hk => by
        rw [besL_at (by rw [hm]; exact hk), ← hFL]
        exact besideK (nd_mem (by rw [hm]; exact hk))
      have eg : ∀ args w, (callFunc 17 args).run Try.prog w = .ok (.enter 17 args) w := enters_of Try.func17 (by kernel_rfl) rfl
      have kw := fun w' g1 g2 b1 b2 n1 n2 h1 h2 m1 m2 (h' : Nes w' (.slice a2 l.length c2) l) => lwithout_any 17 #[.pointer (some ⟨g1, 0, none⟩), .pointer (some ⟨g2, 0, none⟩)] eg (delK live M) _ l w' h' (asks_of g1 g2 b1 b2 n1 n2 M live w' h1 h2 m1 m2 l (fun d hd => small_fitNe (SDD.out d hd))) (by omega)
      rw [hn2, show (l.filter fun d => !delK live M d) = FL from hFL, hf0] at kw
      have kwh := fun k (hk : k < m) V w' (h' : Nes w' V ((besL FL M).getD k [])) => lwhenceo_any V ((besL FL M).getD k []) w' h' (by rw [hbes k hk]; exact mayK_filter (liveK_may hy) _) (fun d hd => by rw [hbes k hk] at hd; exact SDD.out d (liveK_mem.1 (List.mem_filter.1 hd).1).1) (by rw [hbes k hk]; have h1 := List.length_filter_le (toK (M.getD k ([], []))) (liveK live l); have h2 := List.length_filter_le (fun d => hasN live d.1 || rootK d) l; unfold liveK at h1 ⊢; omega)
      have hwb : ∀ k, k < m → whK ((besL FL M).getD k []) = byK (liveK live l) (M.getD k ([], [])) := fun k hk => by rw [hbes k hk]; rfl
      have hfit := fun n hn => fits_small (SLL.out n hn)
      have hfitM := fun n hn => fits_small (hMs n hn)
      have HMN := Lib.hid hMN; have HM := Lib.hid hm; have HF0 := Lib.hid hf0; have HFLs := Lib.hid hFLs; have HFLM := Lib.hid hFLM; have KW := Lib.hid kw; have KWH := Lib.hid kwh; have HWB := Lib.hid hwb; have HFM := Lib.hid hfitM; have HFL := Lib.hid hfit
      have hmk := fun w => make_bes w m (by omega)
      have hm5 : m ≤ 100000 := by omega
      clear hx hx2 hy hM hMN hMl hMs hm hFL hf0 hFLm hFLs hFLM hbes eg kw kwh hwb hfit hfitM hn0 hn2 hl h01 h21 h22
      go_enter Try.func7, Try.ntmps7
      go_upto_region 5 with (first
        | (go_at_call 13; refine KM.out.mono ?_; rintro e w1 ⟨a3, c3, rfl, hs, hb1⟩; have SM := Lib.hid hs; have B := Lib.hid hb1; clear hs hb1)
        | (go_at_call 14; refine (KC.out _ (SD.out.below B.out)).mono ?_; rintro e w2 ⟨rfl, hb1⟩; replace SM := Lib.hid (SM.out.below hb1); replace B := Lib.hid (below_step B.out hb1); clear hb1)
        | (go_at_call 15; refine Calls.mono (lplaces_any _ _ _ (by first | exact SU.out.below B.out | exact SM.out) (by first | exact HFL.out | exact HFM.out)) ?_; rintro e w3 ⟨b2, rfl, hi, -, hb1⟩; first
          | (replace I2 := Lib.hid (I2.out.below hb1); have I1 := Lib.hid hi; replace SM := Lib.hid (SM.out.below hb1); replace B := Lib.hid (below_step B.out hb1); clear hb1 hi)
          | (obtain ⟨bl, hbl⟩ : ∃ x, x = b2 := ⟨_, rfl⟩; subst hbl; have I2 := Lib.hid hi; replace SM := Lib.hid (SM.out.below hb1); replace B := Lib.hid (below_step B.out hb1); clear hb1 hi)))
      obtain ⟨X5, gr, gp, hX5, hgr, hgp, hcr, hcp, hb5⟩ := boxMM w3 (.map (some bl)) 46 (.map (some b2)) 46
      rw [hX5, hgr, show gr + 1 = gp by omega]
      replace I1 := Lib.hid (I1.out.below hb5); replace I2 := Lib.hid (I2.out.below hb5); replace SM := Lib.hid (SM.out.below hb5); replace B := Lib.hid (below_step B.out hb5)
      replace SD := Lib.hid (SD.out.below B.out)
      clear hX5 hgr hgp hb5 KM KC
      go_upto_region 7 with (go_at_call 16; refine (KW.out _ _ _ _ _ _ _ hcp hcr I1.out I2.out SD.out).mono ?_; rintro e w5 ⟨a5, c5, rfl, hs, hb1⟩; have SF := Lib.hid hs; replace SM := Lib.hid (SM.out.below hb1); replace I1 := Lib.hid (I1.out.below hb1); replace hcp := cell_keep hcp hb1; replace B := Lib.hid (below_step B.out hb1); clear hb1 hs)
      obtain ⟨W6, gB, hW6, hgB, hB6, hrow6⟩ : ∃ W6 gB, w5.alloc (.cells (Array.replicate m (.slice none 0 0)) 23) = W6 ∧ w5.heap.size = gB ∧ Below gB w5 W6 ∧ W6.heap[gB]? = some (.cells (List.replicate m (.slice none 0 0)).toArray 23 (0, 0)) := ⟨_, _, rfl, rfl, (Below.refl _ _).alloc (Nat.le_refl _) _, by rw [List.toArray_replicate]; exact heap_alloc_new _ _⟩
      rw [hW6, hgB]
      have BK0 := Lib.hid (BesK.start (lo := gB) (ls := besL (FL.take 0) M) hrow6 (by rw [List.take_zero, besL_nil, HM.out]))
      have HGB := Lib.hid hgB; have HB6 := Lib.hid hB6; have HCP := Lib.hid hcp
      clear hW6 hgB hB6 hrow6 hcp hcr KW I2 SD SU hmk
      go_wp2
      go_loopw [47] (fun i wr => ∃ (k : Nat) (vs : List Value), k ≤ f0 ∧ i = .int .i64 k ∧ Hid (BesK wr gB gB vs (besL (FL.take k) M)) ∧ Hid (Below gB w5 wr)) (fun i _ => f0 - (intOf i).toNat)
      case atStart => exact ⟨0, _, Nat.zero_le _, rfl, BK0, HB6⟩
      case round =>
        obtain ⟨k, vs, hk, rfl, HK0, HB⟩ := hrel
        by_cases hlt : k < f0
        · have hkl : k < FL.length := by rw [HF0.out]; exact hlt
          have hbw : Below w5.heap.size w5 wr := by rw [HGB.out]; exact HB.out
          obtain ⟨b, off, rfl, -, hc0, hc1, hc2, hc3⟩ := (SF.out.below hbw).at k hkl
          have htk := ne_take hkl
          have hfm := HFLM.out _ (ne_mem hkl)
          have hft := (small_fitNe (HFLs.out _ (ne_mem hkl))).2
          obtain ⟨y, hy⟩ : ∃ y, y = FL.getD k zNe := ⟨_, rfl⟩
          rw [← hy] at hc0 hc1 hc2 hc3 htk hfm hft
          obtain ⟨⟨y1, y2⟩, y3, y4⟩ := y
          simp only at hc0 hc1 hc2 hc3 hfm hft
          obtain ⟨q, hq⟩ : ∃ q, laN M (y3, y4) = q := ⟨_, rfl⟩
          obtain ⟨hql, hqa⟩ := laN_at (hasN_iff.1 hfm)
          rw [hq] at hql hqa
          have hqg : M.getD q ([], []) = (y3, y4) := by rw [List.getD_eq_getElem?_getD, hqa]; rfl
          have hqm : q < m := by rw [← HM.out]; exact hql
          obtain ⟨ls, hls⟩ : ∃ ls, besL (FL.take k) M = ls := ⟨_, rfl⟩
          have hlsl : ls.length = m := by rw [← hls, besL_len, HM.out]
          have hstep := besL_step (l := FL.take k) HMN.out hql (d := ((y1, y2), y3, y4)) hqg
          rw [← htk, hls] at hstep
          have hf5 : (ls.getD q []).length ≤ 100000 := by
            rw [← hls, besL_at hql]
            have h1 := List.length_filter_le (toK (M.getD q ([], []))) (FL.take k)
            rw [List.length_take] at h1
            omega
          rw [hls] at HK0
          obtain ⟨K, hK⟩ : ∃ K, ls.getD q [] = K := ⟨_, rfl⟩
          obtain ⟨f, hf⟩ : ∃ f, K.length = f := ⟨_, rfl⟩
          have hown := HK0.out.own q (by rw [hlsl]; exact hqm)
          have hcell := HK0.out.cell (k := q) (by rw [hlsl]; exact hqm)
          rw [hK] at hstep hf5 hown
          rw [hf] at hf5 hown
          obtain ⟨ay, cy, hay⟩ := own_formN hown
          have hlk := fun w' (hb : Below w5.heap.size w5 w') => lookat_imap (I1.out.below hb) hft hfm hq
          have HQ := Lib.hid hqm; have HFS := Lib.hid hf5; have HST := Lib.hid hstep; have HLS := Lib.hid hlsl; have HKF := Lib.hid hf; have HKQ := Lib.hid hK
          clear hls hqa hql hqg hq hfm hft hy htk hK hf hf5 hstep hcell hown
          go_upto_region 10 with fail
          obtain ⟨X, gd, hX, hgd, hrd, hxb⟩ : ∃ X gd, wr.alloc (.cells #[.string (mkB y1), .string (mkB y2), .string (mkB y3), .string (mkB y4)] 33) = X ∧ wr.heap.size = gd ∧ X.heap[gd]? = some (.cells #[.string (mkB y1), .string (mkB y2), .string (mkB y3), .string (mkB y4)] 33 (0, 0)) ∧ Below wr.heap.size wr X := ⟨_, _, rfl, rfl, heap_alloc_new _ _, (Below.refl _ _).alloc (Nat.le_refl _) _⟩
          rw [hX, hgd]
          have HBK := Lib.hid (HK0.out.below hxb)
          have hbs : gB ≤ wr.heap.size := by rw [← HGB.out]; exact HB.out.size
          have hbsx : gB ≤ X.heap.size := Nat.le_trans hbs hxb.size
          have BX := Lib.hid (HB.out.trans (hxb.mono hbs)); have HBS := Lib.hid hbsx
          have hbwx : Below w5.heap.size w5 X := by rw [HGB.out]; exact BX.out
          have hlkx := hlk X hbwx
          have hcpx := cell_keep HCP.out hbwx
          obtain ⟨d0, d1, d2, d3⟩ := row4n hrd
          have HGD := Lib.hid hrd
          have hqv : q < vs.length := by rw [HBK.out.len, HLS.out]; exact HQ.out
          have hql : q < ls.length := by rw [HLS.out]; exact HQ.out
          have hYo := HBK.out.own q hql
          rw [HKQ.out, HKF.out, hay] at hYo
          have HY := Lib.hid hYo; have HQV := Lib.hid hqv
          have HYC := Lib.hid (show ∀ w' : World, w'.heap[gB]? = some (.cells vs.toArray 23 (0, 0)) → w'.cell? ⟨gB, q, none⟩ = some (.slice ay f cy) from fun w' hw => by rw [← hay]; simp [World.cell?, hw, List.getD_eq_getElem?_getD, hqv])
          have hgBd : gB < gd := by rw [← hgd]; exact (Array.getElem?_eq_some_iff.1 HK0.out.row).1
          have hold : ∀ j, j < ls.length → ∀ b, (vs.getD j undef).ownBlock = some b → b ≠ gB ∧ b ≠ gd := fun j hj b e => ⟨fun h => own_nebox (HBK.out.own j hj) HBK.out.row (by decide) (by rw [← h]; exact e), fun h => by have h1 := (own_lt (HK0.out.own j hj) e).2; omega⟩
          obtain ⟨whoF, hwho⟩ : ∃ g : Nat → Nat, g = (fun b => if b = gB then 2 else if b = gd then 5 else if Value.ownBlock (.slice ay f cy) = some b then 1 else 3) := ⟨_, rfl⟩
          have HW2 := Lib.hid (show whoF gB = 2 by rw [hwho]; exact if_pos rfl)
          have HW5 := Lib.hid (show whoF gd = 5 by rw [hwho]; exact (if_neg (by omega)).trans (if_pos rfl))
          have HW1 := Lib.hid (show ∀ b, Value.ownBlock (.slice ay f cy) = some b → whoF b = 1 from fun b e => by
            obtain ⟨h1, h2⟩ := hold q hql b (by rw [hay]; exact e)
            rw [hwho]; exact (if_neg h1).trans ((if_neg h2).trans (if_pos e)))
          have HW3 := Lib.hid (show ∀ j, j < ls.length → j ≠ q → ∀ b, (vs.getD j undef).ownBlock = some b → whoF b = 3 from fun j hj hne b e => by
            obtain ⟨h1, h2⟩ := hold j hj b e
            rw [hwho]; exact (if_neg h1).trans ((if_neg h2).trans (if_neg fun h => HBK.out.apart j q hj hql hne b e (by rw [hay]; exact h))))
          clear hX hgd hrd hxb hwho hold hgBd hYo hqv hql hbs hbsx hc0 hc1 hc2 hc3 hlk hay hbw hbwx HK0
          go_upto_region 11 with fail
          refine rol_run (by kernel_rfl) [[], [], [], [], [2, 3], [2, 3, 4], [], [6], [2, 3, 4, 5, 6, 7], [0, 1, 2, 3, 4, 5, 6, 7, 8], [0, 1, 2, 3, 4, 5, 6, 7, 8, 9]] (by kernel_rfl) [55, 56, 57, 58, 59, 60, 61, 62, 63, 64] [[], [], [], [], [2, 3], [4, 11], [12], [6], [5, 7, 13], [0, 1], [8, 11, 9]] [0, 0, 0, 0, 0, 0, 0, 4, 1, 0, 2, 2, 5, 1, 3] [0, 0, 0, 0, 0, 0, 0, 0, 1, 0, 2] [1000, 1000, 1000, 1000, 1000, 1000, 1000, 1000, 1000, 1000, 1000, 10, 1000, 8, 1000] [.val 55 (.slice (some ⟨gB, 0, none⟩) m m), .val 56 (.int .i64 (q : Int)), .val 57 (.slice (some ⟨gB, 0, none⟩) m m), .val 58 (.int .i64 (q : Int)), .val 59 (.pointer (some ⟨gB, q, none⟩)), .val 60 (.slice ay f cy), .val 61 (.agg #[.string (mkB y1), .string (mkB y2), .string (mkB y3), .string (mkB y4)]), .mem 62 (blkG 33 #[.string (mkB y1), .string (mkB y2), .string (mkB y3), .string (mkB y4)] 1), .mem 63 (rowG gB 33 4 (f + 1) (neC (K ++ [((y1, y2), (y3, y4))]))), .val 64 (.pointer (some ⟨gB, q, none⟩)), .mem 63 (besF gB vs q), .box (gB) (.cells vs.toArray 23), .box (gd) (.cells #[.string (mkB y1), .string (mkB y2), .string (mkB y3), .string (mkB y4)] 33), .mem 13 (rowX (.slice ay f cy) gB 33 4 f (neC K)), .mems 13 (besI gB q vs ls)] (by kernel_rfl) ?_ (gB) (X.heap.size) rfl BX.out rfl (whoF) ?_ ?_ ?_
          · intro j hj
            have hj3 : j < 15 := hj
            have hj2 : j = 0 ∨ j = 1 ∨ j = 2 ∨ j = 3 ∨ j = 4 ∨ j = 5 ∨ j = 6 ∨ j = 7 ∨ j = 8 ∨ j = 9 ∨ j = 10 ∨ j = 11 ∨ j = 12 ∨ j = 13 ∨ j = 14 := by omega
            clear hj hj3
            rcases hj2 with rfl | rfl | rfl | rfl | rfl | rfl | rfl | rfl | rfl | rfl | rfl | rfl | rfl | rfl | rfl
            · exact trivial
            · exact trivial
            · exact trivial
            · exact trivial
            · exact trivial
            · exact trivial
            · exact trivial
            · exact blkG_near
            · exact rowG_near
            · exact trivial
            · exact besF_near
            · exact trivial
            · exact trivial
            · exact rowX_near
            · exact besI_near
          · intro j hj0 hj
            have hj1 : 11 ≤ j := hj0
            have hj3 : j < 15 := hj
            have hj2 : j = 11 ∨ j = 12 ∨ j = 13 ∨ j = 14 := by omega
            clear hj0 hj hj1 hj3
            rcases hj2 with rfl | rfl | rfl | rfl
            · exact ⟨HBK.out.row, HW2.out⟩
            · exact ⟨HGD.out, HW5.out⟩
            · exact ⟨_, _, rfl, fun b e => ⟨(own_lt HY.out e).2, HW1.out b e⟩, HY.out, rfl⟩
            · exact ⟨_, fun b => ∃ j, j < ls.length ∧ j ≠ q ∧ (vs.getD j undef).ownBlock = some b, rfl, fun b e => by obtain ⟨j, hj, hne, e⟩ := e; exact ⟨(own_lt (HBK.out.own j hj) e).2, HW3.out j hj hne b e⟩, fun j hj hne => ⟨HBK.out.own j hj, fun b e => ⟨j, hj, hne, e⟩⟩⟩
          · intro i hi a wx who hG hF
            have hz : a.tmps.size = 90 := hG.size
            have hi3 : i < 11 := hi
            have hi2 : i = 0 ∨ i = 1 ∨ i = 2 ∨ i = 3 ∨ i = 4 ∨ i = 5 ∨ i = 6 ∨ i = 7 ∨ i = 8 ∨ i = 9 ∨ i = 10 := by omega
            clear hi hi3
            rcases hi2 with rfl | rfl | rfl | rfl | rfl | rfl | rfl | rfl | rfl | rfl | rfl
            · exact rol_val rfl rfl rfl (by rw [hz]; decide) (ex_move (Or.inl rfl) (eval_slot ((hG.slots 13 (by decide)).trans rfl))) hG.below
            · exact rol_val rfl rfl rfl (by rw [hz]; decide) (ex_move (Or.inl rfl) (eval_slot ((hG.slots 16 (by decide)).trans rfl))) hG.below
            · exact rol_val rfl rfl rfl (by rw [hz]; decide) (ex_move (Or.inl rfl) (eval_slot ((hG.slots 13 (by decide)).trans rfl))) hG.below
            · exact rol_val rfl rfl rfl (by rw [hz]; decide) (ex_move (Or.inl rfl) (eval_slot ((hG.slots 16 (by decide)).trans rfl))) hG.below
            · exact rol_val rfl rfl rfl (by rw [hz]; decide) (ex_index rfl (eval_slot (hF 2 (by decide))) (eval_slot (hF 3 (by decide))) (idx_bes HQ.out)) hG.below
            · exact rol_val rfl rfl rfl (by rw [hz]; decide) (ex_load rfl (eval_slot (hF 4 (by decide))) (ld_bes (HYC.out wx (hF 11 (by decide)).1))) hG.below
            · exact rol_val rfl rfl rfl (by rw [hz]; decide) (ex_load rfl (eval_slot ((hG.slots 15 (by decide)).trans rfl)) (ld_ne (row4n (hF 12 (by decide)).1).1 (row4n (hF 12 (by decide)).1).2.1 (row4n (hF 12 (by decide)).1).2.2.1 (row4n (hF 12 (by decide)).1).2.2.2)) hG.below
            · exact rol_newO rfl rfl rfl (by rw [hz]; decide) (x := .cells #[.string (mkB y1), .string (mkB y2), .string (mkB y3), .string (mkB y4)] 33) (v := .slice (some ⟨wx.heap.size, 0, none⟩) 1 1) (ex_slice rfl (vs := #[(0, .agg #[.string (mkB y1), .string (mkB y2), .string (mkB y3), .string (mkB y4)])]) (by simp only [List.map_toArray, List.map_cons, List.map_nil, eval_slot (hF 6 (by decide))]) (by go_simp)) ⟨_, rfl, rfl, heap_alloc_new _ _⟩ hG.below (Nat.le_trans HBS.out hG.new)
            · obtain ⟨v, ob, hv, hob, b, rfl, rfl, hh⟩ := hF 7 (by decide)
              exact rol_app_ne rfl rfl rfl (by rw [hz]; decide) rfl (hF 13 (by decide)) (eval_slot (hF 5 (by decide))) (eval_slot hv) (blkG.nes hh) (by have := HFS.out; omega) hG.below (Nat.le_refl _) (Nat.le_trans HBS.out hG.new) rfl rfl
            · exact rol_val rfl rfl rfl (by rw [hz]; decide) (ex_index rfl (eval_slot (hF 0 (by decide))) (eval_slot (hF 1 (by decide))) (idx_bes HQ.out)) hG.below
            · exact rol_setB rfl rfl rfl rfl (eval_slot (hF 9 (by decide))) (hF 8 (by decide)) (hF 11 (by decide)) HQV.out hG.below (Nat.le_refl _)
          · intro a wx who hG hF
            have hap := hF 8 (of_decide_eq_true (by kernel_rfl)) (of_decide_eq_true (by kernel_rfl))
            have hst := hF 10 (of_decide_eq_true (by kernel_rfl)) (of_decide_eq_true (by kernel_rfl))
            have hzz := hF 14 (of_decide_eq_true (by kernel_rfl)) (of_decide_eq_true (by kernel_rfl))
            have hbx := hG.below
            have hnx := hG.new
            rw [hG.frame]
            simp only [List.foldl_cons, List.foldl_nil, List.setIfInBounds_toArray, List.set_cons_zero, List.set_cons_succ]
            generalize a.tmps.getD 55 undef = u55
            generalize a.tmps.getD 56 undef = u56
            generalize a.tmps.getD 57 undef = u57
            generalize a.tmps.getD 58 undef = u58
            generalize a.tmps.getD 59 undef = u59
            generalize a.tmps.getD 60 undef = u60
            generalize a.tmps.getD 61 undef = u61
            generalize a.tmps.getD 62 undef = u62
            generalize a.tmps.getD 63 undef = u63
            generalize a.tmps.getD 64 undef = u64
            clear hF hG
            obtain ⟨va, oba, hva, hoba, hra, rfl⟩ := hap
            obtain ⟨vb, obb, hvb, -, -, hrb⟩ := hst
            have evb : va = vb := Option.some.inj (hva.symm.trans hvb)
            subst evb
            obtain ⟨_, bsz, -, hbz, hIz⟩ := hzz
            have HN := Lib.hid (show BesK wx gB gB (vs.set q va) (besL (FL.take (k + 1)) M) from by
              rw [HST.out]
              exact HBK.out.grow hrb (by rw [show (K ++ [((y1, y2), y3, y4)]).length = f + 1 by rw [List.length_append, HKF.out]; rfl]; exact hra) (fun j hj hne => (hIz j hj hne).1) (fun j hj hne b e qq => by have h1 := (hbz b ((hIz j hj hne).2 b e)).2; have h2 := (hoba b qq).2; rw [h1] at h2; cases h2))
            have HBN := Lib.hid hbx
            clear hva hvb hoba hra hrb hbz hIz hbx hnx
            go_wp2
            go_roundw
            case rel => exact ⟨k + 1, _, by omega, by go_num, HN, HBN⟩
            case measure => simp [intOf]; omega
        · have e : k = f0 := by omega
          subst e
          have hbw : Below w5.heap.size w5 wr := by rw [HGB.out]; exact HB.out
          have hK0 := HK0.out
          rw [List.take_of_length_le (by rw [HF0.out]; exact Nat.le_refl _)] at hK0
          have BK := Lib.hid hK0
          have SM2 := Lib.hid (SM.out.below hbw); have B2 := Lib.hid (below_step B.out hbw)
          obtain ⟨W7, hW7⟩ : ∃ v, v = wr := ⟨_, rfl⟩
          subst hW7
          clear hK0 hbw HK0 HB SM B HCP I1 SF HFLM HFLs HGB HB6 BK0 HF0 HMN HFM HFL
          go_wp2
          go_loopw [17, 68] (fun v i wr => ∃ k : Nat, k ≤ m ∧ i = .int .i64 k ∧ Hid (LkO wr W7.heap.size v (lackK live (M.take k) l)) ∧ Hid (Below W7.heap.size W7 wr)) (fun _ i _ => m - (intOf i).toNat)
          case atStart => exact ⟨0, Nat.zero_le _, rfl, Lib.hid (LkO.nil _ _), Lib.hid (Below.refl _ _)⟩
          case round =>
            obtain ⟨k, hk, rfl, HO, HB⟩ := hrel
            by_cases hlt : k < m
            · have hkl : k < M.length := by rw [HM.out]; exact hlt
              obtain ⟨b, off, rfl, -, hc0, hc1⟩ := (SM2.out.below HB.out).at k hkl
              have htk := lackK_take (live := live) (l := l) hkl
              have hbl : (besL FL M).length = m := by rw [besL_len, HM.out]
              have hbk := BK.out.below HB.out
              have hcell := hbk.cell (k := k) (by rw [hbl]; exact hlt)
              have hown := hbk.own k (by rw [hbl]; exact hlt)
              have kwh := KWH.out k hlt
              rw [HWB.out k hlt] at kwh
              obtain ⟨y, hy⟩ : ∃ y, y = M.getD k ([], []) := ⟨_, rfl⟩
              rw [← hy] at hc0 hc1 htk kwh
              obtain ⟨y1, y2⟩ := y
              simp only at hc0 hc1
              obtain ⟨Y, hY⟩ : ∃ Y, byK (liveK live l) (y1, y2) = Y := ⟨_, rfl⟩
              rw [hY] at kwh htk
              obtain ⟨Y1, Y2⟩ := Y
              simp only at kwh
              obtain ⟨K, hK⟩ : ∃ K, (besL FL M).getD k [] = K := ⟨_, rfl⟩
              rw [hK] at hown kwh
              obtain ⟨ny, hny⟩ : ∃ n, Y1.length = n := ⟨_, rfl⟩
              obtain ⟨fk, hfk⟩ : ∃ n, K.length = n := ⟨_, rfl⟩
              obtain ⟨ak, ck, hak⟩ := own_formN hown
              rw [hak] at hcell hown
              have hsl := Nes.owned hown
              rw [hfk] at hsl hcell
              rw [hny] at kwh
              have hlen : (lackK live (M.take k) l).length = k := by rw [lackK_len, List.length_take, HM.out]; omega
              have HTK := Lib.hid htk; have KH := Lib.hid kwh; have HSL := Lib.hid hsl; have HLN := Lib.hid hlen; have HNY := Lib.hid hny
              clear hbl hbk hown kwh hy hY hK hfk hny hak hsl hlen htk
              have hkb : (k : Int) < (m : Int) := by omega
              have hbs : W7.heap.size ≤ wr.heap.size := HB.out.size
              go_upto_region 17 with fail
              obtain ⟨X, gx, hX, hgx, d0, d1, hxb⟩ := boxB1 wr (.string (mkB y1)) (.string (mkB y2)) 31
              rw [hX, hgx]
              have HOX := Lib.hid (HO.out.below hxb); have BX := Lib.hid (HB.out.trans (hxb.mono hbs)); have HSX := Lib.hid (HSL.out.below hxb)
              have hcx := cell_keep hcell hxb
              clear hX hgx hxb hc0 hc1 hcell
              go_upto_region 18 with (go_at_call 19; refine (KH.out _ _ HSX.out).mono ?_; rintro e w8 ⟨yv, rfl, ho, hb1⟩; obtain ⟨ayv, cyv, hyv⟩ := own_formN ho; subst hyv; have HOY := Lib.hid (row_base ho BX.out.size); have HO8 := Lib.hid (HOX.out.below hb1); have B8 := Lib.hid (BX.out.trans (hb1.mono BX.out.size)); replace d0 := cell_keep d0 hb1; replace d1 := cell_keep d1 hb1; clear hb1 ho)
              have hb8 : W7.heap.size ≤ w8.heap.size := B8.out.size
              go_wp2_with (at_builtin; refine wpList_push_lk rfl _ _ rfl W7.heap.size _ (lackK live (M.take k) l) k HLN.out rfl HO8.out y1 y2 Y1 _ Y2 (by rw [HNY.out]; exact HOY.out) w8.heap.size rfl rfl (by omega) hb8 ?_; intro a9 c9 w9 hO9 hB9; have HO9 := Lib.hid hO9; have B9 := Lib.hid (B8.out.trans hB9); clear hO9 hB9)
              go_roundw
              case rel => exact ⟨k + 1, by omega, by go_num, Lib.hid (by rw [HTK.out]; exact HO9.out), B9⟩
              case measure => simp [intOf]; omega
            · have e : k = m := by omega
              subst e
              have hO := HO.out
              rw [List.take_of_length_le (by rw [HM.out]; exact Nat.le_refl _)] at hO
              go_wp2
              go_ret2
              exact ⟨_, rfl, hO.base B2.out.size, below_step B2.out HB.out⟩
end Go.Proofs.Ytjnkjjlpkgbkiaa

namespace Go.Proofs.Ytjnkjjlpkgbkiaa
open Go.RowKit Go.ChangeShapes Go.WideShapes
set_option linter.unusedVariables false
set_option maxRecDepth 100000

theorem nds_blkK {w : World} {b n : Nat} {l : List Nd} (h : w.heap[b]? = some (.cells (ndsC l).toArray 31 (0, 0))) (hl : l.length = n) (hn : n ≤ 1000) : Nds w (.slice (some ⟨b, 0, none⟩) n n) l := by
  subst hl
  exact Nds.owned (base := 0) (e := 31) ⟨ndsC_len l, .inr ⟨b, l.length, _, rfl, Nat.zero_le _, h, Nat.le_refl _, by unfold maxLen; omega, by rw [List.size_toArray, ndsC_len], by rw [List.toList_toArray, List.take_of_length_le (by rw [ndsC_len]; exact Nat.le_refl _)]⟩⟩
theorem nes_blkK {w : World} {b n : Nat} {l : List Ne} (h : w.heap[b]? = some (.cells (neC l).toArray 33 (0, 0))) (hl : l.length = n) (hn : n ≤ 1000) : Nes w (.slice (some ⟨b, 0, none⟩) n n) l := by
  subst hl
  exact Nes.owned (base := 0) (e := 33) ⟨neC_len l, .inr ⟨b, l.length, _, rfl, Nat.zero_le _, h, Nat.le_refl _, by unfold maxLen; omega, by rw [List.size_toArray, neC_len], by rw [List.toList_toArray, List.take_of_length_le (by rw [neC_len]; exact Nat.le_refl _)]⟩⟩
def vK : List UInt8 := [118, 49, 46, 48, 46, 48]
theorem exK1 : lackKE [([97], vK), ([98], vK)] [([98], vK)] [(([98], vK), ([97], vK)), (([], []), ([98], vK))] = ([(([97], vK), ([([98], vK)], false))], 0) := by kernel_rfl
theorem exK2 : minusNE [([97], vK)] [([97], vK)] = ([], 0) := by kernel_rfl
theorem smK (x : UInt8) : smallN ([x], vK) := ⟨(by decide : 1 ≤ 1000000000), (by decide : 6 ≤ 1000000000)⟩
theorem smK1 (x : UInt8) : ∀ n ∈ [(([x], vK) : Nd)], smallN n := fun n hn => by
  have : n = ([x], vK) := by simpa using hn
  rw [this]; exact smK x
theorem smK2 : ∀ n ∈ [(([97], vK) : Nd), ([98], vK)], smallN n := fun n hn => by
  simp only [List.mem_cons, List.not_mem_nil, or_false] at hn
  rcases hn with rfl | rfl
  · exact smK 97
  · exact smK 98
theorem smK3 : ∀ d ∈ [((([98], vK), ([97], vK)) : Ne), (([], []), ([98], vK))], smallNe d := fun d hd => by
  simp only [List.mem_cons, List.not_mem_nil, or_false] at hd
  rcases hd with rfl | rfl
  · exact ⟨smK 98, smK 97⟩
  · exact ⟨⟨Nat.zero_le _, Nat.zero_le _⟩, smK 98⟩
theorem boxK2 (w : World) (x y x' y' : Value) (t : TypeId) : ∃ W g1 g2, (w.alloc (.cells #[x, y] t)).alloc (.cells #[x', y'] t) = W ∧ w.heap.size = g1 ∧ w.heap.size + 1 = g2 ∧ W.cell? ⟨g1, 0, none⟩ = some x ∧ W.cell? ⟨g1, 1, none⟩ = some y ∧ W.cell? ⟨g2, 0, none⟩ = some x' ∧ W.cell? ⟨g2, 1, none⟩ = some y' ∧ Below w.heap.size w W :=
  ⟨_, _, _, rfl, rfl, rfl, cell_alloc (cell_new rfl rfl) _, cell_alloc (cell_new rfl rfl) _, cell_new (by simp) rfl, cell_new (by simp) rfl, ((Below.refl _ _).alloc (Nat.le_refl _) _).alloc (by simp) _⟩
theorem alloc_szK (w : World) (o : Obj) : (w.alloc o).heap.size = w.heap.size + 1 := by simp
theorem heap_old {w : World} {o o' : Obj} {b : Nat} (h : w.heap[b]? = some o) : (w.alloc o').heap[b]? = some o := (Below.heap_alloc w o' b (Array.getElem?_eq_some_iff.1 h).1).trans h

set_option maxHeartbeats 3200000 in
theorem kawake_any (w : World) : Calls Try.prog 8 #[] w fun e w' => e = .returned (.bool true) ∧ Below w.heap.size w w' := by
  have h1 := fun U V D w hU hV hD => lOf_any U V D [([97], vK), ([98], vK)] [([98], vK)] [(([98], vK), ([97], vK)), (([], []), ([98], vK))] w hU hV hD smK2 (smK1 98) smK3 (by decide) (by decide) (by decide)
  have h2 := fun U V w hU hV => lMiss_any U V [([97], vK)] [([97], vK)] w hU hV (smK1 97) (smK1 97) (by decide) (by decide)
  rw [exK1] at h1
  rw [exK2] at h2
  simp only at h1 h2
  have H1 := Lib.hid h1; have H2 := Lib.hid h2
  clear h1 h2
  go_enter Try.func8, Try.ntmps8
  go_upto_region 2 with fail
  obtain ⟨W, g1, g2, hW, hg1, hg2, a0, a1, b0, b1, hb⟩ := boxK2 w (.string (mkB [97])) (.string (mkB vK)) (.string (mkB [98])) (.string (mkB vK)) 31
  change Code.wp _ _ _ _ ((w.alloc (.cells #[.string (mkB [97]), .string (mkB vK)] 31)).alloc (.cells #[.string (mkB [98]), .string (mkB vK)] 31))
  rw [hW, hg2, hg1]
  have BB := Lib.hid hb
  clear hW hg1 hg2 hb
  have a0' := fun o => cell_alloc a0 o
  have a1' := fun o => cell_alloc a1 o
  have b0' := fun o => cell_alloc b0 o
  have b1' := fun o => cell_alloc b1 o
  have a0'' := fun o o' => cell_alloc (cell_alloc a0 o) o'
  have a1'' := fun o o' => cell_alloc (cell_alloc a1 o) o'
  have b0'' := fun o o' => cell_alloc (cell_alloc b0 o) o'
  have b1'' := fun o o' => cell_alloc (cell_alloc b1 o) o'
  have hu : Nds (((W.alloc (.cells #[.string (mkB [97]), .string (mkB vK), .string (mkB [98]), .string (mkB vK)] 31)).alloc (.cells #[.string (mkB [98]), .string (mkB vK)] 31)).alloc (.cells #[.string (mkB [98]), .string (mkB vK), .string (mkB [97]), .string (mkB vK), .string { data := #[] }, .string { data := #[] }, .string (mkB [98]), .string (mkB vK)] 33)) (.slice (some ⟨W.heap.size, 0, none⟩) 2 2) [([97], vK), ([98], vK)] := nds_blkK (heap_old (heap_old (heap_alloc_new W (.cells #[.string (mkB [97]), .string (mkB vK), .string (mkB [98]), .string (mkB vK)] 31)))) rfl (by decide)
  have hv : Nds (((W.alloc (.cells #[.string (mkB [97]), .string (mkB vK), .string (mkB [98]), .string (mkB vK)] 31)).alloc (.cells #[.string (mkB [98]), .string (mkB vK)] 31)).alloc (.cells #[.string (mkB [98]), .string (mkB vK), .string (mkB [97]), .string (mkB vK), .string { data := #[] }, .string { data := #[] }, .string (mkB [98]), .string (mkB vK)] 33)) (.slice (some ⟨W.heap.size + 1, 0, none⟩) 1 1) [([98], vK)] := nds_blkK (heap_old (by have h := heap_alloc_new (W.alloc (.cells #[.string (mkB [97]), .string (mkB vK), .string (mkB [98]), .string (mkB vK)] 31)) (.cells #[.string (mkB [98]), .string (mkB vK)] 31); rw [alloc_szK] at h; exact h)) rfl (by decide)
  have hd : Nes (((W.alloc (.cells #[.string (mkB [97]), .string (mkB vK), .string (mkB [98]), .string (mkB vK)] 31)).alloc (.cells #[.string (mkB [98]), .string (mkB vK)] 31)).alloc (.cells #[.string (mkB [98]), .string (mkB vK), .string (mkB [97]), .string (mkB vK), .string { data := #[] }, .string { data := #[] }, .string (mkB [98]), .string (mkB vK)] 33)) (.slice (some ⟨W.heap.size + 1 + 1, 0, none⟩) 2 2) [(([98], vK), ([97], vK)), (([], []), ([98], vK))] := nes_blkK (by have h := heap_alloc_new ((W.alloc (.cells #[.string (mkB [97]), .string (mkB vK), .string (mkB [98]), .string (mkB vK)] 31)).alloc (.cells #[.string (mkB [98]), .string (mkB vK)] 31)) (.cells #[.string (mkB [98]), .string (mkB vK), .string (mkB [97]), .string (mkB vK), .string { data := #[] }, .string { data := #[] }, .string (mkB [98]), .string (mkB vK)] 33); rw [alloc_szK, alloc_szK] at h; exact h) rfl (by decide)
  have hb3 : Below W.heap.size W (((W.alloc (.cells #[.string (mkB [97]), .string (mkB vK), .string (mkB [98]), .string (mkB vK)] 31)).alloc (.cells #[.string (mkB [98]), .string (mkB vK)] 31)).alloc (.cells #[.string (mkB [98]), .string (mkB vK), .string (mkB [97]), .string (mkB vK), .string { data := #[] }, .string { data := #[] }, .string (mkB [98]), .string (mkB vK)] 33)) := (((Below.refl _ _).alloc (Nat.le_refl _) _).alloc (by simp) _).alloc (by simp; omega) _
  have HU := Lib.hid hu; have HV := Lib.hid hv; have HD := Lib.hid hd; have B3 := Lib.hid hb3
  clear hu hv hd hb3
  go_upto_region 3 with (go_at_call 7; refine (H1.out _ _ _ _ HU.out HV.out HD.out).mono ?_; rintro e w1 ⟨v1, rfl, ho1, hb1⟩; obtain ⟨k1, c1, hk1, hd1⟩ := ho1.form; have hk2 : v1 = .slice k1 1 c1 := hk1; subst hk2; have S1 := Lib.hid (show Lks w1 (.slice k1 1 c1) [(([97], vK), ([([98], vK)], false))] from hd1); have hbw := below_step B3.out hb1; replace a0 := cell_keep a0 hbw; replace a1 := cell_keep a1 hbw; replace b0 := cell_keep b0 hbw; replace b1 := cell_keep b1 hbw; replace BB := Lib.hid (below_step BB.out hbw); clear hb1 ho1 hbw hd1 hk1)
  clear HU HV HD B3 H1 a0' a1' b0' b1' a0'' a1'' b0'' b1''
  have a0' := fun o => cell_alloc a0 o
  have a1' := fun o => cell_alloc a1 o
  have hu : Nds ((w1.alloc (.cells #[.string (mkB [97]), .string (mkB vK)] 31)).alloc (.cells #[.string (mkB [97]), .string (mkB vK)] 31)) (.slice (some ⟨w1.heap.size, 0, none⟩) 1 1) [([97], vK)] := nds_blkK (heap_old (heap_alloc_new w1 (.cells #[.string (mkB [97]), .string (mkB vK)] 31))) rfl (by decide)
  have hv : Nds ((w1.alloc (.cells #[.string (mkB [97]), .string (mkB vK)] 31)).alloc (.cells #[.string (mkB [97]), .string (mkB vK)] 31)) (.slice (some ⟨w1.heap.size + 1, 0, none⟩) 1 1) [([97], vK)] := nds_blkK (by have h := heap_alloc_new (w1.alloc (.cells #[.string (mkB [97]), .string (mkB vK)] 31)) (.cells #[.string (mkB [97]), .string (mkB vK)] 31); rw [alloc_szK] at h; exact h) rfl (by decide)
  have hb3 : Below w1.heap.size w1 ((w1.alloc (.cells #[.string (mkB [97]), .string (mkB vK)] 31)).alloc (.cells #[.string (mkB [97]), .string (mkB vK)] 31)) := ((Below.refl _ _).alloc (Nat.le_refl _) _).alloc (by simp) _
  have HU := Lib.hid hu; have HV := Lib.hid hv; have B3 := Lib.hid hb3
  clear hu hv hb3
  go_upto_region 4 with (go_at_call 13; refine (H2.out _ _ _ HU.out HV.out).mono ?_; rintro e w2 ⟨k2, c2, rfl, hd1, hb1⟩; have hbw := below_step B3.out hb1; replace a0 := cell_keep a0 hbw; replace a1 := cell_keep a1 hbw; replace b0 := cell_keep b0 hbw; replace b1 := cell_keep b1 hbw; replace BB := Lib.hid (below_step BB.out hbw); replace S1 := Lib.hid (S1.out.below hbw); clear hb1 hbw hd1)
  clear HU HV B3 H2 a0' a1'
  obtain ⟨b, off, k3, n3, c3, rfl, e0, e1, e2, e3, hn3⟩ := S1.out.at 0 (by decide)
  have hl3 : n3 = 1 := hn3.lenE.1.symm
  subst hl3
  obtain ⟨b3, o3, rfl, -, f0, f1⟩ := hn3.at 0 (by decide)
  rw [Nat.zero_mul, Nat.add_zero] at e0 e1 e2 e3 f0 f1
  replace e0 : w2.cell? ⟨b, off, none⟩ = some (.string (mkB [97])) := e0
  replace e1 : w2.cell? ⟨b, off + 1, none⟩ = some (.string (mkB vK)) := e1
  replace e3 : w2.cell? ⟨b, off + 3, none⟩ = some (.bool false) := e3
  replace f0 : w2.cell? ⟨b3, o3, none⟩ = some (.string (mkB [98])) := f0
  replace f1 : w2.cell? ⟨b3, o3 + 1, none⟩ = some (.string (mkB vK)) := f1
  clear hn3 S1
  have hgd := guard_nd
  have q1 : ∀ w, Sem.run Try.prog (binOp .eql 31 (.agg #[.string (mkB [97]), .string (mkB vK)]) (.agg #[.string (mkB [97]), .string (mkB vK)])) w = .ok (.bool true) w := fun w => eq_nd [97] vK [97] vK w
  have q2 : ∀ w, Sem.run Try.prog (binOp .eql 31 (.agg #[.string (mkB [98]), .string (mkB vK)]) (.agg #[.string (mkB [98]), .string (mkB vK)])) w = .ok (.bool true) w := fun w => eq_nd [98] vK [98] vK w
  go_quiet (fail)
  go_wp2
  go_ret
  exact ⟨rfl, below_step BB.out (below_q ⟨nq, rfl⟩)⟩
end Go.Proofs.Ytjnkjjlpkgbkiaa
