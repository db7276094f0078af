/- Some needs of a list; two lists of lacks' sameness. -/
import Derived.Test.YtjnkjjlpkgbkiaaLakC
import Derived.Test.YtjnkjjlpkgbkiaaRolO
namespace Go.Proofs.Ytjnkjjlpkgbkiaa
open Go.RowKit
set_option linter.unusedVariables false
set_option maxRecDepth 100000

/-! ### Some needs of a list -/
theorem fld_ne {w : World} {b off : Nat} : Sem.run Try.prog (Instr.fieldAt 33 (.pointer (some ⟨b, off, none⟩)) 0) w = .ok (.pointer (some ⟨b, off, none⟩)) w := by go_simp
theorem fld2_ne {w : World} {b off : Nat} : Sem.run Try.prog (Instr.fieldAt 33 (.pointer (some ⟨b, off, none⟩)) 1) w = .ok (.pointer (some ⟨b, off + 2, none⟩)) w := by go_simp
def oneK (d : Ne) : Ne := (oneN d.1, oneN d.2)
def fewK (l : List Ne) : List Ne := (l.take 30).map oneK
theorem fewK_len (l : List Ne) : (fewK l).length ≤ 30 := by unfold fewK; rw [List.length_map, List.length_take]; omega
theorem fewK_small (l : List Ne) : ∀ d ∈ fewK l, smallN d.1 ∧ smallN d.2 := fun d hd => by
  obtain ⟨x, _, rfl⟩ := List.mem_map.1 hd
  exact ⟨oneN_small x.1, oneN_small x.2⟩
theorem fewK_succ {l : List Ne} {k : Nat} (h : k < l.length) : (l.take (k + 1)).map oneK = (l.take k).map oneK ++ [oneK (l.getD k zNe)] := by
  rw [ne_take h, List.map_append]; rfl
theorem fewK_same {l : List Ne} (h : l.length ≤ 30) (hs : ∀ d ∈ l, d.1.1.length ≤ 400 ∧ d.1.2.length ≤ 400 ∧ d.2.1.length ≤ 400 ∧ d.2.2.length ≤ 400) : fewK l = l := by
  unfold fewK
  rw [List.take_of_length_le h]
  refine (List.map_congr_left fun d hd => ?_).trans (List.map_id _)
  obtain ⟨h1, h2, h3, h4⟩ := hs d hd
  unfold oneK oneN fewL
  rw [List.take_of_length_le h1, List.take_of_length_le h2, List.take_of_length_le h3, List.take_of_length_le h4]; rfl
theorem fewK_texts (l : List Ne) : ∀ d ∈ fewK l, d.1.1.length ≤ 400 ∧ d.1.2.length ≤ 400 ∧ d.2.1.length ≤ 400 ∧ d.2.2.length ≤ 400 := fun d hd => by
  obtain ⟨x, _, rfl⟩ := List.mem_map.1 hd
  exact ⟨fewL_len _, fewL_len _, fewL_len _, fewL_len _⟩
theorem fewK_idem (l : List Ne) : fewK (fewK l) = fewK l := fewK_same (fewK_len l) (fewK_texts l)
set_option maxHeartbeats 3200000 in
theorem lfewo_any (V : Value) (l : List Ne) (w : World) (hV : Nes w V l) (hf : ∀ d ∈ l, fitNe d) :
    Calls Try.prog 6 #[V] w fun e w' => ∃ v, e = .returned v ∧ w'.ownsRow w.heap.size 33 4 v (fewK l).length (neC (fewK l)) ∧ Below w.heap.size w w' := by
  obtain ⟨a, c, rfl, h1, h2, -, -⟩ := hV.ex
  unfold maxLen at h2
  obtain ⟨n, hn⟩ : ∃ n, l.length = n := ⟨_, rfl⟩
  obtain ⟨L, hL⟩ : ∃ L, fewK l = L := ⟨_, rfl⟩
  rw [hL]
  rw [hn] at h1 hV ⊢
  have SV := Lib.hid hV; have HN := Lib.hid hn; have HF := Lib.hid hf; have HL := Lib.hid hL
  have e1 : ∀ args w, (callFunc 12 args).run Try.prog w = .ok (.enter 12 args) w := enters_of Try.func12 (by kernel_rfl) rfl
  clear hV hn hf hL
  go_enter Try.func6, Try.ntmps6
  go_wp2
  go_loopw [3, 4] (fun v i wr => ∃ (k : Nat) (acc : List Ne), k ≤ n ∧ k ≤ 30 ∧ i = .int .i64 k ∧ acc.length = k ∧ Hid (acc = (l.take k).map oneK) ∧ wr.ownsRow w.heap.size 33 4 v acc.length (neC acc) ∧ Hid (Below w.heap.size w wr)) (fun _ i _ => n - (intOf i).toNat)
  case atStart => exact ⟨0, [], Nat.zero_le _, Nat.zero_le _, rfl, rfl, Lib.hid (by simp), World.ownsRow_nil _ _ _ _, Lib.hid (Below.refl _ _)⟩
  case round =>
    obtain ⟨k, acc, hkn, hk8, rfl, hal, HACC, hown, HB⟩ := hrel
    by_cases hlt : k < n
    · by_cases h8 : k < 30
      · have hkl : k < l.length := by rw [HN.out]; exact hlt
        obtain ⟨b, off, rfl, -, cw0, cw1, cw2, cw3⟩ := SV.out.at k hkl
        have htk := fewK_succ hkl
        have hsy : fitNe (l.getD k zNe) := HF.out _ (ne_mem hkl)
        obtain ⟨y, hy⟩ : ∃ y, y = l.getD k zNe := ⟨_, rfl⟩
        rw [← hy] at cw0 cw1 cw2 cw3 htk hsy
        obtain ⟨⟨y1, y2⟩, y3, y4⟩ := y
        simp only at cw0 cw1 cw2 cw3
        have KO := Lib.hid fun w => one_any y1 y2 w hsy.1.1 hsy.1.2
        have KP := Lib.hid fun w => one_any y3 y4 w hsy.2.1 hsy.2.2
        obtain ⟨L2, hl2⟩ : ∃ L, L = acc ++ [((fewL y1, fewL y2), (fewL y3, fewL y4))] := ⟨_, rfl⟩
        have HL2E := Lib.hid hl2; have HOWN := Lib.hid hown; have HTK := Lib.hid htk; have HAL := Lib.hid hal; have HLT := Lib.hid hlt; have HBS := Lib.hid HB.out.size
        have hl2n : L2.length = k + 1 := by rw [hl2, List.length_append, hal]; rfl
        have HLN := Lib.hid hl2n
        have hacn : acc.length ≤ 30 := by omega
        clear hy hsy htk hl2 hl2n hown hal
        go_upto_region 5 with fail
        refine rol_run (by kernel_rfl) [[], [], [], [1, 2], [1, 2, 3], [1, 2, 3, 4], [1, 2, 3, 4, 5], [], [], [7, 8], [7, 8, 9], [7, 8, 9, 10], [1, 2, 3, 4, 5, 6, 7, 8, 9, 10, 11], [1, 2, 3, 4, 5, 6, 7, 8, 9, 10, 11, 12], [1, 2, 3, 4, 5, 6, 7, 8, 9, 10, 11, 12, 13], [0, 1, 2, 3, 4, 5, 6, 7, 8, 9, 10, 11, 12, 13, 14], [0, 1, 2, 3, 4, 5, 6, 7, 8, 9, 10, 11, 12, 13, 14, 15]] (by kernel_rfl) [15, 16, 17, 18, 19, 20, 21, 22, 23, 24, 25, 26, 27, 28, 29, 30, 3] [[18], [], [], [1, 2], [3], [4], [5], [], [], [7, 8], [9], [10], [11], [6, 12], [13], [0, 14, 17], [15]] [0, 0, 0, 0, 0, 0, 0, 0, 0, 0, 0, 0, 0, 0, 5, 1, 1, 1, 0] [0, 0, 0, 0, 0, 0, 0, 0, 0, 0, 0, 0, 0, 0, 0, 1, 0] [1000, 1000, 1000, 1000, 1000, 1000, 1000, 1000, 1000, 1000, 1000, 1000, 1000, 1000, 1000, 1000, 1000, 15, 16] [.val 15 (u3), .val 16 (.slice (some ⟨b, off, none⟩) n c), .val 17 (.int .i64 (k : Int)), .val 18 (.pointer (some ⟨b, off + k * 4, none⟩)), .val 19 (.pointer (some ⟨b, off + k * 4, none⟩)), .val 20 (.agg #[.string (mkB y1), .string (mkB y2)]), .val 21 (.agg #[.string (mkB (fewL y1)), .string (mkB (fewL y2))]), .val 22 (.slice (some ⟨b, off, none⟩) n c), .val 23 (.int .i64 (k : Int)), .val 24 (.pointer (some ⟨b, off + k * 4, none⟩)), .val 25 (.pointer (some ⟨b, off + k * 4 + 2, none⟩)), .val 26 (.agg #[.string (mkB y3), .string (mkB y4)]), .val 27 (.agg #[.string (mkB (fewL y3)), .string (mkB (fewL y4))]), .val 28 (.agg #[.string (mkB (fewL y1)), .string (mkB (fewL y2)), .string (mkB (fewL y3)), .string (mkB (fewL y4))]), .mem 29 (blkG 33 #[.string (mkB (fewL y1)), .string (mkB (fewL y2)), .string (mkB (fewL y3)), .string (mkB (fewL y4))] 1), .mem 30 (rowG w.heap.size 33 4 L2.length (neC L2)), .mem 3 (rowG w.heap.size 33 4 L2.length (neC L2)), .mem 3 (rowX u3 (w.heap.size) 33 4 acc.length (neC acc)), .val 3 (u3)] (by kernel_rfl) ?_ (w.heap.size) (wr.heap.size) rfl HB.out rfl (fun k => if Value.ownBlock u3 = some k then 1 else 0) ?_ ?_ ?_
        · intro j hj
          have hj3 : j < 19 := hj
          have hj2 : j = 0 ∨ j = 1 ∨ j = 2 ∨ j = 3 ∨ j = 4 ∨ j = 5 ∨ j = 6 ∨ j = 7 ∨ j = 8 ∨ j = 9 ∨ j = 10 ∨ j = 11 ∨ j = 12 ∨ j = 13 ∨ j = 14 ∨ j = 15 ∨ j = 16 ∨ j = 17 ∨ j = 18 := by omega
          clear hj hj3
          rcases hj2 with rfl | rfl | rfl | rfl | rfl | rfl | rfl | rfl | rfl | rfl | rfl | rfl | rfl | rfl | rfl | rfl | rfl | rfl | rfl
          · exact trivial
          · exact trivial
          · exact trivial
          · exact trivial
          · exact trivial
          · exact trivial
          · exact trivial
          · exact trivial
          · exact trivial
          · exact trivial
          · exact trivial
          · exact trivial
          · exact trivial
          · exact trivial
          · exact blkG_near
          · exact rowG_near
          · exact rowG_near
          · exact rowX_near
          · exact trivial
        · intro j hj0 hj
          have hj1 : 17 ≤ j := hj0
          have hj3 : j < 19 := hj
          have hj2 : j = 17 ∨ j = 18 := by omega
          clear hj0 hj hj1 hj3
          rcases hj2 with rfl | rfl
          · exact ⟨_, _, rfl, fun b e => ⟨(own_lt HOWN.out e).2, if_pos e⟩, HOWN.out, rfl⟩
          · exact rfl
        · intro i hi a wx who hG hF
          have hz : a.tmps.size = 32 := hG.size
          have hi3 : i < 17 := hi
          have hi2 : i = 0 ∨ i = 1 ∨ i = 2 ∨ i = 3 ∨ i = 4 ∨ i = 5 ∨ i = 6 ∨ i = 7 ∨ i = 8 ∨ i = 9 ∨ i = 10 ∨ i = 11 ∨ i = 12 ∨ i = 13 ∨ i = 14 ∨ i = 15 ∨ i = 16 := by omega
          clear hi hi3
          rcases hi2 with rfl | rfl | rfl | rfl | rfl | rfl | rfl | rfl | rfl | rfl | rfl | rfl | rfl | rfl | rfl | rfl | rfl
          · exact rol_val rfl rfl rfl (by rw [hz]; decide) (ex_move (Or.inl rfl) (eval_slot (hF 18 (by decide)))) hG.below
          · exact rol_val rfl rfl rfl (by rw [hz]; decide) (ex_move (Or.inl rfl) (eval_slot ((hG.slots 0 (by decide)).trans rfl))) hG.below
          · exact rol_val rfl rfl rfl (by rw [hz]; decide) (ex_move (Or.inl rfl) (eval_slot ((hG.slots 4 (by decide)).trans rfl))) hG.below
          · exact rol_val rfl rfl rfl (by rw [hz]; decide) (ex_index rfl (eval_slot (hF 1 (by decide))) (eval_slot (hF 2 (by decide))) (idx_ne HLT.out)) hG.below
          · exact rol_val rfl rfl rfl (by rw [hz]; decide) (ex_field rfl (eval_slot (hF 3 (by decide))) fld_ne) hG.below
          · exact rol_val rfl rfl rfl (by rw [hz]; decide) (ex_load rfl (eval_slot (hF 4 (by decide))) (ld_node (cell_keep cw0 hG.below) (cell_keep cw1 hG.below))) hG.below
          · refine rol_calls rfl rfl rfl (by rw [hz]; decide) (ex_call rfl (by simp [eval_slot (hF 5 (by decide))]) e1) (KO.out wx) ?_ hG.below (Nat.le_trans HBS.out hG.new)
            rintro e w1 ⟨rfl, hb1⟩
            exact ⟨_, rfl, hb1, .inl rfl⟩
          · exact rol_val rfl rfl rfl (by rw [hz]; decide) (ex_move (Or.inl rfl) (eval_slot ((hG.slots 0 (by decide)).trans rfl))) hG.below
          · exact rol_val rfl rfl rfl (by rw [hz]; decide) (ex_move (Or.inl rfl) (eval_slot ((hG.slots 4 (by decide)).trans rfl))) hG.below
          · exact rol_val rfl rfl rfl (by rw [hz]; decide) (ex_index rfl (eval_slot (hF 7 (by decide))) (eval_slot (hF 8 (by decide))) (idx_ne HLT.out)) hG.below
          · exact rol_val rfl rfl rfl (by rw [hz]; decide) (ex_field rfl (eval_slot (hF 9 (by decide))) fld2_ne) hG.below
          · exact rol_val rfl rfl rfl (by rw [hz]; decide) (ex_load rfl (eval_slot (hF 10 (by decide))) (ld_node (cell_keep cw2 hG.below) (cell_keep cw3 hG.below))) hG.below
          · refine rol_calls rfl rfl rfl (by rw [hz]; decide) (ex_call rfl (by simp [eval_slot (hF 11 (by decide))]) e1) (KP.out wx) ?_ hG.below (Nat.le_trans HBS.out hG.new)
            rintro e w1 ⟨rfl, hb1⟩
            exact ⟨_, rfl, hb1, .inl rfl⟩
          · exact rol_val rfl rfl rfl (by rw [hz]; decide) (ex_build rfl (vs := #[(0, .agg #[.string (mkB (fewL y1)), .string (mkB (fewL y2))]), (1, .agg #[.string (mkB (fewL y3)), .string (mkB (fewL y4))])]) (by simp only [List.map_toArray, List.map_cons, List.map_nil, eval_slot (hF 6 (by decide)), eval_slot (hF 12 (by decide))]) build_ne) hG.below
          · exact rol_newO rfl rfl rfl (by rw [hz]; decide) (x := .cells #[.string (mkB (fewL y1)), .string (mkB (fewL y2)), .string (mkB (fewL y3)), .string (mkB (fewL y4))] 33) (v := .slice (some ⟨wx.heap.size, 0, none⟩) 1 1) (ex_slice rfl (vs := #[(0, .agg #[.string (mkB (fewL y1)), .string (mkB (fewL y2)), .string (mkB (fewL y3)), .string (mkB (fewL y4))])]) (by simp only [List.map_toArray, List.map_cons, List.map_nil, eval_slot (hF 13 (by decide))]) (by go_simp)) ⟨_, rfl, rfl, heap_alloc_new _ _⟩ hG.below (Nat.le_trans HBS.out hG.new)
          · obtain ⟨v, ob, hv, hob, b, rfl, rfl, hh⟩ := hF 14 (by decide)
            exact rol_app_ne rfl rfl rfl (by rw [hz]; decide) rfl (hF 17 (by decide)) (eval_slot (hF 0 (by decide))) (eval_slot hv) (blkG.nes hh) (by omega) hG.below (Nat.le_refl _) (Nat.le_trans HBS.out hG.new) (by rw [HL2E.out, List.length_append]; rfl) HL2E.out
          · exact rol_move rfl rfl rfl (by rw [hz]; decide) (Or.inr rfl) (hF 15 (by decide)) hG.below
        · intro a wx who hG hF
          obtain ⟨v3, ob3, fv3, fo3, fp3⟩ := hF 16 (of_decide_eq_true (by kernel_rfl)) (of_decide_eq_true (by kernel_rfl))
          replace fv3 : a.tmps.getD 3 undef = v3 := eval_slot (s := 3) fv3
          have hbx := hG.below
          have hnx := hG.new
          rw [hG.frame]
          simp only [List.foldl_cons, List.foldl_nil, List.setIfInBounds_toArray, List.set_cons_zero, List.set_cons_succ]
          generalize a.tmps.getD 15 undef = u15
          generalize a.tmps.getD 16 undef = u16
          generalize a.tmps.getD 17 undef = u17
          generalize a.tmps.getD 18 undef = u18
          generalize a.tmps.getD 19 undef = u19
          generalize a.tmps.getD 20 undef = u20
          generalize a.tmps.getD 21 undef = u21
          generalize a.tmps.getD 22 undef = u22
          generalize a.tmps.getD 23 undef = u23
          generalize a.tmps.getD 24 undef = u24
          generalize a.tmps.getD 25 undef = u25
          generalize a.tmps.getD 26 undef = u26
          generalize a.tmps.getD 27 undef = u27
          generalize a.tmps.getD 28 undef = u28
          generalize a.tmps.getD 29 undef = u29
          generalize a.tmps.getD 30 undef = u30
          rw [fv3]
          clear hF hG fv3
          obtain ⟨hrow, -⟩ := fp3
          have HRW := Lib.hid hrow; have HBN := Lib.hid hbx
          clear fo3 hrow hbx hnx
          go_wp2
          go_roundw
          case rel => exact ⟨k + 1, L2, by omega, by omega, by go_num, HLN.out, Lib.hid (by rw [HTK.out, HL2E.out, HACC.out]; rfl), HRW.out, HBN⟩
          case measure => simp [intOf]; omega
      · have hout : acc = L := by
          rw [HACC.out, ← HL.out]
          unfold fewK
          have : k = 30 := by omega
          rw [this]
        subst hout
        go_wp2
        go_ret
        exact ⟨_, rfl, hown, HB.out⟩
    · have hout : acc = L := by
        have e : k = n := by omega
        rw [HACC.out, ← HL.out]
        unfold fewK
        rw [List.take_of_length_le (i := k) (by rw [HN.out]; omega), List.take_of_length_le (i := 30) (by rw [HN.out]; omega)]
      subst hout
      go_wp2
      go_ret
      exact ⟨_, rfl, hown, HB.out⟩
theorem lfew_any (V : Value) (l : List Ne) (w : World) (hV : Nes w V l) (hf : ∀ d ∈ l, fitNe d) :
    Calls Try.prog 6 #[V] w fun e w' => ∃ a c, e = .returned (.slice a (fewK l).length c) ∧ Nes w' (.slice a (fewK l).length c) (fewK l) ∧ Below w.heap.size w w' :=
  (lfewo_any V l w hV hf).mono fun e w' ⟨v, he, ho, hb⟩ => by
    obtain ⟨a, c, rfl, hn⟩ := nesO ho
    exact ⟨a, c, he, hn, hb⟩

/-! ### Are lacks the same -/
theorem idx_lk {w : World} {b off n c k : Nat} (h : k < n) : (Instr.indexAt 26 (.slice (some ⟨b, off, none⟩) n c) (.int .i64 (k : Int))).run Try.prog w = .ok (.pointer (some ⟨b, off + k * 4, none⟩)) w := by
  have h1 : (0 : Int) ≤ (k : Int) := by omega
  have h3 : (k : Int) < (n : Int) := by omega
  go_simp
theorem ld_bool {w : World} {g i : Nat} {x : Bool} (h : w.cell? ⟨g, i, none⟩ = some (.bool x)) : Sem.run Try.prog (Instr.loadAt 4 (.pointer (some ⟨g, i, none⟩))) w = .ok (.bool x) w := by
  go_simp
theorem ld_nds {w : World} {g i n c : Nat} {A : Option Addr} (h : w.cell? ⟨g, i, none⟩ = some (.slice A n c)) : Sem.run Try.prog (Instr.loadAt 22 (.pointer (some ⟨g, i, none⟩))) w = .ok (.slice A n c) w := by
  go_simp
theorem neq_nds {p v p' v' : List UInt8} {b : Bool} {w : World} (h : decide ((p, v) = (p', v')) = !b) : Sem.run Try.prog (binOp .neq 31 (.agg #[.string (mkB p), .string (mkB v)]) (.agg #[.string (mkB p'), .string (mkB v')])) w = .ok (.bool b) w := by
  rw [neq_nd, h, Bool.not_not]
theorem neq_bool {x y b : Bool} {w : World} (h : decide (x = y) = !b) : Sem.run Try.prog (binOp .neq 4 (.bool x) (.bool y)) w = .ok (.bool b) w := by
  have e : (x == y) = !b := by cases x <;> cases y <;> cases b <;> simp_all
  go_simp
theorem lk_dec {x y : Lk} : decide (x = y) = (decide (x.1 = y.1) && (decide (x.2.2 = y.2.2) && decide (x.2.1 = y.2.1))) := by
  obtain ⟨a, b, c⟩ := x
  obtain ⟨a', b', c'⟩ := y
  by_cases h1 : a = a' <;> by_cases h2 : b = b' <;> by_cases h3 : c = c' <;> simp [h1, h2, h3]

set_option maxHeartbeats 6400000 in
theorem refsameK_any (U V : Value) (ns ms : List Lk) (w : World) (hu : Lks w U ns) (hv : Lks w V ms) :
    Calls Try.prog 9 #[U, V] w fun e w' => e = .returned (.bool (decide (ns = ms))) ∧ Below w.heap.size w w' := by
  obtain ⟨a, c, rfl, h1, h2, -, -⟩ := hu.ex
  obtain ⟨a', c', rfl, h1', h2', -, -⟩ := hv.ex
  unfold maxLen at h2 h2'
  obtain ⟨n, hn⟩ : ∃ n, ns.length = n := ⟨_, rfl⟩
  obtain ⟨m, hm⟩ : ∃ m, ms.length = m := ⟨_, rfl⟩
  rw [hn] at h1 hu ⊢
  rw [hm] at h1' hv ⊢
  obtain ⟨R, hR⟩ : ∃ R, decide (ns = ms) = R := ⟨_, rfl⟩
  rw [hR]
  have HN := Lib.hid hn; have HM := Lib.hid hm; have SU := Lib.hid hu; have SV := Lib.hid hv; have HR := Lib.hid hR
  clear hu hv hn hm hR
  have e1 : ∀ args w, (callFunc 10 args).run Try.prog w = .ok (.enter 10 args) w := enters_of Try.func10 (by kernel_rfl) rfl
  by_cases hl : n = m
  · subst hl
    have h0 : ((n : Int) != (n : Int)) = false := by simp
    go_enter Try.func9, Try.ntmps9
    go_wp2
    go_loopw [5] (fun i wr => ∃ k : Nat, k ≤ n ∧ i = .int .i64 k ∧ Hid (ns.take k = ms.take k) ∧ Hid (Below w.heap.size w wr)) (fun i _ => n - (intOf i).toNat)
    case atStart => exact ⟨0, Nat.zero_le _, rfl, Lib.hid (by simp), Lib.hid (Below.refl _ _)⟩
    case round =>
      obtain ⟨k, hk, rfl, H, HB⟩ := hrel
      by_cases hlt : k < n
      · have hkl : k < ns.length := by rw [HN.out]; exact hlt
        have hkm : k < ms.length := by rw [HM.out]; exact hlt
        obtain ⟨bx, ox, ax, nx, cx, rfl, hc0, hc1, hc2, hc3, hsx⟩ := (SU.out.below HB.out).at k hkl
        obtain ⟨bj, oy, ay, ny, cy, rfl, hd0, hd1, hd2, hd3, hsy⟩ := (SV.out.below HB.out).at k hkm
        have e1' := lk_take hkl
        have e2' := lk_take hkm
        obtain ⟨x, hx⟩ : ∃ x, x = ns.getD k zLk := ⟨_, rfl⟩
        obtain ⟨y, hy⟩ : ∃ y, y = ms.getD k zLk := ⟨_, rfl⟩
        rw [← hx] at hc0 hc1 hc3 hsx e1'
        rw [← hy] at hd0 hd1 hd3 hsy e2'
        obtain ⟨⟨x1, x2⟩, x3, x4⟩ := x
        obtain ⟨⟨y1, y2⟩, y3, y4⟩ := y
        simp only at hc0 hc1 hc3 hd0 hd1 hd3 hsx hsy
        have kc := fun w h h' => nsame_any (.slice ax nx cx) (.slice ay ny cy) x3 y3 w h h'
        have h7 := lk_dec (x := ((x1, x2), x3, x4)) (y := ((y1, y2), y3, y4))
        simp only at h7
        obtain ⟨o, ho⟩ : ∃ o, decide ((x1, x2) = (y1, y2)) = o := ⟨_, rfl⟩
        obtain ⟨t, ht⟩ : ∃ o, decide (x4 = y4) = o := ⟨_, rfl⟩
        obtain ⟨v, hv⟩ : ∃ o, decide (x3 = y3) = o := ⟨_, rfl⟩
        rw [hv] at kc
        rw [ho, ht, hv] at h7
        have hno : (o && (t && v)) = false → R = false := fun q => by
          rw [← HR.out]; refine decide_eq_false fun e => ?_
          rw [e, e2'] at e1'
          have h6 := List.append_inj_right' e1' rfl
          simp only [List.cons.injEq, and_true] at h6
          rw [q] at h7
          exact of_decide_eq_false h7 h6.symm
        have hyes : (o && (t && v)) = true → ns.take (k + 1) = ms.take (k + 1) := fun q => by
          rw [q] at h7
          rw [e1', e2', H.out, of_decide_eq_true h7]
        have HNO0 := Lib.hid hno; have HY0 := Lib.hid hyes; have HO := Lib.hid ho; have HT := Lib.hid ht; have KC := Lib.hid kc; have SX := Lib.hid hsx; have SY := Lib.hid hsy; have C0 := Lib.hid hc0; have C1 := Lib.hid hc1; have C2 := Lib.hid hc2; have C3 := Lib.hid hc3; have E0 := Lib.hid hd0; have E1 := Lib.hid hd1; have E2 := Lib.hid hd2; have E3 := Lib.hid hd3; have HKN := Lib.hid hlt; have HNW := Lib.hid (Nat.le_refl wr.heap.size)
        clear hno hyes ho ht hv kc hsx hsy hc0 hc1 hc2 hc3 hd0 hd1 hd2 hd3 e1' e2' hx hy h7
        have hkb : (k : Int) < (n : Int) := by omega
        go_upto_region 6 with fail
        cases o with
        | false =>
          have HNO := Lib.hid (HNO0.out rfl)
          have HPQ : Hid (decide ((x1, x2) = (y1, y2)) = !true) := HO
          refine rol_run (by kernel_rfl) [[], [], [0, 1], [2], [3], [], [], [5, 6], [7], [8], [4, 9], [10], [11], [11], [11], [11], [11], [11], [11], [11], [11], [11], [11], [11], [23], [24], [24], [24], [24], [24], [24], [24], [24], [24], [24], [24], [24], [24]] (by kernel_rfl) [17, 18, 19, 20, 21, 22, 23, 24, 25, 26, 27, 28, 29, 30, 31, 32, 33, 34, 35, 36, 37, 38, 39, 40, 41, 42, 43, 44, 45, 46, 47, 48, 49, 50, 51, 52, 53, 54] [[], [], [0, 1], [2], [3], [], [], [5, 6], [7], [8], [4, 9], [10], [11], [11], [11], [11], [11], [11], [11], [11], [11], [11], [11], [11], [23], [24], [24], [24], [24], [24], [24], [24], [24], [24], [24], [24], [24], [24]] (List.replicate 38 0) (List.replicate 38 0) (List.replicate 38 1000) [.val 17 (.slice (some ⟨bx, ox, none⟩) n c), .val 18 (.int .i64 (k : Int)), .val 19 (.pointer (some ⟨bx, ox + k * 4, none⟩)), .val 20 (.pointer (some ⟨bx, ox + k * 4, none⟩)), .val 21 (.agg #[.string (mkB x1), .string (mkB x2)]), .val 22 (.slice (some ⟨bj, oy, none⟩) n c'), .val 23 (.int .i64 (k : Int)), .val 24 (.pointer (some ⟨bj, oy + k * 4, none⟩)), .val 25 (.pointer (some ⟨bj, oy + k * 4, none⟩)), .val 26 (.agg #[.string (mkB y1), .string (mkB y2)]), .val 27 (.bool true), .val 28 (.bool true), .val 29 undef, .val 30 undef, .val 31 undef, .val 32 undef, .val 33 undef, .val 34 undef, .val 35 undef, .val 36 undef, .val 37 undef, .val 38 undef, .val 39 undef, .val 40 (.bool true), .val 41 (.bool true), .val 42 undef, .val 43 undef, .val 44 undef, .val 45 undef, .val 46 undef, .val 47 undef, .val 48 undef, .val 49 undef, .val 50 undef, .val 51 undef, .val 52 undef, .val 53 undef, .val 54 (.bool true)] (by kernel_rfl) ?_ (wr.heap.size) (wr.heap.size) rfl (Below.refl _ _) rfl (fun _ => 0) ?_ ?_ ?_
          · intro j hj
            have hj3 : j < 38 := hj
            clear hj
            revert j
            iterate 38 refine lt_step ?_ ?_
            · exact lt_none
            all_goals exact trivial
          · intro j hj0 hj
            exact absurd hj (Nat.not_lt.2 hj0)
          · intro i hi
            have hi3 : i < 38 := hi
            clear hi
            revert i
            iterate 38 refine lt_step ?_ ?_
            · exact lt_none
            all_goals intro a wx who hG hF
            all_goals have hz : a.tmps.size = 55 := hG.size
            · exact rv rfl rfl rfl hz rfl (ex_move (Or.inl rfl) (eval_slot ((hG.slots 0 (by decide)).trans rfl))) hG
            · exact rv rfl rfl rfl hz rfl (ex_move (Or.inl rfl) (eval_slot ((hG.slots 5 (by decide)).trans rfl))) hG
            · exact rv rfl rfl rfl hz rfl (ex_index rfl (ev hF 0 rfl rfl) (ev hF 1 rfl rfl) (idx_lk HKN.out)) hG
            · exact rv rfl rfl rfl hz rfl (ex_field rfl (ev hF 2 rfl rfl) (by go_simp)) hG
            · exact rv rfl rfl rfl hz rfl (ex_load rfl (ev hF 3 rfl rfl) (ld_node (cell_keep C0.out hG.below) (cell_keep C1.out hG.below))) hG
            · exact rv rfl rfl rfl hz rfl (ex_move (Or.inl rfl) (eval_slot ((hG.slots 1 (by decide)).trans rfl))) hG
            · exact rv rfl rfl rfl hz rfl (ex_move (Or.inl rfl) (eval_slot ((hG.slots 5 (by decide)).trans rfl))) hG
            · exact rv rfl rfl rfl hz rfl (ex_index rfl (ev hF 5 rfl rfl) (ev hF 6 rfl rfl) (idx_lk HKN.out)) hG
            · exact rv rfl rfl rfl hz rfl (ex_field rfl (ev hF 7 rfl rfl) (by go_simp)) hG
            · exact rv rfl rfl rfl hz rfl (ex_load rfl (ev hF 8 rfl rfl) (ld_node (cell_keep E0.out hG.below) (cell_keep E1.out hG.below))) hG
            · exact rv rfl rfl rfl hz rfl (ex_bin rfl (ev hF 4 rfl rfl) (ev hF 9 rfl rfl) (guard_nd _ _ _ _ _ _) (neq_nds HPQ.out)) hG
            · exact rv rfl rfl rfl hz rfl (ex_move (Or.inl rfl) (ev hF 10 rfl rfl)) hG
            iterate 11 exact rn rfl hF 11 rfl rfl rfl rfl rfl rfl hz rfl hG
            · exact rv rfl rfl rfl hz rfl (ex_pick_yes rfl (ev hF 11 rfl rfl) rfl) hG
            · exact rv rfl rfl rfl hz rfl (ex_move (Or.inl rfl) (ev hF 23 rfl rfl)) hG
            iterate 12 exact rn rfl hF 24 rfl rfl rfl rfl rfl rfl hz rfl hG
            · exact rv rfl rfl rfl hz rfl (ex_pick_yes rfl (ev hF 24 rfl rfl) rfl) hG
          · intro a wx who hG hF
            have fv54 : a.tmps.getD 54 undef = .bool true := eval_slot (s := 54) (hF 37 (of_decide_eq_true (by kernel_rfl)) (of_decide_eq_true (by kernel_rfl)))
            have hbx := hG.below
            have hnx := hG.new
            rw [hG.frame]
            simp only [List.foldl_cons, List.foldl_nil, List.setIfInBounds_toArray, List.set_cons_zero, List.set_cons_succ]
            rw [fv54]
            generalize Array.getD a.tmps = uu
            clear hF hG fv54
            have HB6 := Lib.hid (below_step HB.out hbx)
            clear hbx hnx
            go_wp2
            go_ret
            exact ⟨by rw [HNO.out]; rfl, HB6.out⟩
        | true =>
          have HPQ : Hid (decide ((x1, x2) = (y1, y2)) = !false) := HO
          cases t with
          | false =>
            have HNO := Lib.hid (HNO0.out rfl)
            have HRT : Hid (decide (x4 = y4) = !true) := HT
            refine rol_run (by kernel_rfl) [[], [], [0, 1], [2], [3], [], [], [5, 6], [7], [8], [4, 9], [10], [11], [11], [11, 12, 13], [11, 14], [11, 15], [11], [11], [11, 17, 18], [11, 19], [11, 20], [11, 16, 21], [11, 22], [23], [24], [24], [24], [24], [24], [24], [24], [24], [24], [24], [24], [24], [24]] (by kernel_rfl) [17, 18, 19, 20, 21, 22, 23, 24, 25, 26, 27, 28, 29, 30, 31, 32, 33, 34, 35, 36, 37, 38, 39, 40, 41, 42, 43, 44, 45, 46, 47, 48, 49, 50, 51, 52, 53, 54] [[], [], [0, 1], [2], [3], [], [], [5, 6], [7], [8], [4, 9], [10], [11], [11], [11, 12, 13], [11, 14], [11, 15], [11], [11], [11, 17, 18], [11, 19], [11, 20], [11, 16, 21], [11, 22], [23], [24], [24], [24], [24], [24], [24], [24], [24], [24], [24], [24], [24], [24]] (List.replicate 38 0) (List.replicate 38 0) (List.replicate 38 1000) [.val 17 (.slice (some ⟨bx, ox, none⟩) n c), .val 18 (.int .i64 (k : Int)), .val 19 (.pointer (some ⟨bx, ox + k * 4, none⟩)), .val 20 (.pointer (some ⟨bx, ox + k * 4, none⟩)), .val 21 (.agg #[.string (mkB x1), .string (mkB x2)]), .val 22 (.slice (some ⟨bj, oy, none⟩) n c'), .val 23 (.int .i64 (k : Int)), .val 24 (.pointer (some ⟨bj, oy + k * 4, none⟩)), .val 25 (.pointer (some ⟨bj, oy + k * 4, none⟩)), .val 26 (.agg #[.string (mkB y1), .string (mkB y2)]), .val 27 (.bool false), .val 28 (.bool false), .val 29 (.slice (some ⟨bx, ox, none⟩) n c), .val 30 (.int .i64 (k : Int)), .val 31 (.pointer (some ⟨bx, ox + k * 4, none⟩)), .val 32 (.pointer (some ⟨bx, ox + k * 4 + 3, none⟩)), .val 33 (.bool x4), .val 34 (.slice (some ⟨bj, oy, none⟩) n c'), .val 35 (.int .i64 (k : Int)), .val 36 (.pointer (some ⟨bj, oy + k * 4, none⟩)), .val 37 (.pointer (some ⟨bj, oy + k * 4 + 3, none⟩)), .val 38 (.bool y4), .val 39 (.bool true), .val 40 (.bool true), .val 41 (.bool true), .val 42 undef, .val 43 undef, .val 44 undef, .val 45 undef, .val 46 undef, .val 47 undef, .val 48 undef, .val 49 undef, .val 50 undef, .val 51 undef, .val 52 undef, .val 53 undef, .val 54 (.bool true)] (by kernel_rfl) ?_ (wr.heap.size) (wr.heap.size) rfl (Below.refl _ _) rfl (fun _ => 0) ?_ ?_ ?_
            · intro j hj
              have hj3 : j < 38 := hj
              clear hj
              revert j
              iterate 38 refine lt_step ?_ ?_
              · exact lt_none
              all_goals exact trivial
            · intro j hj0 hj
              exact absurd hj (Nat.not_lt.2 hj0)
            · intro i hi
              have hi3 : i < 38 := hi
              clear hi
              revert i
              iterate 38 refine lt_step ?_ ?_
              · exact lt_none
              all_goals intro a wx who hG hF
              all_goals have hz : a.tmps.size = 55 := hG.size
              · exact rv rfl rfl rfl hz rfl (ex_move (Or.inl rfl) (eval_slot ((hG.slots 0 (by decide)).trans rfl))) hG
              · exact rv rfl rfl rfl hz rfl (ex_move (Or.inl rfl) (eval_slot ((hG.slots 5 (by decide)).trans rfl))) hG
              · exact rv rfl rfl rfl hz rfl (ex_index rfl (ev hF 0 rfl rfl) (ev hF 1 rfl rfl) (idx_lk HKN.out)) hG
              · exact rv rfl rfl rfl hz rfl (ex_field rfl (ev hF 2 rfl rfl) (by go_simp)) hG
              · exact rv rfl rfl rfl hz rfl (ex_load rfl (ev hF 3 rfl rfl) (ld_node (cell_keep C0.out hG.below) (cell_keep C1.out hG.below))) hG
              · exact rv rfl rfl rfl hz rfl (ex_move (Or.inl rfl) (eval_slot ((hG.slots 1 (by decide)).trans rfl))) hG
              · exact rv rfl rfl rfl hz rfl (ex_move (Or.inl rfl) (eval_slot ((hG.slots 5 (by decide)).trans rfl))) hG
              · exact rv rfl rfl rfl hz rfl (ex_index rfl (ev hF 5 rfl rfl) (ev hF 6 rfl rfl) (idx_lk HKN.out)) hG
              · exact rv rfl rfl rfl hz rfl (ex_field rfl (ev hF 7 rfl rfl) (by go_simp)) hG
              · exact rv rfl rfl rfl hz rfl (ex_load rfl (ev hF 8 rfl rfl) (ld_node (cell_keep E0.out hG.below) (cell_keep E1.out hG.below))) hG
              · exact rv rfl rfl rfl hz rfl (ex_bin rfl (ev hF 4 rfl rfl) (ev hF 9 rfl rfl) (guard_nd _ _ _ _ _ _) (neq_nds HPQ.out)) hG
              · exact rv rfl rfl rfl hz rfl (ex_move (Or.inl rfl) (ev hF 10 rfl rfl)) hG
              · exact ry rfl hF 11 rfl rfl rfl rfl rfl hz rfl (ex_move (Or.inl rfl) (eval_slot ((hG.slots 0 (by decide)).trans rfl))) hG
              · exact ry rfl hF 11 rfl rfl rfl rfl rfl hz rfl (ex_move (Or.inl rfl) (eval_slot ((hG.slots 5 (by decide)).trans rfl))) hG
              · exact ry rfl hF 11 rfl rfl rfl rfl rfl hz rfl (ex_index rfl (ev hF 12 rfl rfl) (ev hF 13 rfl rfl) (idx_lk HKN.out)) hG
              · exact ry rfl hF 11 rfl rfl rfl rfl rfl hz rfl (ex_field rfl (ev hF 14 rfl rfl) (by go_simp)) hG
              · exact ry rfl hF 11 rfl rfl rfl rfl rfl hz rfl (ex_load rfl (ev hF 15 rfl rfl) (ld_bool (cell_keep C3.out hG.below))) hG
              · exact ry rfl hF 11 rfl rfl rfl rfl rfl hz rfl (ex_move (Or.inl rfl) (eval_slot ((hG.slots 1 (by decide)).trans rfl))) hG
              · exact ry rfl hF 11 rfl rfl rfl rfl rfl hz rfl (ex_move (Or.inl rfl) (eval_slot ((hG.slots 5 (by decide)).trans rfl))) hG
              · exact ry rfl hF 11 rfl rfl rfl rfl rfl hz rfl (ex_index rfl (ev hF 17 rfl rfl) (ev hF 18 rfl rfl) (idx_lk HKN.out)) hG
              · exact ry rfl hF 11 rfl rfl rfl rfl rfl hz rfl (ex_field rfl (ev hF 19 rfl rfl) (by go_simp)) hG
              · exact ry rfl hF 11 rfl rfl rfl rfl rfl hz rfl (ex_load rfl (ev hF 20 rfl rfl) (ld_bool (cell_keep E3.out hG.below))) hG
              · exact ry rfl hF 11 rfl rfl rfl rfl rfl hz rfl (ex_bin rfl (ev hF 16 rfl rfl) (ev hF 21 rfl rfl) (by go_simp) (neq_bool HRT.out)) hG
              · exact rv rfl rfl rfl hz rfl (ex_pick_no rfl (ev hF 11 rfl rfl) (ev hF 22 rfl rfl)) hG
              · exact rv rfl rfl rfl hz rfl (ex_move (Or.inl rfl) (ev hF 23 rfl rfl)) hG
              iterate 12 exact rn rfl hF 24 rfl rfl rfl rfl rfl rfl hz rfl hG
              · exact rv rfl rfl rfl hz rfl (ex_pick_yes rfl (ev hF 24 rfl rfl) rfl) hG
            · intro a wx who hG hF
              have fv54 : a.tmps.getD 54 undef = .bool true := eval_slot (s := 54) (hF 37 (of_decide_eq_true (by kernel_rfl)) (of_decide_eq_true (by kernel_rfl)))
              have hbx := hG.below
              have hnx := hG.new
              rw [hG.frame]
              simp only [List.foldl_cons, List.foldl_nil, List.setIfInBounds_toArray, List.set_cons_zero, List.set_cons_succ]
              rw [fv54]
              generalize Array.getD a.tmps = uu
              clear hF hG fv54
              have HB6 := Lib.hid (below_step HB.out hbx)
              clear hbx hnx
              go_wp2
              go_ret
              exact ⟨by rw [HNO.out]; rfl, HB6.out⟩
          | true =>
            have HRT : Hid (decide (x4 = y4) = !false) := HT
            cases v with
            | false =>
              have HNO := Lib.hid (HNO0.out rfl)
              refine rol_run (by kernel_rfl) [[], [], [0, 1], [2], [3], [], [], [5, 6], [7], [8], [4, 9], [10], [11], [11], [11, 12, 13], [11, 14], [11, 15], [11], [11], [11, 17, 18], [11, 19], [11, 20], [11, 16, 21], [11, 22], [23], [24], [24], [24, 25, 26], [24, 27], [24, 28], [24], [24], [24, 30, 31], [24, 32], [24, 33], [24, 29, 34], [24, 35], [24, 36]] (by kernel_rfl) [17, 18, 19, 20, 21, 22, 23, 24, 25, 26, 27, 28, 29, 30, 31, 32, 33, 34, 35, 36, 37, 38, 39, 40, 41, 42, 43, 44, 45, 46, 47, 48, 49, 50, 51, 52, 53, 54] [[], [], [0, 1], [2], [3], [], [], [5, 6], [7], [8], [4, 9], [10], [11], [11], [11, 12, 13], [11, 14], [11, 15], [11], [11], [11, 17, 18], [11, 19], [11, 20], [11, 16, 21], [11, 22], [23], [24], [24], [24, 25, 26], [24, 27], [24, 28], [24], [24], [24, 30, 31], [24, 32], [24, 33], [24, 29, 34], [24, 35], [24, 36]] (List.replicate 38 0) (List.replicate 38 0) (List.replicate 38 1000) [.val 17 (.slice (some ⟨bx, ox, none⟩) n c), .val 18 (.int .i64 (k : Int)), .val 19 (.pointer (some ⟨bx, ox + k * 4, none⟩)), .val 20 (.pointer (some ⟨bx, ox + k * 4, none⟩)), .val 21 (.agg #[.string (mkB x1), .string (mkB x2)]), .val 22 (.slice (some ⟨bj, oy, none⟩) n c'), .val 23 (.int .i64 (k : Int)), .val 24 (.pointer (some ⟨bj, oy + k * 4, none⟩)), .val 25 (.pointer (some ⟨bj, oy + k * 4, none⟩)), .val 26 (.agg #[.string (mkB y1), .string (mkB y2)]), .val 27 (.bool false), .val 28 (.bool false), .val 29 (.slice (some ⟨bx, ox, none⟩) n c), .val 30 (.int .i64 (k : Int)), .val 31 (.pointer (some ⟨bx, ox + k * 4, none⟩)), .val 32 (.pointer (some ⟨bx, ox + k * 4 + 3, none⟩)), .val 33 (.bool x4), .val 34 (.slice (some ⟨bj, oy, none⟩) n c'), .val 35 (.int .i64 (k : Int)), .val 36 (.pointer (some ⟨bj, oy + k * 4, none⟩)), .val 37 (.pointer (some ⟨bj, oy + k * 4 + 3, none⟩)), .val 38 (.bool y4), .val 39 (.bool false), .val 40 (.bool false), .val 41 (.bool false), .val 42 (.slice (some ⟨bx, ox, none⟩) n c), .val 43 (.int .i64 (k : Int)), .val 44 (.pointer (some ⟨bx, ox + k * 4, none⟩)), .val 45 (.pointer (some ⟨bx, ox + k * 4 + 2, none⟩)), .val 46 (.slice ax nx cx), .val 47 (.slice (some ⟨bj, oy, none⟩) n c'), .val 48 (.int .i64 (k : Int)), .val 49 (.pointer (some ⟨bj, oy + k * 4, none⟩)), .val 50 (.pointer (some ⟨bj, oy + k * 4 + 2, none⟩)), .val 51 (.slice ay ny cy), .val 52 (.bool false), .val 53 (.bool true), .val 54 (.bool true)] (by kernel_rfl) ?_ (wr.heap.size) (wr.heap.size) rfl (Below.refl _ _) rfl (fun _ => 0) ?_ ?_ ?_
              · intro j hj
                have hj3 : j < 38 := hj
                clear hj
                revert j
                iterate 38 refine lt_step ?_ ?_
                · exact lt_none
                all_goals exact trivial
              · intro j hj0 hj
                exact absurd hj (Nat.not_lt.2 hj0)
              · intro i hi
                have hi3 : i < 38 := hi
                clear hi
                revert i
                iterate 38 refine lt_step ?_ ?_
                · exact lt_none
                all_goals intro a wx who hG hF
                all_goals have hz : a.tmps.size = 55 := hG.size
                · exact rv rfl rfl rfl hz rfl (ex_move (Or.inl rfl) (eval_slot ((hG.slots 0 (by decide)).trans rfl))) hG
                · exact rv rfl rfl rfl hz rfl (ex_move (Or.inl rfl) (eval_slot ((hG.slots 5 (by decide)).trans rfl))) hG
                · exact rv rfl rfl rfl hz rfl (ex_index rfl (ev hF 0 rfl rfl) (ev hF 1 rfl rfl) (idx_lk HKN.out)) hG
                · exact rv rfl rfl rfl hz rfl (ex_field rfl (ev hF 2 rfl rfl) (by go_simp)) hG
                · exact rv rfl rfl rfl hz rfl (ex_load rfl (ev hF 3 rfl rfl) (ld_node (cell_keep C0.out hG.below) (cell_keep C1.out hG.below))) hG
                · exact rv rfl rfl rfl hz rfl (ex_move (Or.inl rfl) (eval_slot ((hG.slots 1 (by decide)).trans rfl))) hG
                · exact rv rfl rfl rfl hz rfl (ex_move (Or.inl rfl) (eval_slot ((hG.slots 5 (by decide)).trans rfl))) hG
                · exact rv rfl rfl rfl hz rfl (ex_index rfl (ev hF 5 rfl rfl) (ev hF 6 rfl rfl) (idx_lk HKN.out)) hG
                · exact rv rfl rfl rfl hz rfl (ex_field rfl (ev hF 7 rfl rfl) (by go_simp)) hG
                · exact rv rfl rfl rfl hz rfl (ex_load rfl (ev hF 8 rfl rfl) (ld_node (cell_keep E0.out hG.below) (cell_keep E1.out hG.below))) hG
                · exact rv rfl rfl rfl hz rfl (ex_bin rfl (ev hF 4 rfl rfl) (ev hF 9 rfl rfl) (guard_nd _ _ _ _ _ _) (neq_nds HPQ.out)) hG
                · exact rv rfl rfl rfl hz rfl (ex_move (Or.inl rfl) (ev hF 10 rfl rfl)) hG
                · exact ry rfl hF 11 rfl rfl rfl rfl rfl hz rfl (ex_move (Or.inl rfl) (eval_slot ((hG.slots 0 (by decide)).trans rfl))) hG
                · exact ry rfl hF 11 rfl rfl rfl rfl rfl hz rfl (ex_move (Or.inl rfl) (eval_slot ((hG.slots 5 (by decide)).trans rfl))) hG
                · exact ry rfl hF 11 rfl rfl rfl rfl rfl hz rfl (ex_index rfl (ev hF 12 rfl rfl) (ev hF 13 rfl rfl) (idx_lk HKN.out)) hG
                · exact ry rfl hF 11 rfl rfl rfl rfl rfl hz rfl (ex_field rfl (ev hF 14 rfl rfl) (by go_simp)) hG
                · exact ry rfl hF 11 rfl rfl rfl rfl rfl hz rfl (ex_load rfl (ev hF 15 rfl rfl) (ld_bool (cell_keep C3.out hG.below))) hG
                · exact ry rfl hF 11 rfl rfl rfl rfl rfl hz rfl (ex_move (Or.inl rfl) (eval_slot ((hG.slots 1 (by decide)).trans rfl))) hG
                · exact ry rfl hF 11 rfl rfl rfl rfl rfl hz rfl (ex_move (Or.inl rfl) (eval_slot ((hG.slots 5 (by decide)).trans rfl))) hG
                · exact ry rfl hF 11 rfl rfl rfl rfl rfl hz rfl (ex_index rfl (ev hF 17 rfl rfl) (ev hF 18 rfl rfl) (idx_lk HKN.out)) hG
                · exact ry rfl hF 11 rfl rfl rfl rfl rfl hz rfl (ex_field rfl (ev hF 19 rfl rfl) (by go_simp)) hG
                · exact ry rfl hF 11 rfl rfl rfl rfl rfl hz rfl (ex_load rfl (ev hF 20 rfl rfl) (ld_bool (cell_keep E3.out hG.below))) hG
                · exact ry rfl hF 11 rfl rfl rfl rfl rfl hz rfl (ex_bin rfl (ev hF 16 rfl rfl) (ev hF 21 rfl rfl) (by go_simp) (neq_bool HRT.out)) hG
                · exact rv rfl rfl rfl hz rfl (ex_pick_no rfl (ev hF 11 rfl rfl) (ev hF 22 rfl rfl)) hG
                · exact rv rfl rfl rfl hz rfl (ex_move (Or.inl rfl) (ev hF 23 rfl rfl)) hG
                · exact ry rfl hF 24 rfl rfl rfl rfl rfl hz rfl (ex_move (Or.inl rfl) (eval_slot ((hG.slots 0 (by decide)).trans rfl))) hG
                · exact ry rfl hF 24 rfl rfl rfl rfl rfl hz rfl (ex_move (Or.inl rfl) (eval_slot ((hG.slots 5 (by decide)).trans rfl))) hG
                · exact ry rfl hF 24 rfl rfl rfl rfl rfl hz rfl (ex_index rfl (ev hF 25 rfl rfl) (ev hF 26 rfl rfl) (idx_lk HKN.out)) hG
                · exact ry rfl hF 24 rfl rfl rfl rfl rfl hz rfl (ex_field rfl (ev hF 27 rfl rfl) (by go_simp)) hG
                · exact ry rfl hF 24 rfl rfl rfl rfl rfl hz rfl (ex_load rfl (ev hF 28 rfl rfl) (ld_nds (cell_keep C2.out hG.below))) hG
                · exact ry rfl hF 24 rfl rfl rfl rfl rfl hz rfl (ex_move (Or.inl rfl) (eval_slot ((hG.slots 1 (by decide)).trans rfl))) hG
                · exact ry rfl hF 24 rfl rfl rfl rfl rfl hz rfl (ex_move (Or.inl rfl) (eval_slot ((hG.slots 5 (by decide)).trans rfl))) hG
                · exact ry rfl hF 24 rfl rfl rfl rfl rfl hz rfl (ex_index rfl (ev hF 30 rfl rfl) (ev hF 31 rfl rfl) (idx_lk HKN.out)) hG
                · exact ry rfl hF 24 rfl rfl rfl rfl rfl hz rfl (ex_field rfl (ev hF 32 rfl rfl) (by go_simp)) hG
                · exact ry rfl hF 24 rfl rfl rfl rfl rfl hz rfl (ex_load rfl (ev hF 33 rfl rfl) (ld_nds (cell_keep E2.out hG.below))) hG
                · refine rol_call rfl (want_yes rfl rfl (hF 24 (by decide))) rfl (by rw [hz]; decide) (ex_call rfl (by simp [eval_slot (hF 29 (by decide)), eval_slot (hF 34 (by decide))]) e1) (KC.out wx (SX.out.below hG.below) (SY.out.below hG.below)) ?_ hG.below (Nat.le_trans HNW.out hG.new)
                  rintro e w1 ⟨rfl, hd1⟩
                  exact ⟨_, rfl, hd1, .inl rfl⟩
                · exact ry rfl hF 24 rfl rfl rfl rfl rfl hz rfl (ex_un rfl (ev hF 35 rfl rfl) rfl) hG
                · exact rv rfl rfl rfl hz rfl (ex_pick_no rfl (ev hF 24 rfl rfl) (ev hF 36 rfl rfl)) hG
              · intro a wx who hG hF
                have fv54 : a.tmps.getD 54 undef = .bool true := eval_slot (s := 54) (hF 37 (of_decide_eq_true (by kernel_rfl)) (of_decide_eq_true (by kernel_rfl)))
                have hbx := hG.below
                have hnx := hG.new
                rw [hG.frame]
                simp only [List.foldl_cons, List.foldl_nil, List.setIfInBounds_toArray, List.set_cons_zero, List.set_cons_succ]
                rw [fv54]
                generalize Array.getD a.tmps = uu
                clear hF hG fv54
                have HB6 := Lib.hid (below_step HB.out hbx)
                clear hbx hnx
                go_wp2
                go_ret
                exact ⟨by rw [HNO.out]; rfl, HB6.out⟩
            | true =>
              have H5 := Lib.hid (HY0.out rfl)
              refine rol_run (by kernel_rfl) [[], [], [0, 1], [2], [3], [], [], [5, 6], [7], [8], [4, 9], [10], [11], [11], [11, 12, 13], [11, 14], [11, 15], [11], [11], [11, 17, 18], [11, 19], [11, 20], [11, 16, 21], [11, 22], [23], [24], [24], [24, 25, 26], [24, 27], [24, 28], [24], [24], [24, 30, 31], [24, 32], [24, 33], [24, 29, 34], [24, 35], [24, 36]] (by kernel_rfl) [17, 18, 19, 20, 21, 22, 23, 24, 25, 26, 27, 28, 29, 30, 31, 32, 33, 34, 35, 36, 37, 38, 39, 40, 41, 42, 43, 44, 45, 46, 47, 48, 49, 50, 51, 52, 53, 54] [[], [], [0, 1], [2], [3], [], [], [5, 6], [7], [8], [4, 9], [10], [11], [11], [11, 12, 13], [11, 14], [11, 15], [11], [11], [11, 17, 18], [11, 19], [11, 20], [11, 16, 21], [11, 22], [23], [24], [24], [24, 25, 26], [24, 27], [24, 28], [24], [24], [24, 30, 31], [24, 32], [24, 33], [24, 29, 34], [24, 35], [24, 36]] (List.replicate 38 0) (List.replicate 38 0) (List.replicate 38 1000) [.val 17 (.slice (some ⟨bx, ox, none⟩) n c), .val 18 (.int .i64 (k : Int)), .val 19 (.pointer (some ⟨bx, ox + k * 4, none⟩)), .val 20 (.pointer (some ⟨bx, ox + k * 4, none⟩)), .val 21 (.agg #[.string (mkB x1), .string (mkB x2)]), .val 22 (.slice (some ⟨bj, oy, none⟩) n c'), .val 23 (.int .i64 (k : Int)), .val 24 (.pointer (some ⟨bj, oy + k * 4, none⟩)), .val 25 (.pointer (some ⟨bj, oy + k * 4, none⟩)), .val 26 (.agg #[.string (mkB y1), .string (mkB y2)]), .val 27 (.bool false), .val 28 (.bool false), .val 29 (.slice (some ⟨bx, ox, none⟩) n c), .val 30 (.int .i64 (k : Int)), .val 31 (.pointer (some ⟨bx, ox + k * 4, none⟩)), .val 32 (.pointer (some ⟨bx, ox + k * 4 + 3, none⟩)), .val 33 (.bool x4), .val 34 (.slice (some ⟨bj, oy, none⟩) n c'), .val 35 (.int .i64 (k : Int)), .val 36 (.pointer (some ⟨bj, oy + k * 4, none⟩)), .val 37 (.pointer (some ⟨bj, oy + k * 4 + 3, none⟩)), .val 38 (.bool y4), .val 39 (.bool false), .val 40 (.bool false), .val 41 (.bool false), .val 42 (.slice (some ⟨bx, ox, none⟩) n c), .val 43 (.int .i64 (k : Int)), .val 44 (.pointer (some ⟨bx, ox + k * 4, none⟩)), .val 45 (.pointer (some ⟨bx, ox + k * 4 + 2, none⟩)), .val 46 (.slice ax nx cx), .val 47 (.slice (some ⟨bj, oy, none⟩) n c'), .val 48 (.int .i64 (k : Int)), .val 49 (.pointer (some ⟨bj, oy + k * 4, none⟩)), .val 50 (.pointer (some ⟨bj, oy + k * 4 + 2, none⟩)), .val 51 (.slice ay ny cy), .val 52 (.bool true), .val 53 (.bool false), .val 54 (.bool false)] (by kernel_rfl) ?_ (wr.heap.size) (wr.heap.size) rfl (Below.refl _ _) rfl (fun _ => 0) ?_ ?_ ?_
              · intro j hj
                have hj3 : j < 38 := hj
                clear hj
                revert j
                iterate 38 refine lt_step ?_ ?_
                · exact lt_none
                all_goals exact trivial
              · intro j hj0 hj
                exact absurd hj (Nat.not_lt.2 hj0)
              · intro i hi
                have hi3 : i < 38 := hi
                clear hi
                revert i
                iterate 38 refine lt_step ?_ ?_
                · exact lt_none
                all_goals intro a wx who hG hF
                all_goals have hz : a.tmps.size = 55 := hG.size
                · exact rv rfl rfl rfl hz rfl (ex_move (Or.inl rfl) (eval_slot ((hG.slots 0 (by decide)).trans rfl))) hG
                · exact rv rfl rfl rfl hz rfl (ex_move (Or.inl rfl) (eval_slot ((hG.slots 5 (by decide)).trans rfl))) hG
                · exact rv rfl rfl rfl hz rfl (ex_index rfl (ev hF 0 rfl rfl) (ev hF 1 rfl rfl) (idx_lk HKN.out)) hG
                · exact rv rfl rfl rfl hz rfl (ex_field rfl (ev hF 2 rfl rfl) (by go_simp)) hG
                · exact rv rfl rfl rfl hz rfl (ex_load rfl (ev hF 3 rfl rfl) (ld_node (cell_keep C0.out hG.below) (cell_keep C1.out hG.below))) hG
                · exact rv rfl rfl rfl hz rfl (ex_move (Or.inl rfl) (eval_slot ((hG.slots 1 (by decide)).trans rfl))) hG
                · exact rv rfl rfl rfl hz rfl (ex_move (Or.inl rfl) (eval_slot ((hG.slots 5 (by decide)).trans rfl))) hG
                · exact rv rfl rfl rfl hz rfl (ex_index rfl (ev hF 5 rfl rfl) (ev hF 6 rfl rfl) (idx_lk HKN.out)) hG
                · exact rv rfl rfl rfl hz rfl (ex_field rfl (ev hF 7 rfl rfl) (by go_simp)) hG
                · exact rv rfl rfl rfl hz rfl (ex_load rfl (ev hF 8 rfl rfl) (ld_node (cell_keep E0.out hG.below) (cell_keep E1.out hG.below))) hG
                · exact rv rfl rfl rfl hz rfl (ex_bin rfl (ev hF 4 rfl rfl) (ev hF 9 rfl rfl) (guard_nd _ _ _ _ _ _) (neq_nds HPQ.out)) hG
                · exact rv rfl rfl rfl hz rfl (ex_move (Or.inl rfl) (ev hF 10 rfl rfl)) hG
                · exact ry rfl hF 11 rfl rfl rfl rfl rfl hz rfl (ex_move (Or.inl rfl) (eval_slot ((hG.slots 0 (by decide)).trans rfl))) hG
                · exact ry rfl hF 11 rfl rfl rfl rfl rfl hz rfl (ex_move (Or.inl rfl) (eval_slot ((hG.slots 5 (by decide)).trans rfl))) hG
                · exact ry rfl hF 11 rfl rfl rfl rfl rfl hz rfl (ex_index rfl (ev hF 12 rfl rfl) (ev hF 13 rfl rfl) (idx_lk HKN.out)) hG
                · exact ry rfl hF 11 rfl rfl rfl rfl rfl hz rfl (ex_field rfl (ev hF 14 rfl rfl) (by go_simp)) hG
                · exact ry rfl hF 11 rfl rfl rfl rfl rfl hz rfl (ex_load rfl (ev hF 15 rfl rfl) (ld_bool (cell_keep C3.out hG.below))) hG
                · exact ry rfl hF 11 rfl rfl rfl rfl rfl hz rfl (ex_move (Or.inl rfl) (eval_slot ((hG.slots 1 (by decide)).trans rfl))) hG
                · exact ry rfl hF 11 rfl rfl rfl rfl rfl hz rfl (ex_move (Or.inl rfl) (eval_slot ((hG.slots 5 (by decide)).trans rfl))) hG
                · exact ry rfl hF 11 rfl rfl rfl rfl rfl hz rfl (ex_index rfl (ev hF 17 rfl rfl) (ev hF 18 rfl rfl) (idx_lk HKN.out)) hG
                · exact ry rfl hF 11 rfl rfl rfl rfl rfl hz rfl (ex_field rfl (ev hF 19 rfl rfl) (by go_simp)) hG
                · exact ry rfl hF 11 rfl rfl rfl rfl rfl hz rfl (ex_load rfl (ev hF 20 rfl rfl) (ld_bool (cell_keep E3.out hG.below))) hG
                · exact ry rfl hF 11 rfl rfl rfl rfl rfl hz rfl (ex_bin rfl (ev hF 16 rfl rfl) (ev hF 21 rfl rfl) (by go_simp) (neq_bool HRT.out)) hG
                · exact rv rfl rfl rfl hz rfl (ex_pick_no rfl (ev hF 11 rfl rfl) (ev hF 22 rfl rfl)) hG
                · exact rv rfl rfl rfl hz rfl (ex_move (Or.inl rfl) (ev hF 23 rfl rfl)) hG
                · exact ry rfl hF 24 rfl rfl rfl rfl rfl hz rfl (ex_move (Or.inl rfl) (eval_slot ((hG.slots 0 (by decide)).trans rfl))) hG
                · exact ry rfl hF 24 rfl rfl rfl rfl rfl hz rfl (ex_move (Or.inl rfl) (eval_slot ((hG.slots 5 (by decide)).trans rfl))) hG
                · exact ry rfl hF 24 rfl rfl rfl rfl rfl hz rfl (ex_index rfl (ev hF 25 rfl rfl) (ev hF 26 rfl rfl) (idx_lk HKN.out)) hG
                · exact ry rfl hF 24 rfl rfl rfl rfl rfl hz rfl (ex_field rfl (ev hF 27 rfl rfl) (by go_simp)) hG
                · exact ry rfl hF 24 rfl rfl rfl rfl rfl hz rfl (ex_load rfl (ev hF 28 rfl rfl) (ld_nds (cell_keep C2.out hG.below))) hG
                · exact ry rfl hF 24 rfl rfl rfl rfl rfl hz rfl (ex_move (Or.inl rfl) (eval_slot ((hG.slots 1 (by decide)).trans rfl))) hG
                · exact ry rfl hF 24 rfl rfl rfl rfl rfl hz rfl (ex_move (Or.inl rfl) (eval_slot ((hG.slots 5 (by decide)).trans rfl))) hG
                · exact ry rfl hF 24 rfl rfl rfl rfl rfl hz rfl (ex_index rfl (ev hF 30 rfl rfl) (ev hF 31 rfl rfl) (idx_lk HKN.out)) hG
                · exact ry rfl hF 24 rfl rfl rfl rfl rfl hz rfl (ex_field rfl (ev hF 32 rfl rfl) (by go_simp)) hG
                · exact ry rfl hF 24 rfl rfl rfl rfl rfl hz rfl (ex_load rfl (ev hF 33 rfl rfl) (ld_nds (cell_keep E2.out hG.below))) hG
                · refine rol_call rfl (want_yes rfl rfl (hF 24 (by decide))) rfl (by rw [hz]; decide) (ex_call rfl (by simp [eval_slot (hF 29 (by decide)), eval_slot (hF 34 (by decide))]) e1) (KC.out wx (SX.out.below hG.below) (SY.out.below hG.below)) ?_ hG.below (Nat.le_trans HNW.out hG.new)
                  rintro e w1 ⟨rfl, hd1⟩
                  exact ⟨_, rfl, hd1, .inl rfl⟩
                · exact ry rfl hF 24 rfl rfl rfl rfl rfl hz rfl (ex_un rfl (ev hF 35 rfl rfl) rfl) hG
                · exact rv rfl rfl rfl hz rfl (ex_pick_no rfl (ev hF 24 rfl rfl) (ev hF 36 rfl rfl)) hG
              · intro a wx who hG hF
                have fv54 : a.tmps.getD 54 undef = .bool false := eval_slot (s := 54) (hF 37 (of_decide_eq_true (by kernel_rfl)) (of_decide_eq_true (by kernel_rfl)))
                have hbx := hG.below
                have hnx := hG.new
                rw [hG.frame]
                simp only [List.foldl_cons, List.foldl_nil, List.setIfInBounds_toArray, List.set_cons_zero, List.set_cons_succ]
                rw [fv54]
                generalize Array.getD a.tmps = uu
                clear hF hG fv54
                have HB6 := Lib.hid (below_step HB.out hbx)
                clear hbx hnx
                go_wp2
                go_roundw
                case rel => exact ⟨k + 1, by omega, by go_num, H5, HB6⟩
                case measure => simp [intOf]; omega
      · go_wp2
        go_ret
        refine ⟨?_, HB.out⟩
        have e : k = n := by omega
        subst e
        have h5 := H.out
        rw [List.take_of_length_le (by rw [HN.out]; exact Nat.le_refl _), List.take_of_length_le (by rw [HM.out]; exact Nat.le_refl _)] at h5
        rw [← HR.out, decide_eq_true h5]; rfl
  · have h0 : ((n : Int) != (m : Int)) = true := by simp; omega
    have HL := Lib.hid hl; clear hl
    go_enter Try.func9, Try.ntmps9
    go_wp2
    go_ret
    refine ⟨?_, Below.refl _ _⟩
    rw [← HR.out, decide_eq_false fun e => HL.out (by rw [← HN.out, ← HM.out, e])]; rfl
end Go.Proofs.Ytjnkjjlpkgbkiaa
