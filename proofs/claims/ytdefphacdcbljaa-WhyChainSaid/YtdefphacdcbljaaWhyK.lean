/- THE TEXTS OF RolO WhyI WhyK: Short forms of what regions by roles say of each operation, where there are many. Some needs of a list; may needs be: the document's; a node is put into a box. The chapter's examples. -/
import Derived.Test.YtdefphacdcbljaaRolM
import Derived.Test.YtdefphacdcbljaaWhyU
namespace Go.Proofs.Ytdefphacdcbljaa
open Go.RowKit
set_option linter.unusedVariables false
set_option maxRecDepth 100000

theorem lt_none {p : Nat → Prop} : ∀ i, i < 0 → p i := fun i h => absurd h (Nat.not_lt_zero i)
theorem lt_step {p : Nat → Prop} {n : Nat} (h : ∀ i, i < n → p i) (hn : p n) : ∀ i, i < n + 1 → p i := fun i hi => by
  rcases Nat.lt_succ_iff_lt_or_eq.1 hi with k | rfl
  · exact h i k
  · exact hn
section
variable {P : Program} {ops : Array Oper} {Q : Exit → Act → World → Prop} {a a0 : Act} {w w0 : World} {who : Nat → Nat} {i B M r ro Z : Nat} {o : Oper} {S pre role : List Nat} {FF : List RLeaf}
theorem rv (ho : ops[i]? = some o) (hw : Region.wanted o (yielded ops a.tmps) = true) {s : Nat} (hd : o.dst = some s) (hz : a.tmps.size = Z) (hs : decide (s < Z) = true) {v : Value} (hr : Sem.run P (execOp a.eval o) w = .ok (.value v) w) (hG : Lane a0 S B M w0 a w) :
    wpOp P ops Q i (RPost ops i r ro (.val s v) B w0 a w who) a w := rol_val ho hw hd (by rw [hz]; exact of_decide_eq_true hs) hr hG.below
theorem hat (hF : ∀ d ∈ pre, (FF.getD d .any).holds (role.getD d 0) a w who) (d : Nat) (hm : pre.contains d = true) {s : Nat} {v : Value} (hk : FF.getD d .any = .val s v) : a.tmps[s]? = some v := by
  have h := hF d (by simpa using hm)
  rw [hk] at h; exact h
theorem ev (hF : ∀ d ∈ pre, (FF.getD d .any).holds (role.getD d 0) a w who) (d : Nat) (hm : pre.contains d = true) {s : Nat} {v : Value} (hk : FF.getD d .any = .val s v) : a.eval (.tmp s) = v := eval_slot (hat hF d hm hk)
theorem ry (ho : ops[i]? = some o) (hF : ∀ d ∈ pre, (FF.getD d .any).holds (role.getD d 0) a w who) (d : Nat) (hm : pre.contains d = true) {t : Nat} {b : Bool} (hk : FF.getD d .any = .val t (.bool b)) (hg : o.guard = some (d, b)) (he : dstOf ops d = some t) {s : Nat} (hd : o.dst = some s) (hz : a.tmps.size = Z) (hs : decide (s < Z) = true) {v : Value} (hr : Sem.run P (execOp a.eval o) w = .ok (.value v) w) (hG : Lane a0 S B M w0 a w) :
    wpOp P ops Q i (RPost ops i r ro (.val s v) B w0 a w who) a w := rv ho (want_yes hg he (hat hF d hm hk)) hd hz hs hr hG
theorem rn (ho : ops[i]? = some o) (hF : ∀ d ∈ pre, (FF.getD d .any).holds (role.getD d 0) a w who) (d : Nat) (hm : pre.contains d = true) {t : Nat} {b b' : Bool} (hk : FF.getD d .any = .val t (.bool b')) (hg : o.guard = some (d, b)) (he : dstOf ops d = some t) (hn : (b' != b) = true) {s : Nat} (hd : o.dst = some s) (hz : a.tmps.size = Z) (hs : decide (s < Z) = true) (hG : Lane a0 S B M w0 a w) :
    wpOp P ops Q i (RPost ops i r ro (.val s undef) B w0 a w who) a w := rol_val_skip ho (want_no hg he (hat hF d hm hk) (by simpa using hn)) hd (by rw [hz]; exact of_decide_eq_true hs) hG.below
theorem ru (ho : ops[i]? = some o) (hF : ∀ d ∈ pre, (FF.getD d .any).holds (role.getD d 0) a w who) (d : Nat) (hm : pre.contains d = true) {t : Nat} {b : Bool} (hk : FF.getD d .any = .val t undef) (hg : o.guard = some (d, b)) (he : dstOf ops d = some t) {s : Nat} (hd : o.dst = some s) (hz : a.tmps.size = Z) (hs : decide (s < Z) = true) (hG : Lane a0 S B M w0 a w) :
    wpOp P ops Q i (RPost ops i r ro (.val s undef) B w0 a w who) a w := rol_val_skip ho (want_undef hg he (hat hF d hm hk)) hd (by rw [hz]; exact of_decide_eq_true hs) hG.below
end
end Go.Proofs.Ytdefphacdcbljaa

namespace Go.Proofs.Ytdefphacdcbljaa
open Go.RowKit Go.ChangeShapes Go.WideShapes
set_option linter.unusedVariables false
set_option maxRecDepth 100000

/-! ### Some needs of a list -/
theorem fld_ne {w : World} {b off : Nat} : Sem.run Try.prog (Instr.fieldAt 39 (.pointer (some ⟨b, off, none⟩)) 0) w = .ok (.pointer (some ⟨b, off, none⟩)) w := by go_simp
theorem fld2_ne {w : World} {b off : Nat} : Sem.run Try.prog (Instr.fieldAt 39 (.pointer (some ⟨b, off, none⟩)) 1) w = .ok (.pointer (some ⟨b, off + 2, none⟩)) w := by go_simp
def oneK (d : Ne) : Ne := (oneN d.1, oneN d.2)
def fewK (l : List Ne) : List Ne := (l.take 30).map oneK
theorem fewK_len (l : List Ne) : (fewK l).length ≤ 30 := by unfold fewK; rw [List.length_map, List.length_take]; omega
theorem fewK_small (l : List Ne) : ∀ d ∈ fewK l, smallN d.1 ∧ smallN d.2 := fun d hd => by
  obtain ⟨x, _, rfl⟩ := List.mem_map.1 hd
  exact ⟨oneN_small x.1, oneN_small x.2⟩
theorem fewK_succ {l : List Ne} {k : Nat} (h : k < l.length) : (l.take (k + 1)).map oneK = (l.take k).map oneK ++ [oneK (l.getD k zNe)] := by
  rw [ne_take h, List.map_append]; rfl
theorem fewK_same {l : List Ne} (h : l.length ≤ 30) (hs : ∀ d ∈ l, d.1.1.length ≤ 400 ∧ d.1.2.length ≤ 400 ∧ d.2.1.length ≤ 400 ∧ d.2.2.length ≤ 400) : fewK l = l := by
  unfold fewK
  rw [List.take_of_length_le h]
  refine (List.map_congr_left fun d hd => ?_).trans (List.map_id _)
  obtain ⟨h1, h2, h3, h4⟩ := hs d hd
  unfold oneK oneN fewL
  rw [List.take_of_length_le h1, List.take_of_length_le h2, List.take_of_length_le h3, List.take_of_length_le h4]; rfl
theorem fewK_texts (l : List Ne) : ∀ d ∈ fewK l, d.1.1.length ≤ 400 ∧ d.1.2.length ≤ 400 ∧ d.2.1.length ≤ 400 ∧ d.2.2.length ≤ 400 := fun d hd => by
  obtain ⟨x, _, rfl⟩ := List.mem_map.1 hd
  exact ⟨fewL_len _, fewL_len _, fewL_len _, fewL_len _⟩
theorem fewK_idem (l : List Ne) : fewK (fewK l) = fewK l := fewK_same (fewK_len l) (fewK_texts l)
set_option maxHeartbeats 3200000 in
theorem lfewo_any (V : Value) (l : List Ne) (w : World) (hV : Nes w V l) (hf : ∀ d ∈ l, fitNe d) :
    Calls Try.prog 6 #[V] w fun e w' => ∃ v, e = .returned v ∧ w'.ownsRow w.heap.size 39 4 v (fewK l).length (neC (fewK l)) ∧ Below w.heap.size w w' := by
  obtain ⟨a, c, rfl, h1, h2, -, -⟩ := hV.ex
  unfold maxLen at h2
  obtain ⟨n, hn⟩ : ∃ n, l.length = n := ⟨_, rfl⟩
  obtain ⟨L, hL⟩ : ∃ L, fewK l = L := ⟨_, rfl⟩
  rw [hL]
  rw [hn] at h1 hV ⊢
  have SV := Lib.hid hV; have HN := Lib.hid hn; have HF := Lib.hid hf; have HL := Lib.hid hL
  have e1 : ∀ args w, (callFunc 7 args).run Try.prog w = .ok (.enter 7 args) w := enters_of Try.func7 (by kernel_rfl) rfl
  clear hV hn hf hL
  go_enter Try.func6, Try.ntmps6
  go_wp2
  go_loopw [3, 4] (fun v i wr => ∃ (k : Nat) (acc : List Ne), k ≤ n ∧ k ≤ 30 ∧ i = .int .i64 k ∧ acc.length = k ∧ Hid (acc = (l.take k).map oneK) ∧ wr.ownsRow w.heap.size 39 4 v acc.length (neC acc) ∧ Hid (Below w.heap.size w wr)) (fun _ i _ => n - (intOf i).toNat)
  case atStart => exact ⟨0, [], Nat.zero_le _, Nat.zero_le _, rfl, rfl, Lib.hid (by simp), World.ownsRow_nil _ _ _ _, Lib.hid (Below.refl _ _)⟩
  case round =>
    obtain ⟨k, acc, hkn, hk8, rfl, hal, HACC, hown, HB⟩ := hrel
    by_cases hlt : k < n
    · by_cases h8 : k < 30
      · have hkl : k < l.length := by rw [HN.out]; exact hlt
        obtain ⟨b, off, rfl, -, cw0, cw1, cw2, cw3⟩ := SV.out.at k hkl
        have htk := fewK_succ hkl
        have hsy : fitNe (l.getD k zNe) := HF.out _ (ne_mem hkl)
        obtain ⟨y, hy⟩ : ∃ y, y = l.getD k zNe := ⟨_, rfl⟩
        rw [← hy] at cw0 cw1 cw2 cw3 htk hsy
        obtain ⟨⟨y1, y2⟩, y3, y4⟩ := y
        simp only at cw0 cw1 cw2 cw3
        have KO := Lib.hid fun w => one_any y1 y2 w hsy.1.1 hsy.1.2
        have KP := Lib.hid fun w => one_any y3 y4 w hsy.2.1 hsy.2.2
        obtain ⟨L2, hl2⟩ : ∃ L, L = acc ++ [((fewL y1, fewL y2), (fewL y3, fewL y4))] := ⟨_, rfl⟩
        have HL2E := Lib.hid hl2; have HOWN := Lib.hid hown; have HTK := Lib.hid htk; have HAL := Lib.hid hal; have HLT := Lib.hid hlt; have HBS := Lib.hid HB.out.size
        have hl2n : L2.length = k + 1 := by rw [hl2, List.length_append, hal]; rfl
        have HLN := Lib.hid hl2n
        have hacn : acc.length ≤ 30 := by omega
        clear hy hsy htk hl2 hl2n hown hal
        go_upto_region 5 with fail
        refine rol_run (by kernel_rfl) [[], [], [], [1, 2], [1, 2, 3], [1, 2, 3, 4], [1, 2, 3, 4, 5], [], [], [7, 8], [7, 8, 9], [7, 8, 9, 10], [1, 2, 3, 4, 5, 6, 7, 8, 9, 10, 11], [1, 2, 3, 4, 5, 6, 7, 8, 9, 10, 11, 12], [1, 2, 3, 4, 5, 6, 7, 8, 9, 10, 11, 12, 13], [0, 1, 2, 3, 4, 5, 6, 7, 8, 9, 10, 11, 12, 13, 14], [0, 1, 2, 3, 4, 5, 6, 7, 8, 9, 10, 11, 12, 13, 14, 15]] (by kernel_rfl) [15, 16, 17, 18, 19, 20, 21, 22, 23, 24, 25, 26, 27, 28, 29, 30, 3] [[18], [], [], [1, 2], [3], [4], [5], [], [], [7, 8], [9], [10], [11], [6, 12], [13], [0, 14, 17], [15]] [0, 0, 0, 0, 0, 0, 0, 0, 0, 0, 0, 0, 0, 0, 5, 1, 1, 1, 0] [0, 0, 0, 0, 0, 0, 0, 0, 0, 0, 0, 0, 0, 0, 0, 1, 0] [1000, 1000, 1000, 1000, 1000, 1000, 1000, 1000, 1000, 1000, 1000, 1000, 1000, 1000, 1000, 1000, 1000, 15, 16] [.val 15 (u3), .val 16 (.slice (some ⟨b, off, none⟩) n c), .val 17 (.int .i64 (k : Int)), .val 18 (.pointer (some ⟨b, off + k * 4, none⟩)), .val 19 (.pointer (some ⟨b, off + k * 4, none⟩)), .val 20 (.agg #[.string (mkB y1), .string (mkB y2)]), .val 21 (.agg #[.string (mkB (fewL y1)), .string (mkB (fewL y2))]), .val 22 (.slice (some ⟨b, off, none⟩) n c), .val 23 (.int .i64 (k : Int)), .val 24 (.pointer (some ⟨b, off + k * 4, none⟩)), .val 25 (.pointer (some ⟨b, off + k * 4 + 2, none⟩)), .val 26 (.agg #[.string (mkB y3), .string (mkB y4)]), .val 27 (.agg #[.string (mkB (fewL y3)), .string (mkB (fewL y4))]), .val 28 (.agg #[.string (mkB (fewL y1)), .string (mkB (fewL y2)), .string (mkB (fewL y3)), .string (mkB (fewL y4))]), .mem 29 (blkG 39 #[.string (mkB (fewL y1)), .string (mkB (fewL y2)), .string (mkB (fewL y3)), .string (mkB (fewL y4))] 1), .mem 30 (rowG w.heap.size 39 4 L2.length (neC L2)), .mem 3 (rowG w.heap.size 39 4 L2.length (neC L2)), .mem 3 (rowX u3 (w.heap.size) 39 4 acc.length (neC acc)), .val 3 (u3)] (by kernel_rfl) ?_ (w.heap.size) (wr.heap.size) rfl HB.out rfl (fun k => if Value.ownBlock u3 = some k then 1 else 0) ?_ ?_ ?_
        · intro j hj
          have hj3 : j < 19 := hj
          have hj2 : j = 0 ∨ j = 1 ∨ j = 2 ∨ j = 3 ∨ j = 4 ∨ j = 5 ∨ j = 6 ∨ j = 7 ∨ j = 8 ∨ j = 9 ∨ j = 10 ∨ j = 11 ∨ j = 12 ∨ j = 13 ∨ j = 14 ∨ j = 15 ∨ j = 16 ∨ j = 17 ∨ j = 18 := by omega
          clear hj hj3
          rcases hj2 with rfl | rfl | rfl | rfl | rfl | rfl | rfl | rfl | rfl | rfl | rfl | rfl | rfl | rfl | rfl | rfl | rfl | rfl | rfl
          · exact trivial
          · exact trivial
          · exact trivial
          · exact trivial
          · exact trivial
          · exact trivial
          · exact trivial
          · exact trivial
          · exact trivial
          · exact trivial
          · exact trivial
          · exact trivial
          · exact trivial
          · exact trivial
          · exact blkG_near
          · exact rowG_near
          · exact rowG_near
          · exact rowX_near
          · exact trivial
        · intro j hj0 hj
          have hj1 : 17 ≤ j := hj0
          have hj3 : j < 19 := hj
          have hj2 : j = 17 ∨ j = 18 := by omega
          clear hj0 hj hj1 hj3
          rcases hj2 with rfl | rfl
          · exact ⟨_, _, rfl, fun b e => ⟨(own_lt HOWN.out e).2, if_pos e⟩, HOWN.out, rfl⟩
          · exact rfl
        · intro i hi a wx who hG hF
          have hz : a.tmps.size = 32 := hG.size
          have hi3 : i < 17 := hi
          have hi2 : i = 0 ∨ i = 1 ∨ i = 2 ∨ i = 3 ∨ i = 4 ∨ i = 5 ∨ i = 6 ∨ i = 7 ∨ i = 8 ∨ i = 9 ∨ i = 10 ∨ i = 11 ∨ i = 12 ∨ i = 13 ∨ i = 14 ∨ i = 15 ∨ i = 16 := by omega
          clear hi hi3
          rcases hi2 with rfl | rfl | rfl | rfl | rfl | rfl | rfl | rfl | rfl | rfl | rfl | rfl | rfl | rfl | rfl | rfl | rfl
          · exact rol_val rfl rfl rfl (by rw [hz]; decide) (ex_move (Or.inl rfl) (eval_slot (hF 18 (by decide)))) hG.below
          · exact rol_val rfl rfl rfl (by rw [hz]; decide) (ex_move (Or.inl rfl) (eval_slot ((hG.slots 0 (by decide)).trans rfl))) hG.below
          · exact rol_val rfl rfl rfl (by rw [hz]; decide) (ex_move (Or.inl rfl) (eval_slot ((hG.slots 4 (by decide)).trans rfl))) hG.below
          · exact rol_val rfl rfl rfl (by rw [hz]; decide) (ex_index rfl (eval_slot (hF 1 (by decide))) (eval_slot (hF 2 (by decide))) (idx_ne HLT.out)) hG.below
          · exact rol_val rfl rfl rfl (by rw [hz]; decide) (ex_field rfl (eval_slot (hF 3 (by decide))) fld_ne) hG.below
          · exact rol_val rfl rfl rfl (by rw [hz]; decide) (ex_load rfl (eval_slot (hF 4 (by decide))) (ld_node (cell_keep cw0 hG.below) (cell_keep cw1 hG.below))) hG.below
          · refine rol_calls rfl rfl rfl (by rw [hz]; decide) (ex_call rfl (by simp [eval_slot (hF 5 (by decide))]) e1) (KO.out wx) ?_ hG.below (Nat.le_trans HBS.out hG.new)
            rintro e w1 ⟨rfl, hb1⟩
            exact ⟨_, rfl, hb1, .inl rfl⟩
          · exact rol_val rfl rfl rfl (by rw [hz]; decide) (ex_move (Or.inl rfl) (eval_slot ((hG.slots 0 (by decide)).trans rfl))) hG.below
          · exact rol_val rfl rfl rfl (by rw [hz]; decide) (ex_move (Or.inl rfl) (eval_slot ((hG.slots 4 (by decide)).trans rfl))) hG.below
          · exact rol_val rfl rfl rfl (by rw [hz]; decide) (ex_index rfl (eval_slot (hF 7 (by decide))) (eval_slot (hF 8 (by decide))) (idx_ne HLT.out)) hG.below
          · exact rol_val rfl rfl rfl (by rw [hz]; decide) (ex_field rfl (eval_slot (hF 9 (by decide))) fld2_ne) hG.below
          · exact rol_val rfl rfl rfl (by rw [hz]; decide) (ex_load rfl (eval_slot (hF 10 (by decide))) (ld_node (cell_keep cw2 hG.below) (cell_keep cw3 hG.below))) hG.below
          · refine rol_calls rfl rfl rfl (by rw [hz]; decide) (ex_call rfl (by simp [eval_slot (hF 11 (by decide))]) e1) (KP.out wx) ?_ hG.below (Nat.le_trans HBS.out hG.new)
            rintro e w1 ⟨rfl, hb1⟩
            exact ⟨_, rfl, hb1, .inl rfl⟩
          · exact rol_val rfl rfl rfl (by rw [hz]; decide) (ex_build rfl (vs := #[(0, .agg #[.string (mkB (fewL y1)), .string (mkB (fewL y2))]), (1, .agg #[.string (mkB (fewL y3)), .string (mkB (fewL y4))])]) (by simp only [List.map_toArray, List.map_cons, List.map_nil, eval_slot (hF 6 (by decide)), eval_slot (hF 12 (by decide))]) build_ne) hG.below
          · exact rol_newO rfl rfl rfl (by rw [hz]; decide) (x := .cells #[.string (mkB (fewL y1)), .string (mkB (fewL y2)), .string (mkB (fewL y3)), .string (mkB (fewL y4))] 39) (v := .slice (some ⟨wx.heap.size, 0, none⟩) 1 1) (ex_slice rfl (vs := #[(0, .agg #[.string (mkB (fewL y1)), .string (mkB (fewL y2)), .string (mkB (fewL y3)), .string (mkB (fewL y4))])]) (by simp only [List.map_toArray, List.map_cons, List.map_nil, eval_slot (hF 13 (by decide))]) (by go_simp)) ⟨_, rfl, rfl, heap_alloc_new _ _⟩ hG.below (Nat.le_trans HBS.out hG.new)
          · obtain ⟨v, ob, hv, hob, b, rfl, rfl, hh⟩ := hF 14 (by decide)
            exact rol_app_ne rfl rfl rfl (by rw [hz]; decide) rfl (hF 17 (by decide)) (eval_slot (hF 0 (by decide))) (eval_slot hv) (blkG.nes hh) (by omega) hG.below (Nat.le_refl _) (Nat.le_trans HBS.out hG.new) (by rw [HL2E.out, List.length_append]; rfl) HL2E.out
          · exact rol_move rfl rfl rfl (by rw [hz]; decide) (Or.inr rfl) (hF 15 (by decide)) hG.below
        · intro a wx who hG hF
          obtain ⟨v3, ob3, fv3, fo3, fp3⟩ := hF 16 (of_decide_eq_true (by kernel_rfl)) (of_decide_eq_true (by kernel_rfl))
          replace fv3 : a.tmps.getD 3 undef = v3 := eval_slot (s := 3) fv3
          have hbx := hG.below
          have hnx := hG.new
          rw [hG.frame]
          simp only [List.foldl_cons, List.foldl_nil, List.setIfInBounds_toArray, List.set_cons_zero, List.set_cons_succ]
          generalize a.tmps.getD 15 undef = u15
          generalize a.tmps.getD 16 undef = u16
          generalize a.tmps.getD 17 undef = u17
          generalize a.tmps.getD 18 undef = u18
          generalize a.tmps.getD 19 undef = u19
          generalize a.tmps.getD 20 undef = u20
          generalize a.tmps.getD 21 undef = u21
          generalize a.tmps.getD 22 undef = u22
          generalize a.tmps.getD 23 undef = u23
          generalize a.tmps.getD 24 undef = u24
          generalize a.tmps.getD 25 undef = u25
          generalize a.tmps.getD 26 undef = u26
          generalize a.tmps.getD 27 undef = u27
          generalize a.tmps.getD 28 undef = u28
          generalize a.tmps.getD 29 undef = u29
          generalize a.tmps.getD 30 undef = u30
          rw [fv3]
          clear hF hG fv3
          obtain ⟨hrow, -⟩ := fp3
          have HRW := Lib.hid hrow; have HBN := Lib.hid hbx
          clear fo3 hrow hbx hnx
          go_wp2
          go_roundw
          case rel => exact ⟨k + 1, L2, by omega, by omega, by go_num, HLN.out, Lib.hid (by rw [HTK.out, HL2E.out, HACC.out]; rfl), HRW.out, HBN⟩
          case measure => simp [intOf]; omega
      · have hout : acc = L := by
          rw [HACC.out, ← HL.out]
          unfold fewK
          have : k = 30 := by omega
          rw [this]
        subst hout
        go_wp2
        go_ret
        exact ⟨_, rfl, hown, HB.out⟩
    · have hout : acc = L := by
        have e : k = n := by omega
        rw [HACC.out, ← HL.out]
        unfold fewK
        rw [List.take_of_length_le (i := k) (by rw [HN.out]; omega), List.take_of_length_le (i := 30) (by rw [HN.out]; omega)]
      subst hout
      go_wp2
      go_ret
      exact ⟨_, rfl, hown, HB.out⟩
theorem lfew_any (V : Value) (l : List Ne) (w : World) (hV : Nes w V l) (hf : ∀ d ∈ l, fitNe d) :
    Calls Try.prog 6 #[V] w fun e w' => ∃ a c, e = .returned (.slice a (fewK l).length c) ∧ Nes w' (.slice a (fewK l).length c) (fewK l) ∧ Below w.heap.size w w' :=
  (lfewo_any V l w hV hf).mono fun e w' ⟨v, he, ho, hb⟩ => by
    obtain ⟨a, c, rfl, hn⟩ := nesO ho
    exact ⟨a, c, he, hn, hb⟩

set_option maxHeartbeats 1600000 in
theorem refmayK_any (V : Value) (l : List Ne) (w : World) (h : Nes w V l) (hs : ∀ d ∈ l, smallNe d) :
    Calls Try.prog 14 #[V] w fun e w' => e = .returned (.bool (mayK l)) ∧ Below w.heap.size w w' := by
  obtain ⟨a, c, rfl, h1, h2, -, -⟩ := h.ex
  unfold maxLen at h2
  obtain ⟨n, hn⟩ : ∃ n, l.length = n := ⟨_, rfl⟩
  rw [hn] at h1 h
  rw [hn]
  obtain ⟨R, hR⟩ : ∃ R, mayK l = R := ⟨_, rfl⟩
  rw [hR]
  have ST := Lib.hid h; have HN := Lib.hid hn; have HS := Lib.hid hs; have HR := Lib.hid hR
  clear h hn hs hR
  go_enter Try.func14, Try.ntmps14
  go_wp2
  go_loopw [3] (fun i wr => ∃ k : Nat, k ≤ n ∧ i = .int .i64 k ∧ Hid (mayK (l.take k) = true) ∧ Hid (Below w.heap.size w wr)) (fun i _ => n - (intOf i).toNat)
  case atStart => exact ⟨0, Nat.zero_le _, rfl, Lib.hid rfl, Lib.hid (Below.refl _ _)⟩
  case round =>
    obtain ⟨k, hk, rfl, HA, HB⟩ := hrel
    by_cases hlt : k < n
    · have hkl : k < l.length := by rw [HN.out]; exact hlt
      obtain ⟨b, off, rfl, -, hc0, hc1, hc2, hc3⟩ := (ST.out.below HB.out).at k hkl
      have hsy := HS.out _ (ne_mem hkl)
      have hno := fun o => mayK_no hkl o
      have hye := fun o => mayK_take hkl o HA.out
      obtain ⟨y, hy⟩ : ∃ y, y = l.getD k zNe := ⟨_, rfl⟩
      rw [← hy] at hc0 hc1 hc2 hc3 hsy hno hye
      obtain ⟨⟨y1, y2⟩, y3, y4⟩ := y
      simp only at hc0 hc1 hc2 hc3
      obtain ⟨T, hT⟩ : ∃ T, okN (y3, y4) = T := ⟨_, rfl⟩
      obtain ⟨F, hF⟩ : ∃ F, okN (y1, y2) = F := ⟨_, rfl⟩
      obtain ⟨O, hO⟩ : ∃ O, rootK ((y1, y2), y3, y4) = O := ⟨_, rfl⟩
      have h1m : mayK1 ((y1, y2), y3, y4) = (T && (O || F)) := by unfold mayK1; rw [hT, hO, hF]
      rw [h1m] at hno hye
      have heq := neq_ndz y1 y2
      rw [show decide ((y1, y2) = (([], []) : Nd)) = O from hO] at heq
      have hgd := guard_nd
      have HSY := Lib.hid hsy; have HNO := Lib.hid hno; have HYE := Lib.hid hye; have HT := Lib.hid hT; have HF := Lib.hid hF
      clear hy hsy hno hye hT hF hO h1m
      have hkb : (k : Int) < (n : Int) := by omega
      cases T
      · have hz := HNO.out rfl
        rw [HR.out] at hz
        subst hz
        go_wp2_with (go_at_call 15; refine Calls.mono (refnmay_any _ _ _ ?_ ?_) ?_; (first | exact HSY.out.2.1 | exact HSY.out.1.1); (first | exact HSY.out.2.2 | exact HSY.out.1.2); rintro e w1 ⟨rfl, hb1⟩; (first | rw [HT.out] | rw [HF.out]); replace HB := Lib.hid (below_step HB.out hb1); replace hc0 := cell_keep hc0 hb1; replace hc1 := cell_keep hc1 hb1; replace hc2 := cell_keep hc2 hb1; replace hc3 := cell_keep hc3 hb1; clear hb1)
        go_ret
        exact ⟨rfl, HB.out⟩
      · cases O
        · simp only [Bool.not_false] at heq
          cases F
          · have hz := HNO.out rfl
            rw [HR.out] at hz
            subst hz
            go_wp2_with (go_at_call 15; refine Calls.mono (refnmay_any _ _ _ ?_ ?_) ?_; (first | exact HSY.out.2.1 | exact HSY.out.1.1); (first | exact HSY.out.2.2 | exact HSY.out.1.2); rintro e w1 ⟨rfl, hb1⟩; (first | rw [HT.out] | rw [HF.out]); replace HB := Lib.hid (below_step HB.out hb1); replace hc0 := cell_keep hc0 hb1; replace hc1 := cell_keep hc1 hb1; replace hc2 := cell_keep hc2 hb1; replace hc3 := cell_keep hc3 hb1; clear hb1)
            go_ret
            exact ⟨rfl, HB.out⟩
          · have hz := Lib.hid (HYE.out rfl)
            go_wp2_with (go_at_call 15; refine Calls.mono (refnmay_any _ _ _ ?_ ?_) ?_; (first | exact HSY.out.2.1 | exact HSY.out.1.1); (first | exact HSY.out.2.2 | exact HSY.out.1.2); rintro e w1 ⟨rfl, hb1⟩; (first | rw [HT.out] | rw [HF.out]); replace HB := Lib.hid (below_step HB.out hb1); replace hc0 := cell_keep hc0 hb1; replace hc1 := cell_keep hc1 hb1; replace hc2 := cell_keep hc2 hb1; replace hc3 := cell_keep hc3 hb1; clear hb1)
            go_roundw
            case rel => exact ⟨k + 1, by omega, by go_num, hz, HB⟩
            case measure => simp [intOf]; omega
        · simp only [Bool.not_true] at heq
          have hz := Lib.hid (HYE.out rfl)
          go_wp2_with (go_at_call 15; refine Calls.mono (refnmay_any _ _ _ ?_ ?_) ?_; (first | exact HSY.out.2.1 | exact HSY.out.1.1); (first | exact HSY.out.2.2 | exact HSY.out.1.2); rintro e w1 ⟨rfl, hb1⟩; (first | rw [HT.out] | rw [HF.out]); replace HB := Lib.hid (below_step HB.out hb1); replace hc0 := cell_keep hc0 hb1; replace hc1 := cell_keep hc1 hb1; replace hc2 := cell_keep hc2 hb1; replace hc3 := cell_keep hc3 hb1; clear hb1)
          go_roundw
          case rel => exact ⟨k + 1, by omega, by go_num, hz, HB⟩
          case measure => simp [intOf]; omega
    · go_wp2
      go_ret
      have e : k = n := by omega
      subst e
      have hA := HA.out
      rw [List.take_of_length_le (by rw [HN.out]; exact Nat.le_refl _)] at hA
      exact ⟨by rw [← HR.out, hA]; rfl, HB.out⟩

theorem boxHK (w : World) (x y : Value) (t : TypeId) : ∃ W g, w.alloc (.cells #[x, y] t) = W ∧ w.heap.size = g ∧ W.heap[g]? = some (.cells #[x, y] t (0, 0)) ∧ Below w.heap.size w W :=
  ⟨_, _, rfl, rfl, heap_alloc_new _ _, (Below.refl _ _).alloc (Nat.le_refl _) _⟩
theorem st_ndK {w : World} {g : Nat} {q1 q2 : List UInt8} {x0 y0 : Value} {t : TypeId} (h : w.heap[g]? = some (.cells #[x0, y0] t (0, 0))) : Sem.run Try.prog (Instr.storeAt 24 (.pointer (some ⟨g, 0, none⟩)) (.agg #[.string (mkB q1), .string (mkB q2)])) w = .ok () ((w.setCell ⟨g, 0, none⟩ (.string (mkB q1))).setCell ⟨g, 1, none⟩ (.string (mkB q2))) := by
  obtain ⟨d0, d1, f0, f1⟩ := row2 h
  go_simp
section
variable {ops : Array Oper} {Q : Exit → Act → World → Prop} {a : Act} {w w0 : World} {who : Nat → Nat} {i B r ro : Nat} {o : Oper}
/-- A node is put into a box. -/
theorem rol_box_ndK (ho : ops[i]? = some o) (hw : Region.wanted o (yielded ops a.tmps) = true) (hd : o.dst = none) {x y : Operand} {g : Nat} (hop : o.op = .store 24 x y) (hx : a.eval x = .pointer (some ⟨g, 0, none⟩)) {q1 q2 : List UInt8} (hy : a.eval y = .agg #[.string (mkB q1), .string (mkB q2)])
    {x0 y0 : Value} {ty : TypeId} (hg : (RLeaf.box g (.cells #[x0, y0] ty)).holds r a w who) (hb : Below B w0 w) (hB : B ≤ g) : wpOp Try.prog ops Q i (RPost ops i r r (.box g (.cells #[.string (mkB q1), .string (mkB q2)] ty)) B w0 a w who) a w := by
  refine rol_store ho hw hd (ex_store hop hx hy (st_ndK hg.1)) hg (row2_set hg.1 _ _) (fun k hk => ?_) (by simp [World.setCell]) ((hb.setCell hB _).setCell hB _)
  rw [Below.heap_setCell _ ⟨g, 1, none⟩ _ k hk, Below.heap_setCell _ ⟨g, 0, none⟩ _ k hk]
end
end Go.Proofs.Ytdefphacdcbljaa

namespace Go.Proofs.Ytdefphacdcbljaa
open Go.RowKit Go.ChangeShapes Go.WideShapes
set_option linter.unusedVariables false
set_option maxRecDepth 100000

theorem nes_blkK {w : World} {b n : Nat} {l : List Ne} (h : w.heap[b]? = some (.cells (neC l).toArray 39 (0, 0))) (hl : l.length = n) (hn : n ≤ 1000) : Nes w (.slice (some ⟨b, 0, none⟩) n n) l := by
  subst hl
  exact Nes.owned (base := 0) (e := 39) ⟨neC_len l, .inr ⟨b, l.length, _, rfl, Nat.zero_le _, h, Nat.le_refl _, by unfold maxLen; omega, by rw [List.size_toArray, neC_len], by rw [List.toList_toArray, List.take_of_length_le (by rw [neC_len]; exact Nat.le_refl _)]⟩⟩
def vW : List UInt8 := [118, 49, 46, 48, 46, 48]
def nA : Nd := ([97], vW)
def nB : Nd := ([98], vW)
def nC : Nd := ([99], vW)
def exL : List Ne := [(([], []), ([99], vW)), (([99], vW), ([98], vW)), (([], []), ([97], vW)), (([97], vW), ([98], vW))]
def exM : List Ne := [(([], []), ([97], vW))]
theorem exW1 : chainE exL ([98], vW) = ([([97], vW), ([98], vW)], 0) := by kernel_rfl
theorem exW2 : chainE exM ([98], vW) = ([], 11) := by kernel_rfl
theorem smW (x : UInt8) : smallN ([x], vW) := ⟨(by decide : 1 ≤ 1000000000), (by decide : 6 ≤ 1000000000)⟩
theorem smR : smallN ([], []) := ⟨Nat.zero_le _, Nat.zero_le _⟩
theorem smL : ∀ d ∈ exL, smallNe d := fun d hd => by
  simp only [exL, List.mem_cons, List.not_mem_nil, or_false] at hd
  rcases hd with rfl | rfl | rfl | rfl
  · exact ⟨smR, smW 99⟩
  · exact ⟨smW 99, smW 98⟩
  · exact ⟨smR, smW 97⟩
  · exact ⟨smW 97, smW 98⟩
theorem smM : ∀ d ∈ exM, smallNe d := fun d hd => by
  simp only [exM, List.mem_cons, List.not_mem_nil, or_false] at hd
  subst hd
  exact ⟨smR, smW 97⟩
theorem boxK3 (w : World) (x y x' y' x2 y2 : Value) (t : TypeId) : ∃ W g1 g2 g3, ((w.alloc (.cells #[x, y] t)).alloc (.cells #[x', y'] t)).alloc (.cells #[x2, y2] t) = W ∧ w.heap.size = g1 ∧ w.heap.size + 1 = g2 ∧ w.heap.size + 1 + 1 = g3 ∧ W.cell? ⟨g1, 0, none⟩ = some x ∧ W.cell? ⟨g1, 1, none⟩ = some y ∧ W.cell? ⟨g2, 0, none⟩ = some x' ∧ W.cell? ⟨g2, 1, none⟩ = some y' ∧ W.cell? ⟨g3, 0, none⟩ = some x2 ∧ W.cell? ⟨g3, 1, none⟩ = some y2 ∧ Below w.heap.size w W :=
  ⟨_, _, _, _, rfl, rfl, rfl, rfl, cell_alloc (cell_alloc (cell_new rfl rfl) _) _, cell_alloc (cell_alloc (cell_new rfl rfl) _) _, cell_alloc (cell_new (by simp) rfl) _, cell_alloc (cell_new (by simp) rfl) _, cell_new (by simp) rfl, cell_new (by simp) rfl, (((Below.refl _ _).alloc (Nat.le_refl _) _).alloc (by simp) _).alloc (by simp; omega) _⟩

set_option maxHeartbeats 3200000 in
theorem wawake_any (w : World) : Calls Try.prog 9 #[] w fun e w' => e = .returned (.bool true) ∧ Below w.heap.size w w' := by
  have h1 := fun U w hU => wchain_any U exL [98] vW w hU smL (by decide) (smW 98)
  have h2 := fun U w hU => wchain_any U exM [98] vW w hU smM (by decide) (smW 98)
  rw [exW1] at h1
  rw [exW2] at h2
  simp only at h1 h2
  have H1 := Lib.hid h1; have H2 := Lib.hid h2
  clear h1 h2
  go_enter Try.func9, Try.ntmps9
  go_upto_region 2 with fail
  obtain ⟨W, g1, g2, g3, hW, hg1, hg2, hg3, a0, a1, b0, b1, c0, c1, hb⟩ := boxK3 w (.string (mkB [97])) (.string (mkB vW)) (.string (mkB [98])) (.string (mkB vW)) (.string (mkB [99])) (.string (mkB vW)) 24
  change Code.wp _ _ _ _ (((w.alloc (.cells #[.string (mkB [97]), .string (mkB vW)] 24)).alloc (.cells #[.string (mkB [98]), .string (mkB vW)] 24)).alloc (.cells #[.string (mkB [99]), .string (mkB vW)] 24))
  rw [hW, hg3, hg2, hg1]
  have BB := Lib.hid hb
  clear hW hg1 hg2 hg3 hb
  have b0' := fun o => cell_alloc b0 o
  have b1' := fun o => cell_alloc b1 o
  have hd : Nes (W.alloc (.cells #[.string { data := #[] }, .string { data := #[] }, .string (mkB [99]), .string (mkB vW), .string (mkB [99]), .string (mkB vW), .string (mkB [98]), .string (mkB vW), .string { data := #[] }, .string { data := #[] }, .string (mkB [97]), .string (mkB vW), .string (mkB [97]), .string (mkB vW), .string (mkB [98]), .string (mkB vW)] 39)) (.slice (some ⟨W.heap.size, 0, none⟩) 4 4) exL := nes_blkK (heap_alloc_new W (.cells #[.string { data := #[] }, .string { data := #[] }, .string (mkB [99]), .string (mkB vW), .string (mkB [99]), .string (mkB vW), .string (mkB [98]), .string (mkB vW), .string { data := #[] }, .string { data := #[] }, .string (mkB [97]), .string (mkB vW), .string (mkB [97]), .string (mkB vW), .string (mkB [98]), .string (mkB vW)] 39)) rfl (by decide)
  have hb3 : Below W.heap.size W (W.alloc (.cells #[.string { data := #[] }, .string { data := #[] }, .string (mkB [99]), .string (mkB vW), .string (mkB [99]), .string (mkB vW), .string (mkB [98]), .string (mkB vW), .string { data := #[] }, .string { data := #[] }, .string (mkB [97]), .string (mkB vW), .string (mkB [97]), .string (mkB vW), .string (mkB [98]), .string (mkB vW)] 39)) := (Below.refl _ _).alloc (Nat.le_refl _) _
  have HD := Lib.hid hd; have B3 := Lib.hid hb3
  clear hd hb3
  go_upto_region 3 with (go_at_call 8; refine (H1.out _ _ HD.out).mono ?_; rintro e w1 ⟨k1, c1', rfl, hd1, hb1⟩; have S1 := Lib.hid hd1; have hbw := below_step B3.out hb1; replace a0 := cell_keep a0 hbw; replace a1 := cell_keep a1 hbw; replace b0 := cell_keep b0 hbw; replace b1 := cell_keep b1 hbw; replace BB := Lib.hid (below_step BB.out hbw); clear hb1 hbw hd1)
  clear HD B3 H1 b0' b1' c0 c1
  have b0' := fun o => cell_alloc b0 o
  have b1' := fun o => cell_alloc b1 o
  have hd : Nes (w1.alloc (.cells #[.string { data := #[] }, .string { data := #[] }, .string (mkB [97]), .string (mkB vW)] 39)) (.slice (some ⟨w1.heap.size, 0, none⟩) 1 1) exM := nes_blkK (heap_alloc_new w1 (.cells #[.string { data := #[] }, .string { data := #[] }, .string (mkB [97]), .string (mkB vW)] 39)) rfl (by decide)
  have hb3 : Below w1.heap.size w1 (w1.alloc (.cells #[.string { data := #[] }, .string { data := #[] }, .string (mkB [97]), .string (mkB vW)] 39)) := (Below.refl _ _).alloc (Nat.le_refl _) _
  have HD := Lib.hid hd; have B3 := Lib.hid hb3
  clear hd hb3
  go_upto_region 4 with (go_at_call 8; refine (H2.out _ _ HD.out).mono ?_; rintro e w2 ⟨k2, c2, rfl, hd1, hb1⟩; have hbw := below_step B3.out hb1; replace a0 := cell_keep a0 hbw; replace a1 := cell_keep a1 hbw; replace b0 := cell_keep b0 hbw; replace b1 := cell_keep b1 hbw; replace BB := Lib.hid (below_step BB.out hbw); replace S1 := Lib.hid (S1.out.below hbw); clear hb1 hbw hd1)
  clear HD B3 H2 b0' b1'
  obtain ⟨b, off, rfl, -, e0, e1⟩ := S1.out.at 0 (by decide)
  obtain ⟨b', off', hbb, -, e2, e3⟩ := S1.out.at 1 (by decide)
  injection hbb with hbb
  injection hbb with q1 q2
  subst q1 q2
  rw [Nat.zero_mul, Nat.add_zero] at e0 e1
  replace e0 : w2.cell? ⟨b, off, none⟩ = some (.string (mkB [97])) := e0
  replace e1 : w2.cell? ⟨b, off + 1, none⟩ = some (.string (mkB vW)) := e1
  replace e2 : w2.cell? ⟨b, off + 2, none⟩ = some (.string (mkB [98])) := e2
  replace e3 : w2.cell? ⟨b, off + 3, none⟩ = some (.string (mkB vW)) := e3
  clear S1
  have hgd := guard_nd
  have q1 : ∀ w, Sem.run Try.prog (binOp .eql 24 (.agg #[.string (mkB [97]), .string (mkB vW)]) (.agg #[.string (mkB [97]), .string (mkB vW)])) w = .ok (.bool true) w := fun w => eq_nd [97] vW [97] vW w
  have q2 : ∀ w, Sem.run Try.prog (binOp .eql 24 (.agg #[.string (mkB [98]), .string (mkB vW)]) (.agg #[.string (mkB [98]), .string (mkB vW)])) w = .ok (.bool true) w := fun w => eq_nd [98] vW [98] vW w
  go_quiet (fail)
  go_wp2
  go_ret
  exact ⟨rfl, below_step BB.out (below_q ⟨nq, rfl⟩)⟩
end Go.Proofs.Ytdefphacdcbljaa
