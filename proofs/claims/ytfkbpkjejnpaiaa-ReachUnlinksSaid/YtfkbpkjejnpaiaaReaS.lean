/- What is reached: of the document; may a graph be: of the document. -/
import Derived.Test.YtfkbpkjejnpaiaaReaR
import Derived.Test.YtfkbpkjejnpaiaaEdgD
namespace Go.Proofs.Ytfkbpkjejnpaiaa
open Go.RowKit
set_option linter.unusedVariables false
set_option maxRecDepth 100000

structure LiveK (l : List Ed) (lv : List Int) : Prop where
  nodup : lv.Nodup
  way : ∀ z ∈ lv, z ≠ -1 ∧ Way l (-1) z
theorem LiveK.none (l : List Ed) : LiveK l [] := ⟨List.nodup_nil, fun z h => by cases h⟩
theorem LiveK.len {l : List Ed} {lv : List Int} (h : LiveK l lv) : lv.length ≤ l.length := by
  have := nodupI_len h.nodup (m := l.map (·.2.1)) fun z hz => by
    obtain ⟨h1, h2⟩ := h.way z hz
    rcases h2.last with e | ⟨y, -, e, he, -, rfl⟩
    · exact absurd e h1
    · exact List.mem_map.2 ⟨e, he, rfl⟩
  simpa using this
theorem LiveK.put {l : List Ed} {lv : List Int} (hok : okE l = true) (h : LiveK l lv) {e : Ed} (he : e ∈ l) (h1 : e.1 = -1 ∨ e.1 ∈ lv) (h2 : e.2.1 ∉ lv) : LiveK l (lv ++ [e.2.1]) := by
  refine ⟨List.nodup_append.2 ⟨h.nodup, by simp, fun a ha b hb => by rw [List.mem_singleton.1 hb]; exact fun k => h2 (k ▸ ha)⟩, fun z hz => ?_⟩
  rcases List.mem_append.1 hz with hz | hz
  · exact h.way z hz
  · rw [List.mem_singleton] at hz
    subst hz
    have h3 := (oneE_iff.1 ((okE_iff.1 hok).1 e he)).2.1
    refine ⟨by omega, ?_⟩
    rcases h1 with h1 | h1
    · exact Way.here.on ⟨e, he, h1, rfl⟩
    · exact (h.way _ h1).2.on ⟨e, he, rfl, rfl⟩
theorem LiveK.done {l : List Ed} {lv : List Int} (h : LiveK l lv) (hc : ∀ e ∈ l, (e.1 = -1 ∨ e.1 ∈ lv) → e.2.1 ∈ lv) : riseI lv = liveE l :=
  live_uniq (rise_pw h.nodup) fun z => by
    rw [rise_mem]
    refine ⟨h.way z, fun ⟨h1, h2⟩ => ?_⟩
    have := h2.closed (P := fun z => z = -1 ∨ z ∈ lv) (fun y z hy ⟨e, he, h3, h4⟩ => .inr (h4 ▸ hc e he (by rw [h3]; exact hy))) (.inl rfl)
    exact this.resolve_left h1
def bitR : Value → Nat
  | .bool true => 1
  | _ => 0

set_option maxHeartbeats 6400000 in
theorem reflive_any (V : Value) (l : List Ed) (w : World) (h : Eds w V l) (hok : okE l = true) (hl : l.length ≤ 1000000) :
    Calls Try.prog 19 #[V] w fun e w' => ∃ v, e = .returned v ∧ w'.ownsRow w.heap.size 3 1 v (liveE l).length (intZ (liveE l)) ∧ Below w.heap.size w w' := by
  obtain ⟨a, c, rfl, h1, h2, -, -⟩ := h.ex
  unfold maxLen at h2
  obtain ⟨n, hn⟩ : ∃ n, l.length = n := ⟨_, rfl⟩
  obtain ⟨LE, hLE⟩ : ∃ LE, liveE l = LE := ⟨_, rfl⟩
  rw [hLE]
  rw [hn] at h h1 hl ⊢
  have ST := Lib.hid h; have HN := Lib.hid hn; have OK := Lib.hid hok; have HLE := Lib.hid hLE
  clear h hn hok hLE
  go_enter Try.func19, Try.ntmps19
  go_wp2
  go_loopw [3, 4] (fun v3 v4 wr => ∃ (lv : List Int) (o : Bool), v4 = .bool o ∧ lv.length ≤ n ∧ Hid (LiveK l lv) ∧ Hid (o = false → ∀ e ∈ l, (e.1 = -1 ∨ e.1 ∈ lv) → e.2.1 ∈ lv) ∧ Hid (wr.ownsRow w.heap.size 3 1 v3 lv.length (intZ lv)) ∧ Hid (Below w.heap.size w wr)) (fun v3 v4 _ => 2 * (n - lenOf v3) + bitR v4)
  case atStart => exact ⟨[], true, rfl, Nat.zero_le _, Lib.hid (LiveK.none l), Lib.hid (fun h => by cases h), Lib.hid (World.ownsRow_nil _ _ _ _), Lib.hid (Below.refl _ _)⟩
  case round =>
    obtain ⟨lv0, o, rfl, hl0, HK0, HC0, HO0, HB0⟩ := hrel
    cases o
    · have hrl : riseI lv0 = LE := by rw [← HLE.out]; exact HK0.out.done (HC0.out rfl)
      have ks := fun V w h => refsorted_any V lv0 w h HK0.out.nodup (by omega)
      rw [hrl] at ks
      obtain ⟨a3, c3, rfl, hI⟩ := intsZ HO0.out
      have HI := Lib.hid hI
      obtain ⟨m0, hm0⟩ : ∃ m, lv0.length = m := ⟨_, rfl⟩
      rw [hm0] at HI ⊢
      clear hrl hI
      go_wp2_with (go_at_call 38; refine (ks _ _ HI.out).mono ?_; rintro e w3 ⟨v3, rfl, hrow, hb3⟩; have HR := Lib.hid (row_base hrow HB0.out.size); have B3 := Lib.hid (below_step HB0.out hb3); clear hrow hb3 ks)
      go_ret
      exact ⟨_, rfl, HR.out, B3.out⟩
    · obtain ⟨a0, c0, rfl, -⟩ := intsZ HO0.out
      obtain ⟨m0, hm0⟩ : ∃ m, lv0.length = m := ⟨_, rfl⟩
      rw [hm0] at hl0 ⊢
      have HM0 := Lib.hid hm0
      have HO00 := HO0.out
      rw [hm0] at HO00
      replace HO0 := Lib.hid HO00
      clear hm0 HO00
      go_wp2
      go_loopw [3, 4, 5] (fun v3 v4 i wr => ∃ (k : Nat) (lv : List Int) (o : Bool), k ≤ n ∧ i = .int .i64 k ∧ v4 = .bool o ∧ lv.length ≤ n ∧ Hid (LiveK l lv) ∧ Hid (m0 ≤ lv.length ∧ (o = true → m0 < lv.length) ∧ (o = false → lv = lv0)) ∧ Hid (o = false → ∀ j, j < k → ((l.getD j zE).1 = -1 ∨ (l.getD j zE).1 ∈ lv) → (l.getD j zE).2.1 ∈ lv) ∧ Hid (wr.ownsRow w.heap.size 3 1 v3 lv.length (intZ lv)) ∧ Hid (Below w.heap.size w wr)) (fun _ _ i _ => n - (numR i).toNat)
      case atStart => exact ⟨0, lv0, false, Nat.zero_le _, rfl, rfl, by rw [HM0.out]; exact hl0, HK0, Lib.hid ⟨by rw [HM0.out]; exact Nat.le_refl _, (fun h => by cases h), fun _ => rfl⟩, Lib.hid (fun _ j hj => absurd hj (Nat.not_lt_zero j)), Lib.hid (by rw [HM0.out]; exact HO0.out), HB0⟩
      case round =>
        obtain ⟨k, lv, o, hk, rfl, rfl, hlv, HK, HM, HC, HO, HB⟩ := hrel
        by_cases hlt : k < n
        · have hkl : k < l.length := by rw [HN.out]; exact hlt
          obtain ⟨b, off, rfl, -, hc0, hc1, hc2⟩ := (ST.out.below HB.out).at k hkl
          have hput := fun h1 h2 => LiveK.put OK.out HK.out (ed_mem hkl) h1 h2
          obtain ⟨y, hy⟩ : ∃ y, y = l.getD k zE := ⟨_, rfl⟩
          rw [← hy] at hc0 hc1 hc2 hput
          obtain ⟨y1, y2, y3⟩ := y
          simp only at hc0 hc1 hc2 hput
          obtain ⟨a3, c3, rfl, hI⟩ := intsZ HO.out
          obtain ⟨m, hm⟩ : ∃ m, lv.length = m := ⟨_, rfl⟩
          rw [hm] at hI hlv ⊢
          have hOm := HO.out
          rw [hm] at hOm
          have kh := fun V x w h => refhasz_any V lv x w h
          have HI := Lib.hid hI; have HOM := Lib.hid hOm; have HML := Lib.hid hm; have HY := Lib.hid hy; have HPUT := Lib.hid hput
          obtain ⟨o3, ho3⟩ : ∃ o, hasB lv y2 = o := ⟨_, rfl⟩
          obtain ⟨o2, ho2⟩ : ∃ o, hasB lv y1 = o := ⟨_, rfl⟩
          have H3 := Lib.hid ho3; have H2 := Lib.hid ho2
          have hkb : (k : Int) < (n : Int) := by omega
          clear hI hOm hm hy hput ho3 ho2
          by_cases h1 : y1 = -1
          · have hd1 : (y1 == -1) = true := by simp [h1]
            have H1 := Lib.hid h1
            clear h1
            cases o3
            · have hno : y2 ∉ lv := by have := H3.out; simpa [hasB] using this
              have HK2 := Lib.hid (HPUT.out (.inl H1.out) hno)
              clear hno
              go_wp2_with (first | (go_at_call 27; refine (kh _ _ _ HI.out).mono ?_; rintro e w1 ⟨rfl, rfl⟩; first | rw [H3.out]) | (at_builtin; refine wpList_append_new rfl _ _ 23 rfl w.heap.size 3 (.int .i64 0) 1 8 Try.underlying23 Try.info_int rfl (by decide) _ m _ rfl HOM.out [.int .i64 y2] rfl rfl rfl (by omega) (by unfold maxLen; omega) HB.out.size ?_; intro v4 w4 hown4 hb4; have HO4 := Lib.hid hown4; have HB4 := Lib.hid (HB.out.trans hb4.toBelow); clear hown4 hb4))
              go_roundw
              case rel => exact ⟨k + 1, lv ++ [y2], true, by omega, by go_num, rfl, by have := HK2.out.len; rw [HN.out] at this; exact this, HK2, Lib.hid ⟨by have := HM.out.1; simp; omega, (fun _ => by have := HM.out.1; simp; omega), (fun h => by cases h)⟩, Lib.hid (fun h => by cases h), Lib.hid (by rw [intZ_snoc, List.length_append, HML.out]; exact HO4.out), HB4⟩
              case measure => simp [numR]; omega
            · go_wp2_with ((go_at_call 27; refine (kh _ _ _ HI.out).mono ?_; rintro e w1 ⟨rfl, rfl⟩; first | rw [H3.out]))
              go_roundw
              case rel => exact ⟨k + 1, lv, o, by omega, by go_num, rfl, by rw [HML.out]; exact hlv, HK, HM, Lib.hid (fun ho j hj hh => by rcases Nat.lt_succ_iff_lt_or_eq.1 hj with hj | rfl; exact HC.out ho j hj hh; rw [← HY.out] at hh ⊢; exact (by have := H3.out; simpa [hasB] using this)), Lib.hid (by rw [HML.out]; exact HOM.out), HB⟩
              case measure => simp [numR]; omega
          · have hd1 : (y1 == -1) = false := by simp [h1]
            have H1 := Lib.hid h1
            clear h1
            cases o2
            · go_wp2_with ((go_at_call 27; refine (kh _ _ _ HI.out).mono ?_; rintro e w1 ⟨rfl, rfl⟩; first | rw [H2.out]))
              go_roundw
              case rel => exact ⟨k + 1, lv, o, by omega, by go_num, rfl, by rw [HML.out]; exact hlv, HK, HM, Lib.hid (fun ho j hj hh => by rcases Nat.lt_succ_iff_lt_or_eq.1 hj with hj | rfl; exact HC.out ho j hj hh; rw [← HY.out] at hh ⊢; exact absurd hh (by rintro (h | h); exact H1.out h; have := H2.out; simp [hasB] at this; exact this h)), Lib.hid (by rw [HML.out]; exact HOM.out), HB⟩
              case measure => simp [numR]; omega
            · cases o3
              · have hno : y2 ∉ lv := by have := H3.out; simpa [hasB] using this
                have HK2 := Lib.hid (HPUT.out (.inr (by have := H2.out; simpa [hasB] using this)) hno)
                clear hno
                go_wp2_with (first | (go_at_call 27; refine (kh _ _ _ HI.out).mono ?_; rintro e w1 ⟨rfl, rfl⟩; first | rw [H2.out] | rw [H3.out]) | (at_builtin; refine wpList_append_new rfl _ _ 23 rfl w.heap.size 3 (.int .i64 0) 1 8 Try.underlying23 Try.info_int rfl (by decide) _ m _ rfl HOM.out [.int .i64 y2] rfl rfl rfl (by omega) (by unfold maxLen; omega) HB.out.size ?_; intro v4 w4 hown4 hb4; have HO4 := Lib.hid hown4; have HB4 := Lib.hid (HB.out.trans hb4.toBelow); clear hown4 hb4))
                go_roundw
                case rel => exact ⟨k + 1, lv ++ [y2], true, by omega, by go_num, rfl, by have := HK2.out.len; rw [HN.out] at this; exact this, HK2, Lib.hid ⟨by have := HM.out.1; simp; omega, (fun _ => by have := HM.out.1; simp; omega), (fun h => by cases h)⟩, Lib.hid (fun h => by cases h), Lib.hid (by rw [intZ_snoc, List.length_append, HML.out]; exact HO4.out), HB4⟩
                case measure => simp [numR]; omega
              · go_wp2_with ((go_at_call 27; refine (kh _ _ _ HI.out).mono ?_; rintro e w1 ⟨rfl, rfl⟩; first | rw [H2.out] | rw [H3.out]))
                go_roundw
                case rel => exact ⟨k + 1, lv, o, by omega, by go_num, rfl, by rw [HML.out]; exact hlv, HK, HM, Lib.hid (fun ho j hj hh => by rcases Nat.lt_succ_iff_lt_or_eq.1 hj with hj | rfl; exact HC.out ho j hj hh; rw [← HY.out] at hh ⊢; exact (by have := H3.out; simpa [hasB] using this)), Lib.hid (by rw [HML.out]; exact HOM.out), HB⟩
                case measure => simp [numR]; omega
        · have e : k = n := by omega
          subst e
          obtain ⟨a3, c3, rfl, -⟩ := intsZ HO.out
          have hcl : o = false → ∀ e ∈ l, (e.1 = -1 ∨ e.1 ∈ lv) → e.2.1 ∈ lv := fun ho e he hh => by
            obtain ⟨j, hj, rfl⟩ := List.getElem_of_mem he
            have := HC.out ho j (by rw [← HN.out]; exact hj)
            rw [ed_getD hj] at this
            exact this hh
          have HCL := Lib.hid hcl
          clear hcl
          go_wp2
          go_roundw
          case rel => exact ⟨lv, o, rfl, hlv, HK, HCL, HO, HB⟩
          case measure =>
            have hM := HM.out
            cases o
            · simp only [lenOf, bitR]; omega
            · have := hM.2.1 rfl
              simp only [lenOf, bitR]; omega

set_option maxHeartbeats 3200000 in
theorem refgmay_any (V : Value) (g : Gr) (w : World) (h : Gra w V g) (hl : g.1.length ≤ 1000000) :
    Calls Try.prog 14 #[V] w fun e w' => e = .returned (.bool (okG g)) ∧ Below w.heap.size w w' := by
  obtain ⟨a, c, b, d, rfl, u1, u2⟩ := h.ex
  obtain ⟨W, p, hW, hp, r0, hb⟩ := boxR1 w (.slice a g.1.length c) (.slice b g.2.length d) 25
  have km := fun w h => refmay_any (.slice a g.1.length c) g.1 w h
  have ki := fun V L w h h' => refints_any (.slice b g.2.length d) V g.2 L w h h'
  have kl := fun hok w h => reflive_any (.slice a g.1.length c) g.1 w h hok hl
  obtain ⟨n1, hn1⟩ : ∃ n, g.1.length = n := ⟨_, rfl⟩
  obtain ⟨n2, hn2⟩ : ∃ n, g.2.length = n := ⟨_, rfl⟩
  rw [hn1, hn2] at hW r0 ⊢
  rw [hn1] at u1 km kl
  rw [hn2] at u2 ki
  have U1 := Lib.hid (u1.below hb); have U2 := Lib.hid (u2.belowB hb); have HW := Lib.hid hW; have HP := Lib.hid hp; have BB := Lib.hid hb; have R0 := Lib.hid r0
  clear h u1 u2 hW hp r0 hb hn1 hn2 hl
  have e1 : ∀ args w, (callFunc 17 args).run Try.prog w = .ok (.enter 17 args) w := enters_of Try.func17 (by kernel_rfl) rfl
  have e2 : ∀ args w, (callFunc 19 args).run Try.prog w = .ok (.enter 19 args) w := enters_of Try.func19 (by kernel_rfl) rfl
  have e3 : ∀ args w, (callFunc 23 args).run Try.prog w = .ok (.enter 23 args) w := enters_of Try.func23 (by kernel_rfl) rfl
  unfold okG
  obtain ⟨o, ho⟩ : ∃ o, okE g.1 = o := ⟨_, rfl⟩
  rw [ho] at km ⊢
  cases o
  · have KM := Lib.hid km
    clear km ki kl ho
    go_enter Try.func14, Try.ntmps14
    go_upto_region 1 with fail
    rw [HW.out, HP.out]
    refine rol_run (by kernel_rfl) [[], [0], [0, 1], [0, 1, 2], [0, 1, 2, 3], [0, 1, 2, 3, 4], [0, 1, 2, 3], [0, 1, 2, 3, 6], [0, 1, 2, 3, 6, 7], [0, 1, 2, 3, 4, 5, 6, 7, 8], [0, 1, 2, 3, 4, 5, 6, 7, 8, 9], [0, 1, 2, 3, 4, 5, 6, 7, 8, 9, 10]] (by kernel_rfl) [3, 4, 5, 6, 7, 8, 9, 10, 11, 12, 13, 2] [[], [0, 12], [1], [2], [3], [3], [3], [3], [3], [3], [3], [10]] [0, 0, 0, 0, 0, 0, 0, 0, 0, 0, 0, 0, 3] [0, 0, 0, 0, 0, 0, 0, 0, 0, 0, 0, 0] [1000, 1000, 1000, 1000, 1000, 1000, 1000, 1000, 1000, 1000, 1000, 1000, 1000] [.val 3 (.pointer (some ⟨p, 0, none⟩)), .val 4 (.slice a n1 c), .val 5 (.bool false), .val 6 (.bool false), .val 7 undef, .val 8 undef, .val 9 undef, .val 10 undef, .val 11 undef, .val 12 undef, .val 13 (.bool false), .val 2 (.bool false), .box (p) (.cells #[.slice a n1 c, .slice b n2 d] 25)] (by kernel_rfl) ?_ (W.heap.size) (W.heap.size) rfl (Below.refl _ _) rfl (fun _ => 3) ?_ ?_ ?_
    · intro j hj
      have hj3 : j < 13 := hj
      have hj2 : j = 0 ∨ j = 1 ∨ j = 2 ∨ j = 3 ∨ j = 4 ∨ j = 5 ∨ j = 6 ∨ j = 7 ∨ j = 8 ∨ j = 9 ∨ j = 10 ∨ j = 11 ∨ j = 12 := by omega
      clear hj hj3
      rcases hj2 with rfl | rfl | rfl | rfl | rfl | rfl | rfl | rfl | rfl | rfl | rfl | rfl | rfl
      · exact trivial
      · exact trivial
      · exact trivial
      · exact trivial
      · exact trivial
      · exact trivial
      · exact trivial
      · exact trivial
      · exact trivial
      · exact trivial
      · exact trivial
      · exact trivial
      · exact trivial
    · intro j hj0 hj
      have hj1 : 12 ≤ j := hj0
      have hj3 : j < 13 := hj
      have hj2 : j = 12 := by omega
      clear hj0 hj hj1 hj3
      rcases hj2 with rfl
      · exact ⟨R0.out, rfl⟩
    · intro i hi a wx who hG hF
      have hz : a.tmps.size = 14 := hG.size
      have hi3 : i < 12 := hi
      have hi2 : i = 0 ∨ i = 1 ∨ i = 2 ∨ i = 3 ∨ i = 4 ∨ i = 5 ∨ i = 6 ∨ i = 7 ∨ i = 8 ∨ i = 9 ∨ i = 10 ∨ i = 11 := by omega
      clear hi hi3
      rcases hi2 with rfl | rfl | rfl | rfl | rfl | rfl | rfl | rfl | rfl | rfl | rfl | rfl
      · exact rol_val rfl rfl rfl (by rw [hz]; decide) (ex_field rfl (eval_slot ((hG.slots 1 (by decide)).trans rfl)) (by go_simp)) hG.below
      · exact rol_val rfl rfl rfl (by rw [hz]; decide) (ex_load rfl (eval_slot (hF 0 (by decide))) (ld_eds (row2 (hF 12 (by decide)).1).1)) hG.below
      · refine rol_calls rfl rfl rfl (by rw [hz]; decide) (ex_call rfl (by simp [eval_slot (hF 1 (by decide))]) e1) (KM.out wx (U1.out.below hG.below)) ?_ hG.below hG.new
        rintro e w1 ⟨rfl, hb1⟩
        exact ⟨_, rfl, hb1, .inl rfl⟩
      · exact rol_val rfl rfl rfl (by rw [hz]; decide) (ex_move (Or.inl rfl) (eval_slot (hF 2 (by decide)))) hG.below
      · exact rol_val_skip rfl (want_no rfl rfl (hF 3 (by decide)) (by decide)) rfl (by rw [hz]; decide) hG.below
      · exact rol_val_skip rfl (want_no rfl rfl (hF 3 (by decide)) (by decide)) rfl (by rw [hz]; decide) hG.below
      · exact rol_val_skip rfl (want_no rfl rfl (hF 3 (by decide)) (by decide)) rfl (by rw [hz]; decide) hG.below
      · exact rol_val_skip rfl (want_no rfl rfl (hF 3 (by decide)) (by decide)) rfl (by rw [hz]; decide) hG.below
      · exact rol_val_skip rfl (want_no rfl rfl (hF 3 (by decide)) (by decide)) rfl (by rw [hz]; decide) hG.below
      · exact rol_val_skip rfl (want_no rfl rfl (hF 3 (by decide)) (by decide)) rfl (by rw [hz]; decide) hG.below
      · exact rol_val rfl rfl rfl (by rw [hz]; decide) (ex_pick_no rfl (eval_slot (hF 3 (by decide))) rfl) hG.below
      · exact rol_val rfl rfl rfl (by rw [hz]; decide) (ex_move (Or.inr rfl) (eval_slot (hF 10 (by decide)))) hG.below
    · intro a wx who hG hF
      have fv2 : a.tmps.getD 2 undef = .bool false := eval_slot (s := 2) (hF 11 (of_decide_eq_true (by kernel_rfl)) (of_decide_eq_true (by kernel_rfl)))
      have hbx := hG.below
      have hnx := hG.new
      rw [hG.frame]
      simp only [List.foldl_cons, List.foldl_nil, List.setIfInBounds_toArray, List.set_cons_zero, List.set_cons_succ]
      generalize a.tmps.getD 3 undef = u3
      generalize a.tmps.getD 4 undef = u4
      generalize a.tmps.getD 5 undef = u5
      generalize a.tmps.getD 6 undef = u6
      generalize a.tmps.getD 7 undef = u7
      generalize a.tmps.getD 8 undef = u8
      generalize a.tmps.getD 9 undef = u9
      generalize a.tmps.getD 10 undef = u10
      generalize a.tmps.getD 11 undef = u11
      generalize a.tmps.getD 12 undef = u12
      generalize a.tmps.getD 13 undef = u13
      rw [fv2]
      clear hF hG fv2
      go_wp2
      go_ret
      exact ⟨rfl, below_step BB.out hbx⟩
  · have kl2 := kl ho
    obtain ⟨L, hL⟩ : ∃ L, liveE g.1 = L := ⟨_, rfl⟩
    rw [hL] at kl2 ⊢
    have ki2 := fun V w h h' => ki V L w h h'
    obtain ⟨R, hR⟩ : ∃ R, decide (g.2 = L) = R := ⟨_, rfl⟩
    rw [hR] at ki2 ⊢
    have KM := Lib.hid km; have KL := Lib.hid kl2; have KI := Lib.hid ki2
    clear km ki kl ho kl2 ki2 hL hR
    go_enter Try.func14, Try.ntmps14
    go_upto_region 1 with fail
    rw [HW.out, HP.out]
    refine rol_run (by kernel_rfl) [[], [0], [0, 1], [0, 1, 2], [0, 1, 2, 3], [0, 1, 2, 3, 4], [0, 1, 2, 3], [0, 1, 2, 3, 6], [0, 1, 2, 3, 6, 7], [0, 1, 2, 3, 4, 5, 6, 7, 8], [0, 1, 2, 3, 4, 5, 6, 7, 8, 9], [0, 1, 2, 3, 4, 5, 6, 7, 8, 9, 10]] (by kernel_rfl) [3, 4, 5, 6, 7, 8, 9, 10, 11, 12, 13, 2] [[], [0, 12], [1], [2], [3], [3, 4, 12], [3], [3, 6, 12], [3, 7], [3, 5, 8], [3, 9], [10]] [0, 0, 0, 0, 0, 0, 0, 0, 1, 0, 0, 0, 3] [0, 0, 0, 0, 0, 0, 0, 0, 0, 0, 0, 0] [1000, 1000, 1000, 1000, 1000, 1000, 1000, 1000, 1000, 1000, 1000, 1000, 1000] [.val 3 (.pointer (some ⟨p, 0, none⟩)), .val 4 (.slice a n1 c), .val 5 (.bool true), .val 6 (.bool true), .val 7 (.pointer (some ⟨p, 1, none⟩)), .val 8 (.slice b n2 d), .val 9 (.pointer (some ⟨p, 0, none⟩)), .val 10 (.slice a n1 c), .mem 11 (rowR W.heap.size 3 1 L.length (intZ L)), .val 12 (.bool R), .val 13 (.bool R), .val 2 (.bool R), .box (p) (.cells #[.slice a n1 c, .slice b n2 d] 25)] (by kernel_rfl) ?_ (W.heap.size) (W.heap.size) rfl (Below.refl _ _) rfl (fun _ => 3) ?_ ?_ ?_
    · intro j hj
      have hj3 : j < 13 := hj
      have hj2 : j = 0 ∨ j = 1 ∨ j = 2 ∨ j = 3 ∨ j = 4 ∨ j = 5 ∨ j = 6 ∨ j = 7 ∨ j = 8 ∨ j = 9 ∨ j = 10 ∨ j = 11 ∨ j = 12 := by omega
      clear hj hj3
      rcases hj2 with rfl | rfl | rfl | rfl | rfl | rfl | rfl | rfl | rfl | rfl | rfl | rfl | rfl
      · exact trivial
      · exact trivial
      · exact trivial
      · exact trivial
      · exact trivial
      · exact trivial
      · exact trivial
      · exact trivial
      · exact rowR_near
      · exact trivial
      · exact trivial
      · exact trivial
      · exact trivial
    · intro j hj0 hj
      have hj1 : 12 ≤ j := hj0
      have hj3 : j < 13 := hj
      have hj2 : j = 12 := by omega
      clear hj0 hj hj1 hj3
      rcases hj2 with rfl
      · exact ⟨R0.out, rfl⟩
    · intro i hi a wx who hG hF
      have hz : a.tmps.size = 14 := hG.size
      have hi3 : i < 12 := hi
      have hi2 : i = 0 ∨ i = 1 ∨ i = 2 ∨ i = 3 ∨ i = 4 ∨ i = 5 ∨ i = 6 ∨ i = 7 ∨ i = 8 ∨ i = 9 ∨ i = 10 ∨ i = 11 := by omega
      clear hi hi3
      rcases hi2 with rfl | rfl | rfl | rfl | rfl | rfl | rfl | rfl | rfl | rfl | rfl | rfl
      · exact rol_val rfl rfl rfl (by rw [hz]; decide) (ex_field rfl (eval_slot ((hG.slots 1 (by decide)).trans rfl)) (by go_simp)) hG.below
      · exact rol_val rfl rfl rfl (by rw [hz]; decide) (ex_load rfl (eval_slot (hF 0 (by decide))) (ld_eds (row2 (hF 12 (by decide)).1).1)) hG.below
      · refine rol_calls rfl rfl rfl (by rw [hz]; decide) (ex_call rfl (by simp [eval_slot (hF 1 (by decide))]) e1) (KM.out wx (U1.out.below hG.below)) ?_ hG.below hG.new
        rintro e w1 ⟨rfl, hb1⟩
        exact ⟨_, rfl, hb1, .inl rfl⟩
      · exact rol_val rfl rfl rfl (by rw [hz]; decide) (ex_move (Or.inl rfl) (eval_slot (hF 2 (by decide)))) hG.below
      · exact rol_val rfl (want_yes rfl rfl (hF 3 (by decide))) rfl (by rw [hz]; decide) (ex_field rfl (eval_slot ((hG.slots 1 (by decide)).trans rfl)) (by go_simp)) hG.below
      · exact rol_val rfl (want_yes rfl rfl (hF 3 (by decide))) rfl (by rw [hz]; decide) (ex_load rfl (eval_slot (hF 4 (by decide))) (ld_ints (row2 (hF 12 (by decide)).1).2.1)) hG.below
      · exact rol_val rfl (want_yes rfl rfl (hF 3 (by decide))) rfl (by rw [hz]; decide) (ex_field rfl (eval_slot ((hG.slots 1 (by decide)).trans rfl)) (by go_simp)) hG.below
      · exact rol_val rfl (want_yes rfl rfl (hF 3 (by decide))) rfl (by rw [hz]; decide) (ex_load rfl (eval_slot (hF 6 (by decide))) (ld_eds (row2 (hF 12 (by decide)).1).1)) hG.below
      · refine rol_calls rfl (want_yes rfl rfl (hF 3 (by decide))) rfl (by rw [hz]; decide) (ex_call rfl (by simp [eval_slot (hF 7 (by decide))]) e2) (KL.out wx (U1.out.below hG.below)) ?_ hG.below hG.new
        rintro e w1 ⟨u, rfl, hown, hb1⟩
        exact ⟨u, rfl, hb1, .inr (.inl ⟨_, u.ownBlock, rfl, fun b e => hown.lt b e, row_base hown hG.new, rfl⟩)⟩
      · obtain ⟨v11, ob11, hv11, -, hrow, -⟩ := hF 8 (by decide)
        refine rol_calls rfl (want_yes rfl rfl (hF 3 (by decide))) rfl (by rw [hz]; decide) (ex_call rfl (by simp [eval_slot (hF 5 (by decide)), eval_slot hv11]) e3) (KI.out v11 wx (U2.out.belowB hG.below) (Ints.owned hrow rfl)) ?_ hG.below hG.new
        rintro e w1 ⟨rfl, hb1⟩
        exact ⟨_, rfl, hb1, .inl rfl⟩
      · exact rol_val rfl rfl rfl (by rw [hz]; decide) (ex_pick_yes rfl (eval_slot (hF 3 (by decide))) (eval_slot (hF 9 (by decide)))) hG.below
      · exact rol_val rfl rfl rfl (by rw [hz]; decide) (ex_move (Or.inr rfl) (eval_slot (hF 10 (by decide)))) hG.below
    · intro a wx who hG hF
      have fv2 : a.tmps.getD 2 undef = .bool R := eval_slot (s := 2) (hF 11 (of_decide_eq_true (by kernel_rfl)) (of_decide_eq_true (by kernel_rfl)))
      have hbx := hG.below
      have hnx := hG.new
      rw [hG.frame]
      simp only [List.foldl_cons, List.foldl_nil, List.setIfInBounds_toArray, List.set_cons_zero, List.set_cons_succ]
      generalize a.tmps.getD 3 undef = u3
      generalize a.tmps.getD 4 undef = u4
      generalize a.tmps.getD 5 undef = u5
      generalize a.tmps.getD 6 undef = u6
      generalize a.tmps.getD 7 undef = u7
      generalize a.tmps.getD 8 undef = u8
      generalize a.tmps.getD 9 undef = u9
      generalize a.tmps.getD 10 undef = u10
      generalize a.tmps.getD 11 undef = u11
      generalize a.tmps.getD 12 undef = u12
      generalize a.tmps.getD 13 undef = u13
      rw [fv2]
      clear hF hG fv2
      go_wp2
      go_ret
      exact ⟨rfl, below_step BB.out hbx⟩
end Go.Proofs.Ytfkbpkjejnpaiaa
