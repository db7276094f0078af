/- What spreads from a number over edges: spread. -/
import Derived.Test.YtfkbpkjejnpaiaaReaC
namespace Go.Proofs.Ytfkbpkjejnpaiaa
open Go.RowKit Go.Maps
set_option linter.unusedVariables false
set_option maxRecDepth 100000

/-! ### What a map's change leaves -/
theorem ZMap.noCell {w : World} {b nn : Nat} {S : List Int} (h : ZMap w b nn S) {p : Addr} {v : Value} (hc : w.cell? p = some v) : p.block ≠ b := by
  rintro rfl
  obtain ⟨_, D, ⟨es, clock, he, _⟩, _⟩ := h
  unfold World.cell? at hc
  rw [he] at hc
  simp at hc
theorem Eds.keep {w w' : World} {v : Value} {l : List Ed} {b nn : Nat} {S : List Int} (h : Eds w v l) (hz : ZMap w b nn S) (hg : w.grownBy w' (some b)) : Eds w' v l := by
  obtain ⟨a, c, hv, h1, h2, hn, h3⟩ := h.ex
  refine ⟨a, c, hv, h1, h2, hn, fun hp => ?_⟩
  obtain ⟨k, off, ha, hlt, hc⟩ := h3 hp
  have hne : some k ≠ some b := fun e => hz.noCell (hc 0 hp).1 (by simpa using e)
  have hk : ∀ j, w'.cell? ⟨k, j, none⟩ = w.cell? ⟨k, j, none⟩ := fun j => World.cell?_of_block (hg.block k hlt hne)
  exact ⟨k, off, ha, Nat.lt_of_lt_of_le hlt hg.size, fun j hj => by rw [hk, hk, hk]; exact hc j hj⟩
theorem ints_keep {w w' : World} {v : Value} {l : List Int} {b nn : Nat} {S : List Int} (h : Ints w v l) (hz : ZMap w b nn S) (hg : w.grownBy w' (some b)) : Ints w' v l := by
  obtain ⟨a, c, hv, h1, h2, hn, h3⟩ := h.ex
  refine ⟨a, c, hv, h1, h2, hn, fun hp => ?_⟩
  obtain ⟨k, off, ha, hlt, hc⟩ := h3 hp
  have hne : some k ≠ some b := fun e => hz.noCell (hc 0 hp) (by simpa using e)
  have hk : ∀ j, w'.cell? ⟨k, j, none⟩ = w.cell? ⟨k, j, none⟩ := fun j => World.cell?_of_block (hg.block k hlt hne)
  exact ⟨k, off, ha, Nat.lt_of_lt_of_le hlt hg.size, fun j hj => by rw [hk]; exact hc j hj⟩
theorem ZMap.belowB {w w' : World} {b nn B : Nat} {S : List Int} (h : ZMap w b nn S) (hb : Below B w w') (hB : b < B) : ZMap w' b nn S := by
  obtain ⟨hf, D, ⟨es, clock, he, rest⟩, hD⟩ := h
  exact ⟨hf, D, ⟨es, clock, (hb.block b hB).trans he, rest⟩, hD⟩
theorem grown_then {a b c : World} {row : Option Nat} (h : a.grownBy b row) (k : Below a.heap.size b c) : a.grownBy c row :=
  ⟨k.os.trans h.os, k.tape.trans h.tape, k.output.trans h.output, Nat.le_trans h.size k.size, fun i hi hn => (k.block i hi).trans (h.block i hi hn)⟩
theorem row_grown {w w' : World} {base b : Nat} {e : TypeId} {size n : Nat} {v : Value} {xs : List Value} (h : w.ownsRow base e size v n xs) (hg : w.grownBy w' (some b)) (hb : b < base) : w'.ownsRow base e size v n xs :=
  h.kept hg (.inr fun e => by have := (h.lt b e).1; omega)
/-- How many entries the map in a block has. -/
def sizeW (w : World) (b : Nat) : Nat := match w.heap[b]? with
  | some (.map es _) => es.size
  | _ => 0
theorem sizeW_eq {w : World} {b nn : Nat} {S : List Int} (h : ZMap w b nn S) : sizeW w b = S.length := by
  obtain ⟨_, D, ⟨es, clock, he, _, _, hD⟩, hs, _⟩ := h
  unfold sizeW
  rw [he, ← hs, hD]
  show es.size = ((es.toList.map _).foldr DataW.insert []).length
  rw [length_sorted]; simp
theorem ZMap.len {w : World} {b nn : Nat} {S : List Int} (h : ZMap w b nn S) : S.length ≤ nn := by
  obtain ⟨_, D, ho, hs, _⟩ := h
  have := ho.size_le
  omega
def lenOf : Value → Nat
  | .slice _ n _ => n
  | _ => 0
theorem last_or (l : List Int) : l = [] ∨ ∃ us x, l = us ++ [x] := by
  rcases List.eq_nil_or_concat l with h | ⟨us, x, h⟩
  · exact .inl h
  · exact .inr ⟨us, x, by simpa using h⟩
/-- A row of the call's own, but for its last one. -/
theorem row_short {w : World} {base : Nat} {e : TypeId} {v : Value} {t : Nat} {xs : List Value} {x : Value} (h : w.ownsRow base e 1 v (t + 1) (xs ++ [x])) (hx : xs.length = t) : ∃ g c, v = .slice (some ⟨g, 0, none⟩) (t + 1) c ∧ w.cell? ⟨g, t, none⟩ = some x ∧ t + 1 ≤ c ∧ w.ownsRow base e 1 (.slice (some ⟨g, 0, none⟩) t c) t xs := by
  have hcell := fun g c (e : v = .slice (some ⟨g, 0, none⟩) (t + 1) c) => (by subst e; exact h.cellAt t (by omega) : w.cell? ⟨g, t, none⟩ = (xs ++ [x])[t]?)
  obtain ⟨h1, h0 | ⟨g, c, cur, hv, h2, h3, h4, h5, h6, h7⟩⟩ := h
  · exact absurd h0.2 (by omega)
  · refine ⟨g, c, hv, ?_, h4, by omega, .inr ⟨g, c, cur, rfl, h2, h3, by omega, h5, h6, ?_⟩⟩
    · rw [hcell g c hv, ← hx]; simp
    · have : cur.toList.take (t * 1) = (cur.toList.take ((t + 1) * 1)).take (t * 1) := by rw [List.take_take]; congr 1; omega
      rw [this, h7, Nat.mul_one, ← hx]; simp
theorem row_one (w : World) (z : Int) (t : TypeId) : (w.alloc (.cells #[.int .i64 z] t)).ownsRow w.heap.size t 1 (.slice (some ⟨w.heap.size, 0, none⟩) 1 1) 1 (intZ [z]) :=
  ⟨by simp, .inr ⟨w.heap.size, 1, _, rfl, Nat.le_refl _, heap_alloc_new w _, Nat.le_refl _, by unfold maxLen; omega, rfl, rfl⟩⟩
theorem next_fit {l : List Ed} (hf : ∀ e ∈ l, fitE e) {x y : Int} (h : y ∈ nextE l x) : fitI y := by
  obtain ⟨e, he, -, rfl⟩ := next_to.1 h
  exact (hf e he).2.1
theorem spr_less {N s t k q : Nat} (hs : s < N) (hk : k ≤ q) : (N - (s + 1)) * (q + 2) + (t + k) < (N - s) * (q + 2) + (t + 1) := by
  obtain ⟨r, hr⟩ : ∃ r, N - s = r + 1 := ⟨N - s - 1, by omega⟩
  rw [hr, show N - (s + 1) = r by omega, Nat.succ_mul]
  omega

set_option maxHeartbeats 3200000 in
theorem spread_any (V : Value) (l : List Ed) (b nn : Nat) (S0 : List Int) (z : Int) (w : World) (h : Eds w V l) (hz : ZMap w b nn S0) (hok : okE l = true) (hf : ∀ e ∈ l, fitE e) (hfz : fitI z) (hl : l.length ≤ 1000000) (hnn : nn ≤ 1000000) :
    Calls Try.prog 31 #[.map (some b), V, .int .i64 z] w fun e w' => e = .returned (.tuple #[]) ∧ (∃ S mm, Spread l S0 z S ∧ ZMap w' b mm S ∧ mm ≤ nn + l.length + 1) ∧ w.grownBy w' (some b) := by
  obtain ⟨N, hN⟩ : ∃ N, nn + 1 + cntE l S0 = N := ⟨_, rfl⟩
  have hN2 : N ≤ nn + l.length + 1 := by have := cnt_le l S0; omega
  have kn := fun (x : Int) (w' : World) h => rnext_any V l x w' h hok hl
  have knl := fun x => nextE_len l x
  obtain ⟨n, hn⟩ : ∃ n, l.length = n := ⟨_, rfl⟩
  rw [hn] at hN2 knl hl ⊢
  have ST := Lib.hid h; have HZ := Lib.hid hz; have HF := Lib.hid hf; have HFZ := Lib.hid hfz; have HN := Lib.hid hN; have KN := Lib.hid kn; have KL := Lib.hid knl; have HNL := Lib.hid hn
  have hbw := hz.lt
  have R0 := Lib.hid (row_one w z 3)
  have B0 := Lib.hid ((Below.refl w.heap.size w).alloc (Nat.le_refl _) (.cells #[.int .i64 z] 3))
  clear h hz hf hfz hN kn knl hok hn
  go_enter Try.func31, Try.ntmps31
  go_wp2
  go_loopw [6] (fun v wr => ∃ (S ts : List Int) (mm : Nat), mm + ts.length + cntE l S ≤ N ∧ Hid (Spr l S0 z S ts) ∧ Hid (ZMap wr b mm S) ∧ Hid (wr.ownsRow w.heap.size 3 1 v ts.length (intZ ts)) ∧ Hid (∀ y ∈ ts, fitI y) ∧ Hid (w.grownBy wr (some b))) (fun v wr => (N - sizeW wr b) * (n + 2) + lenOf v)
  case atStart => exact ⟨S0, [z], nn, by have := HN.out; simp; omega, Lib.hid (Spr.start _ _ _), Lib.hid (HZ.out.belowB B0.out hbw), R0, Lib.hid (fun y hy => by rw [List.mem_singleton.1 hy]; exact HFZ.out), Lib.hid (grown_below B0.out)⟩
  case round =>
    obtain ⟨S, ts, mm, hlt, HS, HM, HO, HFT, HG⟩ := hrel
    rcases last_or ts with rfl | ⟨us, x, rfl⟩
    · obtain ⟨a6, c6, rfl, -⟩ := intsZ HO.out
      simp only [List.length_nil] at hlt ⊢
      go_wp2
      go_end0
      exact ⟨rfl, ⟨S, mm, HS.out.done, HM.out, by omega⟩, HG.out⟩
    · obtain ⟨t, ht⟩ : ∃ t, us.length = t := ⟨_, rfl⟩
      have e1 : (us ++ [x]).length = t + 1 := by rw [List.length_append, ht]; rfl
      have hO := HO.out
      rw [e1, intZ_snoc] at hO
      rw [e1] at hlt
      obtain ⟨g, c, rfl, hcell, hc1, hO2⟩ := row_short hO (by rw [List.length_map, ht])
      have hfx := HFT.out x (by simp)
      have hti : (((t + 1 : Nat) : Int)) - 1 = (t : Int) := by omega
      have ht6 : t + 1 ≤ 3000000 := by omega
      have hmm := HM.out.len
      have khas := fun w' h => has_any b mm S x w' h hfx
      obtain ⟨o, ho⟩ : ∃ o, hasB S x = o := ⟨_, rfl⟩
      rw [ho] at khas
      replace HO := Lib.hid hO2; have HFX := Lib.hid hfx; have HT := Lib.hid ht
      clear hO hO2 e1 hfx ht
      cases o
      · have hxS : x ∉ S := by simpa [hasB] using ho
        have HS2 := Lib.hid (HS.out.take hxS)
        have hcnt := cnt_add l hxS
        have hsz : (addI S x).length = S.length + 1 := by unfold addI; rw [if_neg hxS]; simp
        have hkl := KL.out x
        have kn := fun w' h => KN.out x w' h
        obtain ⟨X, hX⟩ : ∃ X, nextE l x = X := ⟨_, rfl⟩
        rw [hX] at HS2 hcnt hkl kn
        have hXf : Hid (∀ y ∈ us ++ X, fitI y) := Lib.hid fun y hy => by
          rcases List.mem_append.1 hy with hy | hy
          · exact HFT.out y (by simp [hy])
          · rw [← hX] at hy; exact next_fit HF.out hy
        obtain ⟨k, hk⟩ : ∃ k, X.length = k := ⟨_, rfl⟩
        rw [hk] at hcnt hkl kn
        have HK := Lib.hid hk; have HSZ := Lib.hid hsz; have HCNT := Lib.hid hcnt
        clear ho hxS hX hk hsz hcnt
        go_wp2_with (first
          | (go_at_call 43; refine (khas _ HM.out).mono ?_; rintro e w3 ⟨rfl, hb3⟩; have HM3 := Lib.hid (HM.out.below hb3); have HO3 := Lib.hid (ownsRow_belowB HO.out hb3); have HG3 := Lib.hid (grown_step HG.out (grown_below hb3)); clear hb3 khas)
          | (go_at_call 49; refine (put_any b mm S x _ HM3.out HFX.out (by omega)).mono ?_; rintro e w4 ⟨rfl, hm4, hg4⟩; have HM4 := Lib.hid hm4; have HO4 := Lib.hid (row_grown HO3.out hg4 hbw); have HG4 := Lib.hid (grown_step HG3.out hg4); clear hm4 hg4)
          | (go_at_call 50; refine (kn _ (ST.out.keep HZ.out HG4.out)).mono ?_; rintro e w5 ⟨v5, rfl, hrow, hb5⟩; obtain ⟨a5, c5, rfl, hI5⟩ := intsZ (by rw [HK.out]; exact hrow); rw [HK.out] at hI5 ⊢; have SI := Lib.hid hI5; have HM5 := Lib.hid (HM4.out.below hb5); have HO5 := Lib.hid (ownsRow_belowB HO4.out hb5); have HG5 := Lib.hid (grown_step HG4.out (grown_below hb5)); clear hrow hb5 hI5 kn)
          | (at_builtin; refine wpList_append_src rfl _ _ 23 rfl w.heap.size 3 (.int .i64 0) 1 8 Try.underlying23 Try.info_int rfl (by decide) _ t _ rfl HO5.out a5 k c5 (intZ X) rfl (by rw [List.length_map, HK.out, Nat.mul_one]) SI.out.src.2.1 SI.out.src.2.2 (by simp [intZ, Value.oneCell']) (by omega) (by unfold maxLen; omega) HG5.out.size ?_; intro v6 w6 hown6 hb6; have HO6 := Lib.hid hown6; have HM6 := Lib.hid (HM5.out.belowB hb6.toBelow hbw); have HG6 := Lib.hid (grown_then HG5.out hb6.toBelow); clear hown6 hb6))
        obtain ⟨a6, c6, rfl, -⟩ := intsZ (l := us ++ X) (by rw [List.length_append, HT.out, HK.out, intZ, List.map_append]; exact HO6.out)
        have ho6 := HO6.out
        rw [List.length_append, HT.out, HK.out] at ho6 ⊢
        replace HO6 := Lib.hid ho6
        clear ho6
        go_roundw
        case rel => exact ⟨addI S x, us ++ X, mm + 1, by rw [List.length_append, HT.out, HK.out]; have := HCNT.out; omega, HS2, HM6, Lib.hid (by rw [List.length_append, HT.out, HK.out, intZ, List.map_append]; exact HO6.out), hXf, HG6⟩
        case measure =>
          rw [sizeW_eq HM6.out, sizeW_eq HM.out, HSZ.out]
          exact spr_less (by omega) hkl
      · have hxS : x ∈ S := by simpa [hasB] using ho
        have HS2 := Lib.hid (HS.out.skip hxS)
        clear ho hxS
        go_wp2_with (go_at_call 43; refine (khas _ HM.out).mono ?_; rintro e w3 ⟨rfl, hb3⟩; have HM3 := Lib.hid (HM.out.below hb3); have HO3 := Lib.hid (ownsRow_belowB HO.out hb3); have HG3 := Lib.hid (grown_step HG.out (grown_below hb3)); clear hb3 khas)
        go_roundw
        case rel => exact ⟨S, us, mm, by have := HT.out; omega, HS2, HM3, Lib.hid (by rw [HT.out]; exact HO3.out), Lib.hid (fun y hy => HFT.out y (by simp [hy])), HG3⟩
        case measure => rw [sizeW_eq HM3.out, sizeW_eq HM.out]; simp [lenOf]
end Go.Proofs.Ytfkbpkjejnpaiaa
