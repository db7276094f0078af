/- THE TEXTS OF PatC PatD PatE PatF: A path's elements, whether a text is a path, what elements are put together, and which path is within which: of the program and of the document. What elements are put together, and which path is within which: of the program and of the document; the chapter's examples hold. The document's Within; the chapter's examples hold. The contracts of path at texts as the statements have them, and what they lean on. -/
import Derived.Test.YtnngfcjfhhfafaaGreatPatB
namespace Go.Proofs.YtnngfcjfhhfafaaGreat
open Go.RowKit
set_option maxRecDepth 100000

def pathE (l : List UInt8) : Int := if pathB l = true then 0 else 1
def elsL (l : List UInt8) : List (List UInt8) := if pathB l = true then splitL 47 l else []
theorem elsL_ok {l : List UInt8} (h : pathB l = true) : elsL l = splitL 47 l := by unfold elsL; rw [if_pos h]
theorem elsL_no {l : List UInt8} (h : pathB l = false) : elsL l = [] := by unfold elsL; rw [if_neg (by simp [h])]
theorem pathE_ok {l : List UInt8} (h : pathB l = true) : pathE l = 0 := by unfold pathE; rw [if_pos h]
theorem pathE_no {l : List UInt8} (h : pathB l = false) : pathE l = 1 := by unfold pathE; rw [if_neg (by simp [h])]
theorem elsL_len (l : List UInt8) : (elsL l).length ≤ l.length + 1 := by
  unfold elsL
  split
  · exact splitL_len 47 l
  · simp
theorem elsL_le (l : List UInt8) : ∀ p ∈ elsL l, p.length ≤ l.length := by
  unfold elsL
  split
  · exact split_le 47 l
  · intro p hp; cases hp

set_option maxHeartbeats 800000 in
theorem elements_any (s : ByteArray) (w : World) (hs : s.size ≤ 1000000000) :
    Calls Tryz.prog 63 #[.string s] w fun e w' => ∃ a c, e = .returned (.tuple #[.slice a (elsL s.data.toList).length c, .int .i64 (pathE s.data.toList)]) ∧ Strs w' (.slice a (elsL s.data.toList).length c) (elsL s.data.toList) ∧ Bel w.heap.size w w' := by
  have hle := split_le 47 s.data.toList
  obtain ⟨ls, hls⟩ : ∃ ls, ls = splitL 47 s.data.toList := ⟨_, rfl⟩
  rw [← hls] at hle
  have hfit : ∀ l ∈ ls, l.length ≤ 1000000000 := fun l hl => by have := hle l hl; rw [← Lib.size_eq] at this; omega
  have HF := Lib.hid hfit; clear hle hfit
  cases hp : pathB s.data.toList
  · have he := elsL_no hp
    have hq := pathE_no hp
    have hq2 : ls.all elemB = false := by rw [hls]; exact hp
    have HE := Lib.hid he; have HQ := Lib.hid hq; have HQ2 := Lib.hid hq2; have HLS := Lib.hid hls; have HS := Lib.hid hs
    rw [he, hq]
    clear he hq hq2 hls hp hs
    go_enter Tryz.func63, Tryz.ntmps63
    go_wp2_with (first
      | (go_at_call 79; refine (parts_any s 47 _ HS.out).mono ?_; rintro e w1 ⟨v, rfl, ho, hb1⟩; rw [← HLS.out] at ho; have ST := Lib.hid (Strs.owned ho); clear ho)
      | (go_at_call 80; refine (pfit_any _ ls _ ST.out HF.out).mono ?_; rintro e w2 ⟨rfl, hb2⟩; rw [HQ2.out]))
    go_ret2
    exact ⟨none, 0, rfl, strs_none _, bel_step hb1 hb2⟩
  · have he := elsL_ok hp
    have hq := pathE_ok hp
    have hq2 : ls.all elemB = true := by rw [hls]; exact hp
    rw [← hls] at he
    have HE := Lib.hid he; have HQ := Lib.hid hq; have HQ2 := Lib.hid hq2; have HLS := Lib.hid hls; have HS := Lib.hid hs
    rw [he, hq]
    clear he hq hq2 hls hp hs
    go_enter Tryz.func63, Tryz.ntmps63
    go_wp2_with (first
      | (go_at_call 79; refine (parts_any s 47 _ HS.out).mono ?_; rintro e w1 ⟨v, rfl, ho, hb1⟩; rw [← HLS.out] at ho; have ST := Lib.hid (Strs.owned ho); clear ho)
      | (go_at_call 80; refine (pfit_any _ ls _ ST.out HF.out).mono ?_; rintro e w2 ⟨rfl, hb2⟩; rw [HQ2.out]))
    have hST2 := ST.out.below hb2
    obtain ⟨a, c, rfl, _⟩ := hST2.ex
    have HST2 := Lib.hid hST2; clear hST2
    go_ret2
    exact ⟨a, c, rfl, HST2.out, bel_step hb1 hb2⟩

set_option maxHeartbeats 400000 in
theorem pmay_any (s : ByteArray) (w : World) (hs : s.size ≤ 1000000000) :
    Calls Tryz.prog 42 #[.string s] w fun e w' => e = .returned (.bool (pathB s.data.toList)) ∧ Bel w.heap.size w w' := by
  have HS := Lib.hid hs; clear hs
  cases hp : pathB s.data.toList
  · have hq := pathE_no hp
    have HQ := Lib.hid hq; clear hq hp
    go_enter Tryz.func42, Tryz.ntmps42
    go_wp2_with (go_at_call 63; refine (elements_any s _ HS.out).mono ?_; rintro e w1 ⟨a, c, rfl, hst, hb1⟩; rw [HQ.out]; clear hst)
    go_ret
    exact ⟨rfl, by assumption⟩
  · have hq := pathE_ok hp
    have HQ := Lib.hid hq; clear hq hp
    go_enter Tryz.func42, Tryz.ntmps42
    go_wp2_with (go_at_call 63; refine (elements_any s _ HS.out).mono ?_; rintro e w1 ⟨a, c, rfl, hst, hb1⟩; rw [HQ.out]; clear hst)
    go_ret
    exact ⟨rfl, by assumption⟩

set_option maxHeartbeats 800000 in
theorem refpmay_any (s : ByteArray) (w : World) (hs : s.size ≤ 1000000000) :
    Calls Tryz.prog 31 #[.string s] w fun e w' => e = .returned (.bool (pathB s.data.toList)) ∧ Bel w.heap.size w w' := by
  have hle := split_le 47 s.data.toList
  have hll := splitL_len 47 s.data.toList
  rw [← Lib.size_eq] at hll
  obtain ⟨ls, hls⟩ : ∃ ls, ls = splitL 47 s.data.toList := ⟨_, rfl⟩
  have hp : pathB s.data.toList = ls.all elemB := by rw [hls]; rfl
  rw [hp]
  rw [← hls] at hle hll
  have hfit : ∀ l ∈ ls, l.length ≤ 1000000000 := fun l hl => by have := hle l hl; rw [← Lib.size_eq] at this; omega
  have HF := Lib.hid hfit; have HS := Lib.hid hs; have HLS := Lib.hid hls; clear hle hfit hs hls hp
  go_enter Tryz.func31, Tryz.ntmps31
  go_wp2_with (go_at_call 53; refine (refparts_any s 47 _ HS.out).mono ?_; rintro e w1 ⟨v, rfl, ho, hb1⟩; rw [← HLS.out] at ho; have hst := Strs.owned ho; clear ho)
  obtain ⟨a, c, rfl, h1, h2, _, h3⟩ := hst.ex
  unfold maxLen at h2
  have H3 := Lib.hid h3; clear hst h3
  go_loopw [4] (fun i wr => ∃ k : Nat, k ≤ ls.length ∧ i = .int .i64 k ∧ Hid ((ls.drop k).all elemB = ls.all elemB) ∧ ∃ n, wr = w1.drewN n) (fun i _ => ls.length - (intOf i).toNat)
  case atStart => exact ⟨0, Nat.zero_le _, rfl, Lib.hid (by simp), 0, rfl⟩
  case round =>
    obtain ⟨k, hk, rfl, H, n, rfl⟩ := hrel
    by_cases hlt : k < ls.length
    · obtain ⟨b, off, rfl, hbk, hc⟩ := H3.out (by omega)
      have hcell : w1.cell? ⟨b, off + k, none⟩ = some (.string (mkB (ls.getD k []))) := hc k hlt
      clear hc
      obtain ⟨y, hy⟩ : ∃ y, y = ls.getD k [] := ⟨_, rfl⟩
      rw [← hy] at hcell
      have hd : (ls.drop k).all elemB = (elemB y && (ls.drop (k + 1)).all elemB) := by
        rw [List.drop_eq_getElem_cons hlt, List.all_cons, hy, List.getD_eq_getElem?_getD, List.getElem?_eq_getElem hlt]; rfl
      have hyl : (mkB y).size ≤ 1000000000 := by
        rw [mkB_size, hy, List.getD_eq_getElem?_getD, List.getElem?_eq_getElem hlt]
        exact HF.out _ (List.getElem_mem hlt)
      have HYL := Lib.hid hyl; have HD := Lib.hid hd; clear hyl hd hy
      cases hq : elemB y
      · have hr : ls.all elemB = false := by rw [← H.out, HD.out, hq]; rfl
        have HR := Lib.hid hr; have HQ := Lib.hid hq; clear hr hq
        go_wp2_with (go_at_call 54; refine (refelement_any _ _ HYL.out).mono ?_; rintro e w' ⟨rfl, rfl⟩; rw [mkB_list, HQ.out])
        go_ret
        exact ⟨ret_bool HR.out.symm, bel_step hb1 (bel_q ⟨_, rfl⟩)⟩
      · have hr : (ls.drop (k + 1)).all elemB = ls.all elemB := by rw [← H.out, HD.out, hq]; rfl
        have HR := Lib.hid hr; have HQ := Lib.hid hq; clear hr hq
        go_wp2_with (go_at_call 54; refine (refelement_any _ _ HYL.out).mono ?_; rintro e w' ⟨rfl, rfl⟩; rw [mkB_list, HQ.out])
        go_roundw
        case rel => exact ⟨k + 1, by omega, by go_num, HR, by first | exact ⟨_, rfl⟩ | (simp only [World.drewN_drewN]; exact ⟨_, rfl⟩)⟩
        case measure => simp [intOf]; omega
    · have hr : ls.all elemB = true := by rw [← H.out, List.drop_eq_nil_of_le (by omega)]; rfl
      have HR := Lib.hid hr; clear hr
      go_wp2
      go_ret
      exact ⟨ret_bool HR.out.symm, bel_step hb1 (bel_q ⟨_, rfl⟩)⟩
end Go.Proofs.YtnngfcjfhhfafaaGreat

namespace Go.Proofs.YtnngfcjfhhfafaaGreat
open Go.RowKit
set_option maxRecDepth 100000

def joinP (ls : List (List UInt8)) : List UInt8 × Int := if okJ ls = true then (jn 47 ls, 0) else ([], 1)
theorem joinP_ok {ls : List (List UInt8)} (h : okJ ls = true) : joinP ls = (jn 47 ls, 0) := by unfold joinP; rw [if_pos h]
theorem joinP_no {ls : List (List UInt8)} (h : okJ ls = false) : joinP ls = ([], 1) := by unfold joinP; rw [if_neg (by simp [h])]

theorem Strs.cut {w : World} {a : Option Addr} {len cap : Nat} {zs : List (List UInt8)} (h : Strs w (.slice a len cap) zs) (k : Nat) (hk : k ≤ len) : Strs w (.slice a k cap) (zs.take k) := by
  obtain ⟨a', c', hv, h1, h2, hn, h3⟩ := h.ex
  injection hv with e1 e2 e3
  subst e1 e2 e3
  have e : (zs.take k).length = k := by simp; omega
  refine ⟨a, cap, by rw [e], by omega, h2, hn, fun hp => ?_⟩
  rw [e] at hp ⊢
  obtain ⟨b, off, ha, hlt, hc⟩ := h3 (by omega)
  refine ⟨b, off, ha, hlt, fun j hj => ?_⟩
  rw [hc j (by omega)]
  congr 1
  simp only [List.getD_eq_getElem?_getD, List.getElem?_take, if_pos hj]

end Go.Proofs.YtnngfcjfhhfafaaGreat

namespace Go.Proofs.YtnngfcjfhhfafaaGreat
open Go.RowKit
set_option maxRecDepth 100000

theorem pmay_at (l : List UInt8) (hl : l.length ≤ 1000000000) (r : Bool) (h : pathB l = r) (w : World) :
    Calls Tryz.prog 42 #[.string ⟨l.toArray⟩] w fun e w' => e = .returned (.bool r) ∧ Bel w.heap.size w w' := by
  subst h
  have := pmay_any (mkB l) w (by rw [mkB_size]; exact hl)
  rwa [mkB_list] at this
end Go.Proofs.YtnngfcjfhhfafaaGreat

namespace Go.Proofs.YtnngfcjfhhfafaaGreat
open Go.RowKit
set_option maxRecDepth 100000

theorem m_size {x : List UInt8} (h : x.length ≤ 1000000000) : (mkB x).size ≤ 1000000000 := by rw [mkB_size]; exact h
theorem elements_m (x : List UInt8) (w : World) (h : x.length ≤ 1000000000) :
    Calls Tryz.prog 63 #[.string (mkB x)] w fun e w' => ∃ a c, e = .returned (.tuple #[.slice a (elsL x).length c, .int .i64 (pathE x)]) ∧ Strs w' (.slice a (elsL x).length c) (elsL x) ∧ Bel w.heap.size w w' := by
  have := elements_any (mkB x) w (m_size h)
  rwa [mkB_list] at this
theorem pmay_m (x : List UInt8) (w : World) (h : x.length ≤ 1000000000) :
    Calls Tryz.prog 42 #[.string (mkB x)] w fun e w' => e = .returned (.bool (pathB x)) ∧ Bel w.heap.size w w' := by
  have := pmay_any (mkB x) w (m_size h)
  rwa [mkB_list] at this
theorem refpmay_m (x : List UInt8) (w : World) (h : x.length ≤ 1000000000) :
    Calls Tryz.prog 31 #[.string (mkB x)] w fun e w' => e = .returned (.bool (pathB x)) ∧ Bel w.heap.size w w' := by
  have := refpmay_any (mkB x) w (m_size h)
  rwa [mkB_list] at this
theorem refparts_m (x : List UInt8) (c : Int) (w : World) (h : x.length ≤ 1000000000) :
    Calls Tryz.prog 53 #[.string (mkB x), .int .u8 c] w fun e w' => ∃ a k, e = .returned (.slice a (splitL c x).length k) ∧ Strs w' (.slice a (splitL c x).length k) (splitL c x) ∧ Bel w.heap.size w w' := by
  refine (refparts_any (mkB x) c w (m_size h)).mono ?_
  rintro e w' ⟨v, rfl, ho, hb⟩
  rw [mkB_list] at ho
  have hst := Strs.owned ho
  obtain ⟨a, k, rfl, _⟩ := hst.ex
  exact ⟨a, k, rfl, hst, hb⟩
theorem elementm_any (x : List UInt8) (w : World) (h : x.length ≤ 1000000000) :
    Calls Tryz.prog 54 #[.string (mkB x)] w fun e w' => e = .returned (.bool (elemB x)) ∧ w = w' := by
  have := refelement_any (mkB x) w (m_size h)
  rwa [mkB_list] at this
end Go.Proofs.YtnngfcjfhhfafaaGreat
