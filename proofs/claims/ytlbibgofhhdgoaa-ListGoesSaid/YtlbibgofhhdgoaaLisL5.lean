/- Of every three lists of nodes (no more, and no longer, than are looked at): what was, with the difference, is what is, and back; above itself, on among three, the same where each is above the other one; no condition. -/
import Derived.Test.YtlbibgofhhdgoaaRows
import Derived.Test.YtlbibgofhhdgoaaLisT
import Derived.Test.YtlbibgofhhdgoaaLisI
import Derived.ProofKit
import Derived.OpenShut
import Derived.ShutString
import Derived.ChangeOld
namespace Go.Proofs.Ytlbibgofhhdgoaa.listGoes
open Go.ChangeShapes Go.WideShapes Go.ChangeAt Go.RowKit
open Go.ChangeMaps (open_string shut_string)
set_option maxRecDepth 100000
set_option linter.unusedVariables false

theorem fewNs_text (l : List Nd) : ∀ n ∈ fewNs l, n.1.length ≤ 400 ∧ n.2.length ≤ 400 := fun n h => by
  obtain ⟨m, _, rfl⟩ := List.mem_map.1 h; exact ⟨fewL_len _, fewL_len _⟩
set_option maxRecDepth 100000 in
set_option maxHeartbeats 3200000 in
theorem walk (Ux : Value) (kx : List Nd) (Uy : Value) (ky : List Nd) (Uz : Value) (kz : List Nd) (w : World) (hUx : Nds w Ux kx ∧ ∀ n ∈ kx, fitsN n) (hUy : Nds w Uy ky ∧ ∀ n ∈ ky, fitsN n) (hUz : Nds w Uz kz ∧ ∀ n ∈ kz, fitsN n) :
    Calls Try.prog 3 #[Ux, Uy, Uz] w fun e w' => e = .returned (.bool true) ∧ Below w.heap.size w w' := by
  obtain ⟨hUx, fUx⟩ := hUx
  obtain ⟨Ax, cx, rfl, -⟩ := hUx.ex
  have kfx := fun V w h => nfewo_any V kx w h fUx
  have hmlx := fewNs_len kx; have hmzx := fewNs_small kx; have hmtx := fewNs_text kx
  obtain ⟨mx, hmx⟩ : ∃ r, kx.length = r := ⟨_, rfl⟩
  rw [hmx] at hUx ⊢
  obtain ⟨sx, hsx⟩ : ∃ r, fewNs kx = r := ⟨_, rfl⟩
  rw [hsx] at kfx hmlx hmzx hmtx
  obtain ⟨nx, hnx⟩ : ∃ r, sx.length = r := ⟨_, rfl⟩
  rw [hnx] at hmlx
  have SUx := Lib.hid hUx; have KFx := Lib.hid kfx; have HZX := Lib.hid hmzx; have HNX := Lib.hid hnx; have HTX := Lib.hid hmtx
  clear hUx fUx kfx hmzx hmtx hmx hsx hnx
  obtain ⟨hUy, fUy⟩ := hUy
  obtain ⟨Ay, cy, rfl, -⟩ := hUy.ex
  have kfy := fun V w h => nfewo_any V ky w h fUy
  have hmly := fewNs_len ky; have hmzy := fewNs_small ky; have hmty := fewNs_text ky
  obtain ⟨my, hmy⟩ : ∃ r, ky.length = r := ⟨_, rfl⟩
  rw [hmy] at hUy ⊢
  obtain ⟨sy, hsy⟩ : ∃ r, fewNs ky = r := ⟨_, rfl⟩
  rw [hsy] at kfy hmly hmzy hmty
  obtain ⟨ny, hny⟩ : ∃ r, sy.length = r := ⟨_, rfl⟩
  rw [hny] at hmly
  have SUy := Lib.hid hUy; have KFy := Lib.hid kfy; have HZY := Lib.hid hmzy; have HNY := Lib.hid hny; have HTY := Lib.hid hmty
  clear hUy fUy kfy hmzy hmty hmy hsy hny
  obtain ⟨hUz, fUz⟩ := hUz
  obtain ⟨Az, cz, rfl, -⟩ := hUz.ex
  have kfz := fun V w h => nfewo_any V kz w h fUz
  have hmlz := fewNs_len kz; have hmzz := fewNs_small kz; have hmtz := fewNs_text kz
  obtain ⟨mz, hmz⟩ : ∃ r, kz.length = r := ⟨_, rfl⟩
  rw [hmz] at hUz ⊢
  obtain ⟨sz, hsz⟩ : ∃ r, fewNs kz = r := ⟨_, rfl⟩
  rw [hsz] at kfz hmlz hmzz hmtz
  obtain ⟨nz, hnz⟩ : ∃ r, sz.length = r := ⟨_, rfl⟩
  rw [hnz] at hmlz
  have SUz := Lib.hid hUz; have KFz := Lib.hid kfz; have HZZ := Lib.hid hmzz; have HNZ := Lib.hid hnz; have HTZ := Lib.hid hmtz
  clear hUz fUz kfz hmzz hmtz hmz hsz hnz
  have BB := Lib.hid (Below.refl w.heap.size w)
  have kcx := fun V w h => lcheck_any V sx w h HZX.out
  have kcy := fun V w h => lcheck_any V sy w h HZY.out
  have kcz := fun V w h => lcheck_any V sz w h HZZ.out
  go_enter Try.func3, Try.ntmps3
  go_upto_region 2 with (first
      | (go_at_call 5; refine (KFx.out _ _ SUx.out).mono ?_; rintro e w9 ⟨v1, rfl, hr1, hb1⟩; replace SUy := Lib.hid (SUy.out.below hb1); replace SUz := Lib.hid (SUz.out.below hb1); replace BB := Lib.hid (below_step BB.out hb1); obtain ⟨ax, cx, rfl, hd⟩ := ndsO hr1; rw [HNX.out] at hd ⊢; have Sx := Lib.hid hd; clear hr1 hd hb1 KFx SUx)
      | (go_at_call 5; refine (KFy.out _ _ SUy.out).mono ?_; rintro e w9 ⟨v1, rfl, hr1, hb1⟩; replace SUz := Lib.hid (SUz.out.below hb1); replace Sx := Lib.hid (Sx.out.below hb1); replace BB := Lib.hid (below_step BB.out hb1); obtain ⟨ay, cy, rfl, hd⟩ := ndsO hr1; rw [HNY.out] at hd ⊢; have Sy := Lib.hid hd; clear hr1 hd hb1 KFy SUy)
      | (go_at_call 5; refine (KFz.out _ _ SUz.out).mono ?_; rintro e w9 ⟨v1, rfl, hr1, hb1⟩; replace Sx := Lib.hid (Sx.out.below hb1); replace Sy := Lib.hid (Sy.out.below hb1); replace BB := Lib.hid (below_step BB.out hb1); obtain ⟨az, cz, rfl, hd⟩ := ndsO hr1; rw [HNZ.out] at hd ⊢; have Sz := Lib.hid hd; clear hr1 hd hb1 KFz SUz))
  cases ox : okL sx
  · rw [lchkE_no ox] at kcx
    have KCX := Lib.hid kcx
    clear kcx kcy kcz ox
    go_wp2_with (first
        | (go_at_call 6; refine (KCX.out _ _ Sx.out).mono ?_; rintro e w9 ⟨rfl, hb1⟩; replace Sx := Lib.hid (Sx.out.below hb1); replace Sy := Lib.hid (Sy.out.below hb1); replace Sz := Lib.hid (Sz.out.below hb1); replace BB := Lib.hid (below_step BB.out hb1); clear hb1 KCX)
        | (go_at_call 7; refine (lawake_any _).mono ?_; rintro e w9 ⟨rfl, hb1⟩; replace Sx := Lib.hid (Sx.out.below hb1); replace Sy := Lib.hid (Sy.out.below hb1); replace Sz := Lib.hid (Sz.out.below hb1); replace BB := Lib.hid (below_step BB.out hb1); clear hb1))
    go_ret
    exact ⟨rfl, BB.out⟩
  · cases oy : okL sy
    · rw [lchkE_yes ox] at kcx
      rw [lchkE_no oy] at kcy
      have KCX := Lib.hid kcx; have KCY := Lib.hid kcy
      clear kcx kcy kcz ox oy
      go_wp2_with (first
          | (go_at_call 6; refine (KCX.out _ _ Sx.out).mono ?_; rintro e w9 ⟨rfl, hb1⟩; replace Sx := Lib.hid (Sx.out.below hb1); replace Sy := Lib.hid (Sy.out.below hb1); replace Sz := Lib.hid (Sz.out.below hb1); replace BB := Lib.hid (below_step BB.out hb1); clear hb1 KCX)
          | (go_at_call 6; refine (KCY.out _ _ Sy.out).mono ?_; rintro e w9 ⟨rfl, hb1⟩; replace Sx := Lib.hid (Sx.out.below hb1); replace Sy := Lib.hid (Sy.out.below hb1); replace Sz := Lib.hid (Sz.out.below hb1); replace BB := Lib.hid (below_step BB.out hb1); clear hb1 KCY)
          | (go_at_call 7; refine (lawake_any _).mono ?_; rintro e w9 ⟨rfl, hb1⟩; replace Sx := Lib.hid (Sx.out.below hb1); replace Sy := Lib.hid (Sy.out.below hb1); replace Sz := Lib.hid (Sz.out.below hb1); replace BB := Lib.hid (below_step BB.out hb1); clear hb1))
      go_ret
      exact ⟨rfl, BB.out⟩
    · cases oz : okL sz
      · rw [lchkE_yes ox] at kcx
        rw [lchkE_yes oy] at kcy
        rw [lchkE_no oz] at kcz
        have KCX := Lib.hid kcx; have KCY := Lib.hid kcy; have KCZ := Lib.hid kcz
        clear kcx kcy kcz ox oy oz
        go_wp2_with (first
            | (go_at_call 6; refine (KCX.out _ _ Sx.out).mono ?_; rintro e w9 ⟨rfl, hb1⟩; replace Sx := Lib.hid (Sx.out.below hb1); replace Sy := Lib.hid (Sy.out.below hb1); replace Sz := Lib.hid (Sz.out.below hb1); replace BB := Lib.hid (below_step BB.out hb1); clear hb1 KCX)
            | (go_at_call 6; refine (KCY.out _ _ Sy.out).mono ?_; rintro e w9 ⟨rfl, hb1⟩; replace Sx := Lib.hid (Sx.out.below hb1); replace Sy := Lib.hid (Sy.out.below hb1); replace Sz := Lib.hid (Sz.out.below hb1); replace BB := Lib.hid (below_step BB.out hb1); clear hb1 KCY)
            | (go_at_call 6; refine (KCZ.out _ _ Sz.out).mono ?_; rintro e w9 ⟨rfl, hb1⟩; replace Sx := Lib.hid (Sx.out.below hb1); replace Sy := Lib.hid (Sy.out.below hb1); replace Sz := Lib.hid (Sz.out.below hb1); replace BB := Lib.hid (below_step BB.out hb1); clear hb1 KCZ)
            | (go_at_call 7; refine (lawake_any _).mono ?_; rintro e w9 ⟨rfl, hb1⟩; replace Sx := Lib.hid (Sx.out.below hb1); replace Sy := Lib.hid (Sy.out.below hb1); replace Sz := Lib.hid (Sz.out.below hb1); replace BB := Lib.hid (below_step BB.out hb1); clear hb1))
        go_ret
        exact ⟨rfl, BB.out⟩
      · rw [lchkE_yes ox] at kcx
        rw [lchkE_yes oy] at kcy
        rw [lchkE_yes oz] at kcz
        have kde := fun U V w h h' => ldelta_any U V sx sy w h h' HZX.out HZY.out (by rw [HNX.out]; omega) (by rw [HNY.out]; omega)
        rw [deltaE_yes ox oy] at kde
        have sdl := deltaE_smallC HZX.out HZY.out
        have sd4 := deltaL_small HTX.out HTY.out
        have ldl := deltaE_len sx sy
        rw [deltaE_yes ox oy] at sdl ldl
        have kap := fun U V w h h' => lapply_any U V sx (deltaL sx sy) w h h' HZX.out sdl (by rw [HNX.out]; omega) (by simp only at ldl; rw [HNX.out, HNY.out] at ldl; omega)
        rw [goes_there ox oy] at kap
        have gback := goes_back ox oy
        have kfe := fun V w h => few17_any V (deltaL sx sy) w h fun x hx => smallC_fit (sdl x hx)
        have flen := fewCs_len (deltaL sx sy)
        have kap2 := fun U V w h h' => lapply_any U V sy (turnC (fewCs (deltaL sx sy))) w h h' HZY.out (turnC_small (fewCs_small _)) (by rw [HNY.out]; omega) (by rw [turnC_len]; omega)
        have fid : (deltaL sx sy).length ≤ 20 → fewCs (deltaL sx sy) = deltaL sx sy := fun h => fewCs_id h sd4
        have kxy := fun U V w h h' => labove_any U V sx sy w h h' HZX.out HZY.out (by rw [HNX.out]; omega) (by rw [HNY.out]; omega)
        rw [aboveE_yes ox oy] at kxy
        have kyx := fun U V w h h' => labove_any U V sy sx w h h' HZY.out HZX.out (by rw [HNY.out]; omega) (by rw [HNX.out]; omega)
        rw [aboveE_yes oy ox] at kyx
        have kyz := fun U V w h h' => labove_any U V sy sz w h h' HZY.out HZZ.out (by rw [HNY.out]; omega) (by rw [HNZ.out]; omega)
        rw [aboveE_yes oy oz] at kyz
        have kxz := fun U V w h h' => labove_any U V sx sz w h h' HZX.out HZZ.out (by rw [HNX.out]; omega) (by rw [HNZ.out]; omega)
        rw [aboveE_yes ox oz] at kxz
        have kxx := fun U V w h h' => labove_any U V sx sx w h h' HZX.out HZX.out (by rw [HNX.out]; omega) (by rw [HNX.out]; omega)
        rw [aboveE_yes ox ox] at kxx
        rw [above_self ox] at kxx
        have trn : aboveL sx sy = true → aboveL sy sz = true → aboveL sx sz = true := fun h k => above_trans h k
        have sam : aboveL sx sy = true → aboveL sy sx = true → sx = sy := fun h k => above_both ox oy h k
        obtain ⟨AB, hAB⟩ : ∃ r, aboveL sx sy = r := ⟨_, rfl⟩
        obtain ⟨BA, hBA⟩ : ∃ r, aboveL sy sx = r := ⟨_, rfl⟩
        obtain ⟨BC, hBC⟩ : ∃ r, aboveL sy sz = r := ⟨_, rfl⟩
        obtain ⟨AC, hAC⟩ : ∃ r, aboveL sx sz = r := ⟨_, rfl⟩
        rw [hAB] at kxy trn sam
        rw [hBA] at kyx sam
        rw [hBC] at kyz trn
        rw [hAC] at kxz trn
        obtain ⟨dl, hdl⟩ : ∃ r, deltaL sx sy = r := ⟨_, rfl⟩
        rw [hdl] at kde kap gback kfe flen kap2 fid
        obtain ⟨nd, hnd⟩ : ∃ r, dl.length = r := ⟨_, rfl⟩
        rw [hnd] at fid
        obtain ⟨fl, hfl⟩ : ∃ r, fewCs dl = r := ⟨_, rfl⟩
        rw [hfl] at kfe flen kap2 fid
        obtain ⟨nb, hnb⟩ : ∃ r, fl.length = r := ⟨_, rfl⟩
        rw [hnb] at flen
        obtain ⟨PM, hPM⟩ : ∃ r, applyE sy (turnC fl) = r := ⟨_, rfl⟩
        rw [hPM] at kap2
        obtain ⟨ml, me⟩ := PM
        obtain ⟨nm, hnm⟩ : ∃ r, ml.length = r := ⟨_, rfl⟩
        simp only at kde kap kfe kap2 kxy kyx kyz kxz kxx
        have GB : Hid (nd ≤ 20 → sx = ml ∧ me = 0) := Lib.hid fun h => by
          rw [fid h, gback] at hPM
          exact ⟨congrArg Prod.fst hPM, (congrArg Prod.snd hPM).symm⟩
        have KCX := Lib.hid kcx; have KCY := Lib.hid kcy; have KCZ := Lib.hid kcz; have KDE := Lib.hid kde; have KAP := Lib.hid kap; have KFE := Lib.hid kfe; have KAQ := Lib.hid kap2
        have KXY := Lib.hid kxy; have KYX := Lib.hid kyx; have KYZ := Lib.hid kyz; have KXZ := Lib.hid kxz; have KXX := Lib.hid kxx; have TRN := Lib.hid trn; have SAM := Lib.hid sam
        have HND := Lib.hid hnd; have HNB := Lib.hid hnb; have HNM := Lib.hid hnm
        clear kcx kcy kcz kde kap kfe kap2 kxy kyx kyz kxz kxx trn sam hAB hBA hBC hAC hdl hfl hPM hnd hnb hnm gback fid sdl sd4 ldl ox oy oz
        go_upto_region 4 with (first
            | (go_at_call 6; refine (KCX.out _ _ Sx.out).mono ?_; rintro e w9 ⟨rfl, hb1⟩; replace Sx := Lib.hid (Sx.out.below hb1); replace Sy := Lib.hid (Sy.out.below hb1); replace Sz := Lib.hid (Sz.out.below hb1); replace BB := Lib.hid (below_step BB.out hb1); clear hb1 KCX)
            | (go_at_call 6; refine (KCY.out _ _ Sy.out).mono ?_; rintro e w9 ⟨rfl, hb1⟩; replace Sx := Lib.hid (Sx.out.below hb1); replace Sy := Lib.hid (Sy.out.below hb1); replace Sz := Lib.hid (Sz.out.below hb1); replace BB := Lib.hid (below_step BB.out hb1); clear hb1 KCY)
            | (go_at_call 6; refine (KCZ.out _ _ Sz.out).mono ?_; rintro e w9 ⟨rfl, hb1⟩; replace Sx := Lib.hid (Sx.out.below hb1); replace Sy := Lib.hid (Sy.out.below hb1); replace Sz := Lib.hid (Sz.out.below hb1); replace BB := Lib.hid (below_step BB.out hb1); clear hb1 KCZ))
        go_upto_region 5 with (go_at_call 8; refine (KDE.out _ _ _ Sx.out Sy.out).mono ?_; rintro e w9 ⟨v1, rfl, hr1, hb1⟩; replace Sx := Lib.hid (Sx.out.below hb1); replace Sy := Lib.hid (Sy.out.below hb1); replace Sz := Lib.hid (Sz.out.below hb1); replace BB := Lib.hid (below_step BB.out hb1); obtain ⟨ad, cd, rfl, hd⟩ := chsO hr1; rw [HND.out] at hd ⊢; have Sd := Lib.hid hd; clear hr1 hd hb1 KDE)
        go_upto_region 6 with (go_at_call 9; refine (KAP.out _ _ _ Sx.out Sd.out).mono ?_; rintro e w9 ⟨v1, rfl, hr1, hb1⟩; replace Sx := Lib.hid (Sx.out.below hb1); replace Sy := Lib.hid (Sy.out.below hb1); replace Sz := Lib.hid (Sz.out.below hb1); replace Sd := Lib.hid (Sd.out.below hb1); replace BB := Lib.hid (below_step BB.out hb1); obtain ⟨al, cl, rfl, hd⟩ := ndsO hr1; rw [HNY.out] at hd ⊢; have Sl := Lib.hid hd; clear hr1 hd hb1 KAP)
        obtain ⟨w5, hw5⟩ : ∃ v, v = w9 := ⟨_, rfl⟩
        subst hw5
        go_upto_region 7 with (go_at_call 10; refine (KFE.out _ _ Sd.out).mono ?_; rintro e w9 ⟨v1, rfl, hr1, hb1⟩; rw [HNB.out] at hr1; obtain ⟨aF, cF, rfl, -⟩ := own_slice hr1 HNB.out; have HR := Lib.hid hr1; have HB := Lib.hid hb1; clear hr1 hb1 KFE)
        go_wp2
        go_loopw [12] (fun i wr => ∃ k : Nat, k ≤ nb ∧ i = .int .i64 k ∧ Hid (wr.ownsRow w5.heap.size 34 3 (.slice aF nb cF) nb (chC (turnK k fl))) ∧ Hid (Below w5.heap.size w5 wr)) (fun i _ => nb - (intOf i).toNat)
        case atStart => exact ⟨0, Nat.zero_le _, rfl, Lib.hid (by rw [turnK_zero]; exact HR.out), HB⟩
        case round =>
          clear HR HB
          obtain ⟨k, hk, rfl, HR, HB⟩ := hrel
          by_cases hlt : k < nb
          · have hkl : k < fl.length := by rw [HNB.out]; exact hlt
            have hkb : (k : Int) < (nb : Int) := by omega
            obtain ⟨g, cur, rfl, hgb, hh, hc1, hc2, hnext⟩ := own_turn HR.out (by rw [turnK_len]; exact HNB.out) hlt
            rw [turnK_at hkl] at hc1 hc2 hnext
            rw [← turnK_succ hkl] at hnext
            obtain ⟨y, hy⟩ : ∃ y, fl.getD k zC = y := ⟨_, rfl⟩
            rw [hy] at hc1 hc2 hnext
            obtain ⟨y1, y2, y3⟩ := y
            simp only at hc1 hc2 hnext
            have hs1 := (Array.getElem?_eq_some_iff.1 hc1).1
            have hs2 := (Array.getElem?_eq_some_iff.1 hc2).1
            have HS1 := Lib.hid hs1; have HS2 := Lib.hid hs2; have HC1 := Lib.hid hc1; have HC2 := Lib.hid hc2; have HNX2 := Lib.hid hnext; have HH := Lib.hid hh; have HGB := Lib.hid hgb; have HLT := Lib.hid hlt
            clear hs1 hs2 hc1 hc2 hnext hh hgb hy hkl HR
            go_upto_region 10 with fail
            refine rol_run (by kernel_rfl) [[], [], [], [], [], [], [4, 5], [4, 5, 6], [4, 5, 6, 7], [], [], [9, 10], [9, 10, 11], [9, 10, 11, 12], [0, 1, 4, 5, 6, 7, 8, 9, 10, 11, 12, 13], [0, 1, 4, 5, 6, 7, 8, 9, 10, 11, 12, 13, 14], [0, 1, 4, 5, 6, 7, 8, 9, 10, 11, 12, 13, 14, 15], [0, 1, 2, 3, 4, 5, 6, 7, 8, 9, 10, 11, 12, 13, 14, 15, 16], [0, 1, 2, 3, 4, 5, 6, 7, 8, 9, 10, 11, 12, 13, 14, 15, 16, 17], [0, 1, 2, 3, 4, 5, 6, 7, 8, 9, 10, 11, 12, 13, 14, 15, 16, 17, 18]] (by kernel_rfl) [65, 66, 67, 68, 69, 70, 71, 72, 73, 74, 75, 76, 77, 78, 79, 80, 81, 82] [[], [], [], [], [], [], [4, 5], [6], [7, 20], [], [], [9, 10], [11], [12, 20], [0, 1], [14], [20, 15, 8], [2, 3], [17], [16, 18, 13]] [0, 0, 0, 0, 0, 0, 0, 0, 0, 0, 0, 0, 0, 0, 0, 0, 4, 0, 0, 4, 4] [0, 0, 0, 0, 0, 0, 0, 0, 0, 0, 0, 0, 0, 0, 0, 0, 4, 0, 0, 4] [1000, 1000, 1000, 1000, 1000, 1000, 1000, 1000, 1000, 1000, 1000, 1000, 1000, 1000, 1000, 1000, 19, 1000, 1000, 1000, 16] [.val 65 (.slice (some ⟨g, 0, none⟩) nb cF), .val 66 (.int .i64 (k : Int)), .val 67 (.slice (some ⟨g, 0, none⟩) nb cF), .val 68 (.int .i64 (k : Int)), .val 69 (.slice (some ⟨g, 0, none⟩) nb cF), .val 70 (.int .i64 (k : Int)), .val 71 (.pointer (some ⟨g, k * 3, none⟩)), .val 72 (.pointer (some ⟨g, k * 3 + 2, none⟩)), .val 73 (.string (mkB y3)), .val 74 (.slice (some ⟨g, 0, none⟩) nb cF), .val 75 (.int .i64 (k : Int)), .val 76 (.pointer (some ⟨g, k * 3, none⟩)), .val 77 (.pointer (some ⟨g, k * 3 + 1, none⟩)), .val 78 (.string (mkB y2)), .val 79 (.pointer (some ⟨g, k * 3, none⟩)), .val 80 (.pointer (some ⟨g, k * 3 + 1, none⟩)), .box (g) (.cells (cur.setIfInBounds (k * 3 + 1) (.string (mkB y3))) 34 (0, 0)), .val 81 (.pointer (some ⟨g, k * 3, none⟩)), .val 82 (.pointer (some ⟨g, k * 3 + 2, none⟩)), .box (g) (.cells ((cur.setIfInBounds (k * 3 + 1) (.string (mkB y3))).setIfInBounds (k * 3 + 2) (.string (mkB y2))) 34 (0, 0)), .box (g) (.cells cur 34 (0, 0))] (by kernel_rfl) ?_ (w5.heap.size) (wr.heap.size) rfl HB.out rfl (fun k => if k = g then 4 else 6) ?_ ?_ ?_
            · intro j hj
              have hj3 : j < 21 := hj
              have hj2 : j = 0 ∨ j = 1 ∨ j = 2 ∨ j = 3 ∨ j = 4 ∨ j = 5 ∨ j = 6 ∨ j = 7 ∨ j = 8 ∨ j = 9 ∨ j = 10 ∨ j = 11 ∨ j = 12 ∨ j = 13 ∨ j = 14 ∨ j = 15 ∨ j = 16 ∨ j = 17 ∨ j = 18 ∨ j = 19 ∨ j = 20 := by omega
              clear hj hj3
              rcases hj2 with rfl | rfl | rfl | rfl | rfl | rfl | rfl | rfl | rfl | rfl | rfl | rfl | rfl | rfl | rfl | rfl | rfl | rfl | rfl | rfl | rfl
              · exact trivial
              · exact trivial
              · exact trivial
              · exact trivial
              · exact trivial
              · exact trivial
              · exact trivial
              · exact trivial
              · exact trivial
              · exact trivial
              · exact trivial
              · exact trivial
              · exact trivial
              · exact trivial
              · exact trivial
              · exact trivial
              · exact trivial
              · exact trivial
              · exact trivial
              · exact trivial
              · exact trivial
            · intro j hj0 hj
              have hj1 : 20 ≤ j := hj0
              have hj3 : j < 21 := hj
              have hj2 : j = 20 := by omega
              clear hj0 hj hj1 hj3
              rcases hj2 with rfl
              · exact ⟨HH.out, if_pos rfl⟩
            · intro i hi a wx who hG hF
              have hz : a.tmps.size = 191 := hG.size
              have hi3 : i < 20 := hi
              have hi2 : i = 0 ∨ i = 1 ∨ i = 2 ∨ i = 3 ∨ i = 4 ∨ i = 5 ∨ i = 6 ∨ i = 7 ∨ i = 8 ∨ i = 9 ∨ i = 10 ∨ i = 11 ∨ i = 12 ∨ i = 13 ∨ i = 14 ∨ i = 15 ∨ i = 16 ∨ i = 17 ∨ i = 18 ∨ i = 19 := by omega
              clear hi hi3
              rcases hi2 with rfl | rfl | rfl | rfl | rfl | rfl | rfl | rfl | rfl | rfl | rfl | rfl | rfl | rfl | rfl | rfl | rfl | rfl | rfl | rfl
              · exact rol_val rfl rfl rfl (by rw [hz]; decide) (ex_move (Or.inl rfl) (eval_slot ((hG.slots 11 (by decide)).trans rfl))) hG.below
              · exact rol_val rfl rfl rfl (by rw [hz]; decide) (ex_move (Or.inl rfl) (eval_slot ((hG.slots 12 (by decide)).trans rfl))) hG.below
              · exact rol_val rfl rfl rfl (by rw [hz]; decide) (ex_move (Or.inl rfl) (eval_slot ((hG.slots 11 (by decide)).trans rfl))) hG.below
              · exact rol_val rfl rfl rfl (by rw [hz]; decide) (ex_move (Or.inl rfl) (eval_slot ((hG.slots 12 (by decide)).trans rfl))) hG.below
              · exact rol_val rfl rfl rfl (by rw [hz]; decide) (ex_move (Or.inl rfl) (eval_slot ((hG.slots 11 (by decide)).trans rfl))) hG.below
              · exact rol_val rfl rfl rfl (by rw [hz]; decide) (ex_move (Or.inl rfl) (eval_slot ((hG.slots 12 (by decide)).trans rfl))) hG.below
              · exact rol_val rfl rfl rfl (by rw [hz]; decide) (ex_index rfl (eval_slot (hF 4 (by decide))) (eval_slot (hF 5 (by decide))) (idx_ch0 HLT.out)) hG.below
              · exact rol_val rfl rfl rfl (by rw [hz]; decide) (ex_field rfl (eval_slot (hF 6 (by decide))) (by go_simp)) hG.below
              · exact rol_val rfl rfl rfl (by rw [hz]; decide) (ex_load rfl (eval_slot (hF 7 (by decide))) (ld_strT (cell_blk (hF 20 (by decide)).1 HC2.out))) hG.below
              · exact rol_val rfl rfl rfl (by rw [hz]; decide) (ex_move (Or.inl rfl) (eval_slot ((hG.slots 11 (by decide)).trans rfl))) hG.below
              · exact rol_val rfl rfl rfl (by rw [hz]; decide) (ex_move (Or.inl rfl) (eval_slot ((hG.slots 12 (by decide)).trans rfl))) hG.below
              · exact rol_val rfl rfl rfl (by rw [hz]; decide) (ex_index rfl (eval_slot (hF 9 (by decide))) (eval_slot (hF 10 (by decide))) (idx_ch0 HLT.out)) hG.below
              · exact rol_val rfl rfl rfl (by rw [hz]; decide) (ex_field rfl (eval_slot (hF 11 (by decide))) (by go_simp)) hG.below
              · exact rol_val rfl rfl rfl (by rw [hz]; decide) (ex_load rfl (eval_slot (hF 12 (by decide))) (ld_strT (cell_blk (hF 20 (by decide)).1 HC1.out))) hG.below
              · exact rol_val rfl rfl rfl (by rw [hz]; decide) (ex_index rfl (eval_slot (hF 0 (by decide))) (eval_slot (hF 1 (by decide))) (idx_ch0 HLT.out)) hG.below
              · exact rol_val rfl rfl rfl (by rw [hz]; decide) (ex_field rfl (eval_slot (hF 14 (by decide))) (by go_simp)) hG.below
              · exact rol_cellS rfl rfl rfl rfl (eval_slot (hF 15 (by decide))) (eval_slot (hF 8 (by decide))) (hF 20 (by decide)) HS1.out hG.below HGB.out
              · exact rol_val rfl rfl rfl (by rw [hz]; decide) (ex_index rfl (eval_slot (hF 2 (by decide))) (eval_slot (hF 3 (by decide))) (idx_ch0 HLT.out)) hG.below
              · exact rol_val rfl rfl rfl (by rw [hz]; decide) (ex_field rfl (eval_slot (hF 17 (by decide))) (by go_simp)) hG.below
              · exact rol_cellS rfl rfl rfl rfl (eval_slot (hF 18 (by decide))) (eval_slot (hF 13 (by decide))) (hF 16 (by decide)) (by rw [Array.size_setIfInBounds]; exact HS2.out) hG.below HGB.out
            · intro a wx who hG hF
              have hbq := hF 19 (of_decide_eq_true (by kernel_rfl)) (of_decide_eq_true (by kernel_rfl))
              have hbx := hG.below
              have hnx := hG.new
              rw [hG.frame]
              simp only [List.foldl_cons, List.foldl_nil, List.setIfInBounds_toArray, List.set_cons_zero, List.set_cons_succ]
              generalize a.tmps.getD 65 undef = u65
              generalize a.tmps.getD 66 undef = u66
              generalize a.tmps.getD 67 undef = u67
              generalize a.tmps.getD 68 undef = u68
              generalize a.tmps.getD 69 undef = u69
              generalize a.tmps.getD 70 undef = u70
              generalize a.tmps.getD 71 undef = u71
              generalize a.tmps.getD 72 undef = u72
              generalize a.tmps.getD 73 undef = u73
              generalize a.tmps.getD 74 undef = u74
              generalize a.tmps.getD 75 undef = u75
              generalize a.tmps.getD 76 undef = u76
              generalize a.tmps.getD 77 undef = u77
              generalize a.tmps.getD 78 undef = u78
              generalize a.tmps.getD 79 undef = u79
              generalize a.tmps.getD 80 undef = u80
              generalize a.tmps.getD 81 undef = u81
              generalize a.tmps.getD 82 undef = u82
              clear hF hG
              have HR := Lib.hid (HNX2.out _ hbq.1)
              have HB2 := Lib.hid hbx
              clear hbq hbx hnx HC1 HC2 HS1 HS2 HNX2 HH HB
              go_wp2
              go_roundw
              case rel => exact ⟨k + 1, by omega, by go_num, HR, HB2⟩
              case measure => simp [intOf]; omega
          · have e : nb = k := by omega
            subst e
            replace Sx := Lib.hid (Sx.out.below HB.out)
            replace Sy := Lib.hid (Sy.out.below HB.out)
            replace Sz := Lib.hid (Sz.out.below HB.out)
            replace Sd := Lib.hid (Sd.out.below HB.out)
            replace Sl := Lib.hid (Sl.out.below HB.out)
            replace BB := Lib.hid (below_step BB.out HB.out)
            have SB : Hid (Chs wr (.slice aF nb cF) (turnC fl)) := Lib.hid (by
              have h := HR.out
              rw [turnK_all (by rw [HNB.out]; exact Nat.le_refl _)] at h
              exact own_chs h (by rw [turnC_len]; exact HNB.out))
            clear HR HB hlt hk
            obtain ⟨w9, hw9⟩ : ∃ v, v = wr := ⟨_, rfl⟩
            subst hw9
            go_upto_region 12 with (go_at_call 9; refine (KAQ.out _ _ _ Sy.out SB.out).mono ?_; rintro e w9 ⟨v1, rfl, hr1, hb1⟩; replace Sx := Lib.hid (Sx.out.below hb1); replace Sy := Lib.hid (Sy.out.below hb1); replace Sz := Lib.hid (Sz.out.below hb1); replace Sd := Lib.hid (Sd.out.below hb1); replace Sl := Lib.hid (Sl.out.below hb1); replace BB := Lib.hid (below_step BB.out hb1); obtain ⟨am, cm, rfl, hd⟩ := ndsO hr1; rw [HNM.out] at hd ⊢; have Sm := Lib.hid hd; clear hr1 hd hb1 KAQ SB)
            by_cases hn20 : nd ≤ 20
            · have h20 : ¬ (20 : Int) < (nd : Int) := by omega
              obtain ⟨e1, rfl⟩ := GB.out hn20
              subst e1
              clear hn20
              go_upto_region 15 with (go_at_call 11; refine (KXY.out _ _ _ Sx.out Sy.out).mono ?_; rintro e w9 ⟨rfl, hb1⟩; replace Sx := Lib.hid (Sx.out.below hb1); replace Sy := Lib.hid (Sy.out.below hb1); replace Sz := Lib.hid (Sz.out.below hb1); replace Sd := Lib.hid (Sd.out.below hb1); replace Sl := Lib.hid (Sl.out.below hb1); replace Sm := Lib.hid (Sm.out.below hb1); replace BB := Lib.hid (below_step BB.out hb1); clear hb1)
              go_upto_region 16 with (go_at_call 11; refine (KYX.out _ _ _ Sy.out Sx.out).mono ?_; rintro e w9 ⟨rfl, hb1⟩; replace Sx := Lib.hid (Sx.out.below hb1); replace Sy := Lib.hid (Sy.out.below hb1); replace Sz := Lib.hid (Sz.out.below hb1); replace Sd := Lib.hid (Sd.out.below hb1); replace Sl := Lib.hid (Sl.out.below hb1); replace Sm := Lib.hid (Sm.out.below hb1); replace BB := Lib.hid (below_step BB.out hb1); clear hb1)
              go_upto_region 17 with (go_at_call 11; refine (KYZ.out _ _ _ Sy.out Sz.out).mono ?_; rintro e w9 ⟨rfl, hb1⟩; replace Sx := Lib.hid (Sx.out.below hb1); replace Sy := Lib.hid (Sy.out.below hb1); replace Sz := Lib.hid (Sz.out.below hb1); replace Sd := Lib.hid (Sd.out.below hb1); replace Sl := Lib.hid (Sl.out.below hb1); replace Sm := Lib.hid (Sm.out.below hb1); replace BB := Lib.hid (below_step BB.out hb1); clear hb1)
              go_upto_region 18 with (go_at_call 11; refine (KXZ.out _ _ _ Sx.out Sz.out).mono ?_; rintro e w9 ⟨rfl, hb1⟩; replace Sx := Lib.hid (Sx.out.below hb1); replace Sy := Lib.hid (Sy.out.below hb1); replace Sz := Lib.hid (Sz.out.below hb1); replace Sd := Lib.hid (Sd.out.below hb1); replace Sl := Lib.hid (Sl.out.below hb1); replace Sm := Lib.hid (Sm.out.below hb1); replace BB := Lib.hid (below_step BB.out hb1); clear hb1)
              go_upto_region 19 with (go_at_call 11; refine (KXX.out _ _ _ Sx.out Sx.out).mono ?_; rintro e w9 ⟨rfl, hb1⟩; replace Sx := Lib.hid (Sx.out.below hb1); replace Sy := Lib.hid (Sy.out.below hb1); replace Sz := Lib.hid (Sz.out.below hb1); replace Sd := Lib.hid (Sd.out.below hb1); replace Sl := Lib.hid (Sl.out.below hb1); replace Sm := Lib.hid (Sm.out.below hb1); replace BB := Lib.hid (below_step BB.out hb1); clear hb1)
              go_upto_region 21 with fail
              cases AB
              · go_wp2_with (first
                    | (go_at_call 12; refine (nsame_any _ _ _ _ _ Sl.out Sy.out).mono ?_; rintro e w9 ⟨rfl, hb1⟩; rw [decNds]; replace Sx := Lib.hid (Sx.out.below hb1); replace Sy := Lib.hid (Sy.out.below hb1); replace Sz := Lib.hid (Sz.out.below hb1); replace Sd := Lib.hid (Sd.out.below hb1); replace Sm := Lib.hid (Sm.out.below hb1); replace BB := Lib.hid (below_step BB.out hb1); clear hb1 Sl)
                    | (go_at_call 12; refine (nsame_any _ _ _ _ _ Sm.out Sx.out).mono ?_; rintro e w9 ⟨rfl, hb1⟩; rw [decNds]; replace Sx := Lib.hid (Sx.out.below hb1); replace Sy := Lib.hid (Sy.out.below hb1); replace Sz := Lib.hid (Sz.out.below hb1); replace Sd := Lib.hid (Sd.out.below hb1); replace BB := Lib.hid (below_step BB.out hb1); clear hb1 Sm)
                    | (go_at_call 7; refine (lawake_any _).mono ?_; rintro e w9 ⟨rfl, hb1⟩; replace Sx := Lib.hid (Sx.out.below hb1); replace Sy := Lib.hid (Sy.out.below hb1); replace Sz := Lib.hid (Sz.out.below hb1); replace Sd := Lib.hid (Sd.out.below hb1); replace BB := Lib.hid (below_step BB.out hb1); clear hb1))
                go_ret
                exact ⟨rfl, BB.out⟩
              · cases BA
                · cases BC
                  · go_wp2_with (first
                        | (go_at_call 12; refine (nsame_any _ _ _ _ _ Sl.out Sy.out).mono ?_; rintro e w9 ⟨rfl, hb1⟩; rw [decNds]; replace Sx := Lib.hid (Sx.out.below hb1); replace Sy := Lib.hid (Sy.out.below hb1); replace Sz := Lib.hid (Sz.out.below hb1); replace Sd := Lib.hid (Sd.out.below hb1); replace Sm := Lib.hid (Sm.out.below hb1); replace BB := Lib.hid (below_step BB.out hb1); clear hb1 Sl)
                        | (go_at_call 12; refine (nsame_any _ _ _ _ _ Sm.out Sx.out).mono ?_; rintro e w9 ⟨rfl, hb1⟩; rw [decNds]; replace Sx := Lib.hid (Sx.out.below hb1); replace Sy := Lib.hid (Sy.out.below hb1); replace Sz := Lib.hid (Sz.out.below hb1); replace Sd := Lib.hid (Sd.out.below hb1); replace BB := Lib.hid (below_step BB.out hb1); clear hb1 Sm)
                        | (go_at_call 7; refine (lawake_any _).mono ?_; rintro e w9 ⟨rfl, hb1⟩; replace Sx := Lib.hid (Sx.out.below hb1); replace Sy := Lib.hid (Sy.out.below hb1); replace Sz := Lib.hid (Sz.out.below hb1); replace Sd := Lib.hid (Sd.out.below hb1); replace BB := Lib.hid (below_step BB.out hb1); clear hb1))
                    go_ret
                    exact ⟨rfl, BB.out⟩
                  · obtain rfl : AC = true := TRN.out rfl rfl
                    go_wp2_with (first
                        | (go_at_call 12; refine (nsame_any _ _ _ _ _ Sl.out Sy.out).mono ?_; rintro e w9 ⟨rfl, hb1⟩; rw [decNds]; replace Sx := Lib.hid (Sx.out.below hb1); replace Sy := Lib.hid (Sy.out.below hb1); replace Sz := Lib.hid (Sz.out.below hb1); replace Sd := Lib.hid (Sd.out.below hb1); replace Sm := Lib.hid (Sm.out.below hb1); replace BB := Lib.hid (below_step BB.out hb1); clear hb1 Sl)
                        | (go_at_call 12; refine (nsame_any _ _ _ _ _ Sm.out Sx.out).mono ?_; rintro e w9 ⟨rfl, hb1⟩; rw [decNds]; replace Sx := Lib.hid (Sx.out.below hb1); replace Sy := Lib.hid (Sy.out.below hb1); replace Sz := Lib.hid (Sz.out.below hb1); replace Sd := Lib.hid (Sd.out.below hb1); replace BB := Lib.hid (below_step BB.out hb1); clear hb1 Sm)
                        | (go_at_call 7; refine (lawake_any _).mono ?_; rintro e w9 ⟨rfl, hb1⟩; replace Sx := Lib.hid (Sx.out.below hb1); replace Sy := Lib.hid (Sy.out.below hb1); replace Sz := Lib.hid (Sz.out.below hb1); replace Sd := Lib.hid (Sd.out.below hb1); replace BB := Lib.hid (below_step BB.out hb1); clear hb1))
                    go_ret
                    exact ⟨rfl, BB.out⟩
                · obtain rfl : sx = sy := SAM.out rfl rfl
                  cases BC
                  · go_wp2_with (first
                        | (go_at_call 12; refine (nsame_any _ _ _ _ _ Sl.out Sy.out).mono ?_; rintro e w9 ⟨rfl, hb1⟩; rw [decNds]; replace Sx := Lib.hid (Sx.out.below hb1); replace Sy := Lib.hid (Sy.out.below hb1); replace Sz := Lib.hid (Sz.out.below hb1); replace Sd := Lib.hid (Sd.out.below hb1); replace Sm := Lib.hid (Sm.out.below hb1); replace BB := Lib.hid (below_step BB.out hb1); clear hb1 Sl)
                        | (go_at_call 12; refine (nsame_any _ _ _ _ _ Sm.out Sx.out).mono ?_; rintro e w9 ⟨rfl, hb1⟩; rw [decNds]; replace Sx := Lib.hid (Sx.out.below hb1); replace Sy := Lib.hid (Sy.out.below hb1); replace Sz := Lib.hid (Sz.out.below hb1); replace Sd := Lib.hid (Sd.out.below hb1); replace BB := Lib.hid (below_step BB.out hb1); clear hb1 Sm)
                        | (go_at_call 12; refine (nsame_any _ _ _ _ _ Sx.out Sy.out).mono ?_; rintro e w9 ⟨rfl, hb1⟩; rw [decNds]; replace Sx := Lib.hid (Sx.out.below hb1); replace Sy := Lib.hid (Sy.out.below hb1); replace Sz := Lib.hid (Sz.out.below hb1); replace Sd := Lib.hid (Sd.out.below hb1); replace BB := Lib.hid (below_step BB.out hb1); clear hb1)
                        | (go_at_call 7; refine (lawake_any _).mono ?_; rintro e w9 ⟨rfl, hb1⟩; replace Sx := Lib.hid (Sx.out.below hb1); replace Sy := Lib.hid (Sy.out.below hb1); replace Sz := Lib.hid (Sz.out.below hb1); replace Sd := Lib.hid (Sd.out.below hb1); replace BB := Lib.hid (below_step BB.out hb1); clear hb1))
                    go_ret
                    exact ⟨rfl, BB.out⟩
                  · obtain rfl : AC = true := TRN.out rfl rfl
                    go_wp2_with (first
                        | (go_at_call 12; refine (nsame_any _ _ _ _ _ Sl.out Sy.out).mono ?_; rintro e w9 ⟨rfl, hb1⟩; rw [decNds]; replace Sx := Lib.hid (Sx.out.below hb1); replace Sy := Lib.hid (Sy.out.below hb1); replace Sz := Lib.hid (Sz.out.below hb1); replace Sd := Lib.hid (Sd.out.below hb1); replace Sm := Lib.hid (Sm.out.below hb1); replace BB := Lib.hid (below_step BB.out hb1); clear hb1 Sl)
                        | (go_at_call 12; refine (nsame_any _ _ _ _ _ Sm.out Sx.out).mono ?_; rintro e w9 ⟨rfl, hb1⟩; rw [decNds]; replace Sx := Lib.hid (Sx.out.below hb1); replace Sy := Lib.hid (Sy.out.below hb1); replace Sz := Lib.hid (Sz.out.below hb1); replace Sd := Lib.hid (Sd.out.below hb1); replace BB := Lib.hid (below_step BB.out hb1); clear hb1 Sm)
                        | (go_at_call 12; refine (nsame_any _ _ _ _ _ Sx.out Sy.out).mono ?_; rintro e w9 ⟨rfl, hb1⟩; rw [decNds]; replace Sx := Lib.hid (Sx.out.below hb1); replace Sy := Lib.hid (Sy.out.below hb1); replace Sz := Lib.hid (Sz.out.below hb1); replace Sd := Lib.hid (Sd.out.below hb1); replace BB := Lib.hid (below_step BB.out hb1); clear hb1)
                        | (go_at_call 7; refine (lawake_any _).mono ?_; rintro e w9 ⟨rfl, hb1⟩; replace Sx := Lib.hid (Sx.out.below hb1); replace Sy := Lib.hid (Sy.out.below hb1); replace Sz := Lib.hid (Sz.out.below hb1); replace Sd := Lib.hid (Sd.out.below hb1); replace BB := Lib.hid (below_step BB.out hb1); clear hb1))
                    go_ret
                    exact ⟨rfl, BB.out⟩
            · have h20 : (20 : Int) < (nd : Int) := by omega
              clear hn20
              go_wp2_with (go_at_call 7; refine (lawake_any _).mono ?_; rintro e w9 ⟨rfl, hb1⟩; replace Sx := Lib.hid (Sx.out.below hb1); replace Sy := Lib.hid (Sy.out.below hb1); replace Sz := Lib.hid (Sz.out.below hb1); replace Sd := Lib.hid (Sd.out.below hb1); replace Sl := Lib.hid (Sl.out.below hb1); replace Sm := Lib.hid (Sm.out.below hb1); replace BB := Lib.hid (below_step BB.out hb1); clear hb1)
              go_ret
              exact ⟨rfl, BB.out⟩

theorem own : ownKnob Try.prog.godebug = none := by kernel_rfl
theorem laidOut : laidOutB Try.prog = true := by kernel_rfl

set_option maxRecDepth 100000 in
theorem lifted (os : Os) (started : os.Started) (H : Type) (enc : TypeId × Value → H) :
    ReturnsInHanded {} Try.checked os 3 .any (Rows.listGoesSpec.pre6 enc Try.prog Try.f3 Rows.listGoesRow.domain false) (Rows.listGoesSpec.post enc Try.prog Try.f3 false true false false) := by
  refine returnsInHanded_of_change (C := Try.checked) own started (by kernel_rfl) Try.func3
    (ChangeSpec.witness6 (enc := enc) (C := Try.checked) false ⟨#[], #[.slice none 0 0, .slice none 0 0, .slice none 0 0], []⟩ 8 (by kernel_rfl) (by kernel_rfl) (by kernel_rfl) (by kernel_rfl)) ?_
  intro W base args ds gs before hval0 hW hcnd _
  have hval : ∀ (j : Nat) t v, Try.f3.params[j]? = some t → args[j]? = some v → Value.okWide Try.prog W .any base t v := hval0
  have hW' := hW
  obtain ⟨p, q, hA0, hV, rfl, hfz, hnd⟩ := hW
  have hA : DataW.TrodAll enc Try.prog W 0 (fun _ => true) true Try.f3.params.toList args.toList ds p := hA0
  rw [Try.params3] at hA hval
  obtain ⟨v0, vs0, d0, ds0, p0, q0, hargs, rfl, rfl, h0, r0⟩ := trodAll_cons hA
  obtain ⟨v1, vs1, d1, ds1, p1, q1, rfl, rfl, rfl, h1, r1⟩ := trodAll_cons r0
  obtain ⟨v2, vs2, d2, ds2, p2, q2, rfl, rfl, rfl, h2, r2⟩ := trodAll_cons r1
  obtain ⟨rfl, rfl, rfl⟩ := trodAll_nil r2
  obtain rfl : args = #[v0, v1, v2] := by cases args; simp_all
  obtain ⟨rfl, rfl⟩ := trodVars_none hV
  obtain ⟨a0, len0, cap0, rfl⟩ := okWide_slice Try.underlying22 (hval 0 22 v0 rfl rfl)
  have k0 := h0
  have lt0 : ∀ x ∈ p0, x.block < W.heap.size := by obtain ⟨m, hm⟩ := k0; exact DataW.trod_lt m _ _ _ hm
  obtain ⟨z0, w0⟩ : ∃ zs, Nds W (.slice a0 len0 cap0) zs ∧ ∀ n ∈ zs, fitsN n := by
    obtain ⟨fuel, hf⟩ := h0
    exact nds_open (by simpa [Value.cells] using hf)
  obtain ⟨a1, len1, cap1, rfl⟩ := okWide_slice Try.underlying22 (hval 1 22 v1 rfl rfl)
  have k1 := h1
  have lt1 : ∀ x ∈ p1, x.block < W.heap.size := by obtain ⟨m, hm⟩ := k1; exact DataW.trod_lt m _ _ _ hm
  obtain ⟨z1, w1⟩ : ∃ zs, Nds W (.slice a1 len1 cap1) zs ∧ ∀ n ∈ zs, fitsN n := by
    obtain ⟨fuel, hf⟩ := h1
    exact nds_open (by simpa [Value.cells] using hf)
  obtain ⟨a2, len2, cap2, rfl⟩ := okWide_slice Try.underlying22 (hval 2 22 v2 rfl rfl)
  have k2 := h2
  have lt2 : ∀ x ∈ p2, x.block < W.heap.size := by obtain ⟨m, hm⟩ := k2; exact DataW.trod_lt m _ _ _ hm
  obtain ⟨z2, w2⟩ : ∃ zs, Nds W (.slice a2 len2 cap2) zs ∧ ∀ n ∈ zs, fitsN n := by
    obtain ⟨fuel, hf⟩ := h2
    exact nds_open (by simpa [Value.cells] using hf)
  clear hA0 hval0
  refine (walk _ z0 _ z1 _ z2 W w0 w1 w2).mono fun e W' ⟨he, bel⟩ => ?_
  subst he
  exact ⟨_, rfl, _, _, _, [], _, [], hW', trodAll_mk1 (shut_bool Try.underlying4 _), (trodAll_cons_mk (Below.trod laidOut (by kernel_rfl) (of_decide_eq_true (by kernel_rfl)) k0 bel lt0) (trodAll_cons_mk (Below.trod laidOut (by kernel_rfl) (of_decide_eq_true (by kernel_rfl)) k1 bel lt1) (trodAll_cons_mk (Below.trod laidOut (by kernel_rfl) (of_decide_eq_true (by kernel_rfl)) k2 bel lt2) trodAll_mk0))), rfl, bel.frame _, fun h => by cases h⟩

-- the given statement
theorem proved : Rows.ListGoesSaid :=
  OpenClaim.holds_of_wide 3 Try.f3 rfl rfl rfl rfl rfl rfl rfl ⟨rfl, rfl, rfl, rfl, rfl⟩ rfl rfl rfl rfl rfl (by kernel_rfl) Try.func3 (by kernel_rfl)
    (of_decide_eq_true (by kernel_rfl)) (by unfold Func.isWrapper; first | (rw [if_pos (by decide +kernel)]; kernel_rfl) | (rw [if_neg (by decide +kernel)]; exact ⟨rfl, rfl⟩))
    (fun os started H enc _ => lifted os started H enc)
end Go.Proofs.Ytlbibgofhhdgoaa.listGoes
