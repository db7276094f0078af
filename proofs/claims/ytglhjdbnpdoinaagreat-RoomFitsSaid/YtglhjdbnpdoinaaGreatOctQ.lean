/- strings.ContainsAny on ASCII octets: and no draw is taken back. -/
import Derived.Test.YtglhjdbnpdoinaaGreatOctO
import Derived.Test.YtglhjdbnpdoinaaGreatOctS
import Derived.Test.YtglhjdbnpdoinaaGreatRows
import Derived.WalkKit
import Derived.WalkSpells
import Derived.WalkLawsBesides
namespace Go.Proofs.YtglhjdbnpdoinaaGreat
open Go.RowKit
set_option maxRecDepth 100000

theorem idxany_bel (s chars : ByteArray) (w : World) (h2 : 2 ≤ chars.size) (hs : s.size < 4294967281) (hcs : chars.size < 4294967281) (has : ∀ (j : Nat) b, s.data.toList[j]? = some b → b.toNat < 128) (hac : ∀ (j : Nat) b, chars.data.toList[j]? = some b → b.toNat < 128) :
    Calls Tryz.prog 140 #[.string s, .string chars] w fun e w' => e = .returned (.int .i64 (Lib.indexAny s.data.toList chars.data.toList)) ∧ Bel w.heap.size w w' := by
  have h116 : (Tryz.prog.info? (Tryz.lays150_ren.t 116)).map (fun i => (i.zero, i.size)) = some (some (.agg (Array.replicate 256 (.bool false))), 256) := by kernel_rfl
  by_cases h8 : s.size ≤ 8
  · refine (Any.strings_IndexAny_short (ρ := Tryz.lays150_ren) { Tryz.lays150 with } s chars w h2 h8 has).mono fun e w' ⟨h1, pos, h3⟩ => ⟨h1, ?_⟩
    rw [h3]
    exact (Bel.refl _ _).alloc (Nat.le_refl _) _
  · refine (Any.strings_IndexAny_long (ρ := Tryz.lays150_ren) { Tryz.lays150 with } (zero_of_info h116).1 (zero_of_info h116).2 s chars w h2 (by omega) hs hcs hac).mono fun e w' ⟨h1, h3⟩ => ⟨h1, ?_⟩
    rw [h3]
    exact ((Bel.refl _ _).alloc (Nat.le_refl _) _).alloc (by simp) _
set_option maxHeartbeats 1000000 in
theorem containsany_bel (s chars : ByteArray) (w : World) (h2 : 2 ≤ chars.size) (hs : s.size < 4294967281) (hcs : chars.size < 4294967281) (has : ∀ (j : Nat) b, s.data.toList[j]? = some b → b.toNat < 128) (hac : ∀ (j : Nat) b, chars.data.toList[j]? = some b → b.toNat < 128) :
    Calls Tryz.prog 127 #[.string s, .string chars] w fun e w' => e = .returned (.bool (Lib.containsAny s.data.toList chars.data.toList)) ∧ Bel w.heap.size w w' := by
  have c := idxany_bel s chars w h2 hs hcs has hac
  clear has hac
  go_enter Tryz.func127, Tryz.ntmps127
  go_wp2_with (go_at_call 140; refine c.mono ?_; rintro e w' ⟨rfl, hw⟩)
  go_ret
  exact ⟨rfl, hw⟩
end Go.Proofs.YtglhjdbnpdoinaaGreat
