/- THE TEXTS OF OctA OctD OctE: The contracts of octet's tables and classes: Few, table, Class, and the document's Class. THE TEXTS OF OctC OctB OctD: Common beginnings and the order of two texts, of the program and of the document. The document's own class of an octet is the table's. Is an octet of one of some classes; are all of a text: of the program and of the document. Are all octets of a text of some classes: of the program and of the document. -/
import Derived.Test.YtdefphacdcbljaaGreatOctO
import Derived.Test.YtdefphacdcbljaaGreatRows
import Derived.WalkKit
import Derived.WalkSpells
import Derived.WalkLawsBesides
import Derived.Lib.Hide
import Derived.Lib.Strings
import Derived.Laws.CopyOwn
import Derived.Lib.Bytealg
import Derived.Deep.QuietTactic
import Derived.BigQuiet
namespace Go.Proofs.YtdefphacdcbljaaGreat
open Go.RowKit
set_option maxRecDepth 100000

theorem ret_int {k : IntKind} {a b : Int} (h : a = b) : Ending.returned (.int k a) = .returned (.int k b) := by rw [h]

theorem ret_bool {a b : Bool} (h : a = b) : Ending.returned (.bool a) = .returned (.bool b) := by rw [h]

def fewB (s : ByteArray) : ByteArray := if 400 < s.size then s.extract 0 400 else s

set_option maxHeartbeats 400000 in
theorem few_any (s : ByteArray) (w : World) (hs : s.size ≤ maxLen) :
    Calls Tryz.prog 19 #[.string s] w fun e w' => e = .returned (.string (fewB s)) ∧ w = w' := by
  unfold maxLen at hs
  by_cases h : 400 < s.size
  · go_enter Tryz.func19, Tryz.ntmps19
    go_wp2
    go_ret
    exact ⟨by simp [fewB, h], rfl⟩
  · go_enter Tryz.func19, Tryz.ntmps19
    go_wp2
    go_ret
    exact ⟨by simp [fewB, h], rfl⟩

/-- Each octet's class, in the octets' order. -/
def tabL : List Int := [0, 0, 0, 0, 0, 0, 0, 0, 0, 5, 6, 0, 0, 0, 0, 0, 0, 0, 0, 0, 0, 0, 0, 0, 0, 0, 0, 0, 0, 0, 0, 0, 5, 0, 7, 0, 0, 0, 0, 0, 8, 9, 0, 0, 0, 3, 3, 4, 1, 1, 1, 1, 1, 1, 1, 1, 1, 1, 0, 0, 0, 0, 0, 0, 0, 2, 2, 2, 2, 2, 2, 2, 2, 2, 2, 2, 2, 2, 2, 2, 2, 2, 2, 2, 2, 2, 2, 2, 2, 2, 2, 0, 0, 0, 0, 3, 0, 2, 2, 2, 2, 2, 2, 2, 2, 2, 2, 2, 2, 2, 2, 2, 2, 2, 2, 2, 2, 2, 2, 2, 2, 2, 2, 0, 0, 0, 3, 0, 0, 0, 0, 0, 0, 0, 0, 0, 0, 0, 0, 0, 0, 0, 0, 0, 0, 0, 0, 0, 0, 0, 0, 0, 0, 0, 0, 0, 0, 0, 0, 0, 0, 0, 0, 0, 0, 0, 0, 0, 0, 0, 0, 0, 0, 0, 0, 0, 0, 0, 0, 0, 0, 0, 0, 0, 0, 0, 0, 0, 0, 0, 0, 0, 0, 0, 0, 0, 0, 0, 0, 0, 0, 0, 0, 0, 0, 0, 0, 0, 0, 0, 0, 0, 0, 0, 0, 0, 0, 0, 0, 0, 0, 0, 0, 0, 0, 0, 0, 0, 0, 0, 0, 0, 0, 0, 0, 0, 0, 0, 0, 0, 0, 0, 0, 0, 0, 0, 0, 0, 0, 0, 0, 0, 0, 0, 0, 0]
def tabV : Array Value := (tabL.map (Value.int .u8)).toArray
theorem tabV_size : tabV.size = 256 := by decide +kernel
theorem tabV_one : tabV.all (·.oneCell') = true := by decide +kernel

section
variable {P : Program}
theorem wpList_build_to {ops : Array Oper} {rest : List Oper} {o : Oper} {a : Act} {w : World} {Q : Exit → Act → World → Prop} (hg : o.guard = none) (t : TypeId) (parts : Array (Nat × Operand)) (ho : o.op = .build t parts)
    (cells : Array Value) (hf : P.built t (parts.map fun (i, x) => (i, a.eval x)).toList = some cells)
    (h : wpList P ops Q rest (a.put o.dst (.agg cells)) w) : wpList P ops Q (o :: rest) a w :=
  wpList_build hg t parts ho (by rw [hf]; rfl) (by rw [hf]; exact h)
end

def zeroV : Array Value := (List.replicate 256 (Value.int .u8 0)).toArray
theorem zeroV_size : zeroV.size = 256 := by decide +kernel
theorem Tryz.zero_tab (w : World) : Sem.run Tryz.prog (zeroValue 142) w = .ok (.agg zeroV) w := by kernel_rfl
theorem Tryz.size_tab : (Tryz.prog.info? 142).map (·.size) = some 256 := by kernel_rfl

set_option maxHeartbeats 400000 in
theorem table_any (w : World) :
    Calls Tryz.prog 122 #[] w fun e w' => e = .returned (.agg tabV) ∧ Bel w.heap.size w w' := by
  have hz := Tryz.zero_tab
  go_enter Tryz.func122, Tryz.ntmps122
  go_wp2_with (first
    | (refine wpList_build_to rfl 142 _ rfl tabV (by kernel_rfl) ?_)
    | (refine wpList_store_row rfl 142 _ _ rfl w.heap.size tabV rfl rfl 142 zeroV ?_ (by rw [tabV_size]; exact Tryz.size_tab) (by rw [zeroV_size, tabV_size]) tabV_one ?_))
  · exact heap_alloc_new _ _
  · refine bodyPost_ret (v := .agg tabV) ?_ rfl ⟨rfl, ?_⟩
    · exact results_cell_row (fn := Tryz.f122) (p := 0) (ty := 142) rfl _ _ w.heap.size 142 tabV (0, 0) _ rfl (setRow_heap _ _ _ _ _ _ (heap_alloc_new _ _)) Tryz.underlying142 rfl (by rw [tabV_size]; exact Tryz.size_tab)
    · exact bel_setRow ((Bel.refl _ _).alloc (Nat.le_refl _) _) (Nat.le_refl _) _

/-- An octet's class, as the table has it. -/
def clsI (c : Int) : Int := tabL.getD c.toNat 0

theorem tab_index (c : Int) (h0 : 0 ≤ c) (h1 : c < 256) (w : World) :
    Sem.run Tryz.prog (Instr.index 142 (.agg tabV) (.int .u8 c)) w = .ok (.int .u8 (clsI c)) w := by
  have hi : (Tryz.prog.info? 5).map (·.size) = some 1 := by kernel_rfl
  have ha : ∀ w, Sem.run Tryz.prog (isAgg 5) w = .ok false w := by intro w; kernel_rfl
  have hn : c.toNat < tabL.length := by have : tabL.length = 256 := by decide +kernel
                                        omega
  have hv : tabV[c.toNat]? = some (.int .u8 (clsI c)) := by
    unfold tabV clsI
    rw [List.getElem?_toArray, List.getElem?_map, List.getD_eq_getElem?_getD, List.getElem?_eq_getElem hn]
    rfl
  simp [Instr.index, run_underlying Tryz.underlying142, asIntOf, h0, h1, part, ha, hv]

theorem clsI_bd (c : Int) (h0 : 0 ≤ c) (h1 : c < 256) : 0 ≤ clsI c ∧ clsI c ≤ 9 := by
  have h : ∀ n : Fin 256, 0 ≤ tabL.getD n.1 0 ∧ tabL.getD n.1 0 ≤ 9 := by decide +kernel
  exact h ⟨c.toNat, by omega⟩

set_option maxHeartbeats 400000 in
theorem class_any (c : Int) (h0 : 0 ≤ c) (h1 : c < 256) (w : World) :
    Calls Tryz.prog 117 #[.int .u8 c] w fun e w' => e = .returned (.int .i64 (clsI c)) ∧ Bel w.heap.size w w' := by
  have hb := clsI_bd c h0 h1
  have hx := tab_index c h0 h1
  go_enter Tryz.func117, Tryz.ntmps117
  go_wp2_with (go_at_call 122; refine (table_any _).mono ?_; rintro e w1 ⟨rfl, hb1⟩)
  go_ret
  exact ⟨rfl, by assumption⟩

end Go.Proofs.YtdefphacdcbljaaGreat

namespace Go.Proofs.YtdefphacdcbljaaGreat
open Go.RowKit
set_option maxRecDepth 100000

theorem drop_at (a : ByteArray) (k : Nat) (h : k < a.size) : a.data.toList.drop k = a[k] :: a.data.toList.drop (k + 1) := by
  rw [List.drop_eq_getElem_cons (by simpa using h)]; rfl
theorem drop_end (a : ByteArray) (k : Nat) (h : a.size ≤ k) : a.data.toList.drop k = [] := List.drop_eq_nil_of_le (by simpa using h)
theorem u8_ne_iff (x y : UInt8) : (x = y) ↔ ((x.toNat : Int) = (y.toNat : Int)) := by rw [← UInt8.toNat_inj]; omega
theorem u8_lt_iff (x y : UInt8) : (x < y) ↔ (x.toNat < y.toNat) := UInt8.lt_iff_toNat_lt

theorem drew2 (w : World) (n m : Nat) : ∃ q, (w.drewN n).drewN m = w.drewN q := ⟨n + m, World.drewN_drewN _ _ _⟩

/-- How many octets two lists begin with together. -/
def comL : List UInt8 → List UInt8 → Nat
  | x :: xs, y :: ys => if x = y then comL xs ys + 1 else 0
  | _, _ => 0

set_option maxHeartbeats 400000 in
theorem cmpstring_any (a b : ByteArray) (w : World) :
    Calls Tryz.prog 91 #[.string a, .string b] w fun e w' => e = .returned (.int .i64 (Lib.compareBytes a.data.toList b.data.toList)) ∧ w = w' := by
  go_enter Tryz.func91, Tryz.ntmps91
  go_wp2
  rw [run_callFunc_extern Tryz.func107 (by kernel_rfl) (by kernel_rfl) (by kernel_rfl) (e := Extern.BytealgCompare.compare) (by kernel_rfl), Lib.run_compareString]
  simp only [Result.andThen]
  rw [Oper.upon_value]
  go_wp2
  go_ret
  exact ⟨rfl, rfl⟩

set_option maxHeartbeats 400000 in
theorem strcmp_any (a b : ByteArray) (w : World) :
    Calls Tryz.prog 73 #[.string a, .string b] w fun e w' => e = .returned (.int .i64 (Lib.compareBytes a.data.toList b.data.toList)) ∧ w = w' := by
  go_enter Tryz.func73, Tryz.ntmps73
  go_wp2_with (go_at_call 91; refine (cmpstring_any _ _ _).mono ?_; rintro e w' ⟨rfl, rfl⟩)
  go_ret
  exact ⟨rfl, rfl⟩

set_option maxHeartbeats 400000 in
theorem cmp_any (a b : ByteArray) (w : World) :
    Calls Tryz.prog 62 #[.string a, .string b] w fun e w' => e = .returned (.int .i64 (Lib.compareBytes a.data.toList b.data.toList)) ∧ w = w' := by
  go_enter Tryz.func62, Tryz.ntmps62
  go_wp2_with (go_at_call 73; refine (strcmp_any _ _ _).mono ?_; rintro e w' ⟨rfl, rfl⟩)
  go_ret
  exact ⟨rfl, rfl⟩

theorem comL_step (a b : ByteArray) (k : Nat) (ha : k < a.size) (hb : k < b.size) (he : (a[k].toNat : Int) = b[k].toNat) :
    comL (a.data.toList.drop k) (b.data.toList.drop k) = comL (a.data.toList.drop (k + 1)) (b.data.toList.drop (k + 1)) + 1 := by
  rw [drop_at a k ha, drop_at b k hb, comL, if_pos ((u8_ne_iff _ _).2 he)]
theorem comL_stop (a b : ByteArray) (k : Nat) (ha : k < a.size) (hb : k < b.size) (he : ¬ (a[k].toNat : Int) = b[k].toNat) :
    comL (a.data.toList.drop k) (b.data.toList.drop k) = 0 := by
  rw [drop_at a k ha, drop_at b k hb, comL, if_neg (fun h => he ((u8_ne_iff _ _).1 h))]
theorem comL_end (a b : ByteArray) (k : Nat) (h : a.size ≤ k ∨ b.size ≤ k) : comL (a.data.toList.drop k) (b.data.toList.drop k) = 0 := by
  rcases h with h | h
  · rw [drop_end a k h]; simp [comL]
  · rw [drop_end b k h]; cases List.drop k a.data.toList <;> simp [comL]

theorem cmpB_lt (a b : ByteArray) (k : Nat) (ha : k < a.size) (hb : k < b.size) (he : a[k].toNat < b[k].toNat) :
    Lib.compareBytes (a.data.toList.drop k) (b.data.toList.drop k) = -1 := by
  rw [drop_at a k ha, drop_at b k hb, Lib.compareBytes, if_pos ((u8_lt_iff _ _).2 he)]
theorem cmpB_gt (a b : ByteArray) (k : Nat) (ha : k < a.size) (hb : k < b.size) (he : b[k].toNat < a[k].toNat) :
    Lib.compareBytes (a.data.toList.drop k) (b.data.toList.drop k) = 1 := by
  rw [drop_at a k ha, drop_at b k hb, Lib.compareBytes, if_neg (fun h => by have := (u8_lt_iff _ _).1 h; omega), if_pos ((u8_lt_iff _ _).2 he)]
theorem cmpB_eq (a b : ByteArray) (k : Nat) (ha : k < a.size) (hb : k < b.size) (h1 : ¬ a[k].toNat < b[k].toNat) (h2 : ¬ b[k].toNat < a[k].toNat) :
    Lib.compareBytes (a.data.toList.drop k) (b.data.toList.drop k) = Lib.compareBytes (a.data.toList.drop (k + 1)) (b.data.toList.drop (k + 1)) := by
  rw [drop_at a k ha, drop_at b k hb, Lib.compareBytes, if_neg (fun h => h1 ((u8_lt_iff _ _).1 h)), if_neg (fun h => h2 ((u8_lt_iff _ _).1 h))]
theorem cmpB_end (a b : ByteArray) (k : Nat) (ha : k ≤ a.size) (_hb : k ≤ b.size) (h : a.size ≤ k ∨ b.size ≤ k) :
    Lib.compareBytes (a.data.toList.drop k) (b.data.toList.drop k) = if a.size < b.size then -1 else if b.size < a.size then 1 else 0 := by
  rcases Nat.lt_or_ge k a.size with h1 | h1
  · rw [drop_at a k h1, drop_end b k (by omega), Lib.compareBytes, if_neg (by omega), if_pos (by omega)]
  · rw [drop_end a k h1]
    rcases Nat.lt_or_ge k b.size with h2 | h2
    · rw [drop_at b k h2, Lib.compareBytes, if_pos (by omega)]
    · rw [drop_end b k h2, Lib.compareBytes, if_neg (by omega), if_neg (by omega)]

set_option maxHeartbeats 400000 in
theorem refcmp_any (a b : ByteArray) (w : World) (ha : a.size ≤ maxLen) (_hb : b.size ≤ maxLen) :
    Calls Tryz.prog 36 #[.string a, .string b] w fun e w' => e = .returned (.int .i64 (Lib.compareBytes a.data.toList b.data.toList)) ∧ ∃ n, w' = w.drewN n := by
  unfold maxLen at ha
  go_enter Tryz.func36, Tryz.ntmps36
  go_wp2
  go_loopw [5] (fun i wr => ∃ k : Nat, k ≤ a.size ∧ k ≤ b.size ∧ i = .int .i64 k ∧ Hid (Lib.compareBytes (a.data.toList.drop k) (b.data.toList.drop k) = Lib.compareBytes a.data.toList b.data.toList) ∧ ∃ n, wr = w.drewN n) (fun i _ => a.size - (intOf i).toNat)
  case atStart => exact ⟨0, Nat.zero_le _, Nat.zero_le _, rfl, Lib.hid (by simp), 0, rfl⟩
  case round =>
    obtain ⟨k, hk1, hk2, rfl, H, n, rfl⟩ := hrel
    by_cases hla : k < a.size
    · by_cases hlb : k < b.size
      · go_wp2
        go_quiet (fail)
        go_wp2
        · go_ret
          have h1 : a[k].toNat < b[k].toNat := by assumption
          exact ⟨ret_int (by rw [← H.out, cmpB_lt a b k hla hlb h1]), drew2 _ _ _⟩
        · go_quiet (fail)
          go_wp2
          · go_ret
            have h1 : b[k].toNat < a[k].toNat := by assumption
            exact ⟨ret_int (by rw [← H.out, cmpB_gt a b k hla hlb h1]), by simp only [World.drewN_drewN]; exact ⟨_, rfl⟩⟩
          · have h1 : ¬ a[k].toNat < b[k].toNat := by assumption
            have h2 : ¬ b[k].toNat < a[k].toNat := by assumption
            have hc := cmpB_eq a b k hla hlb h1 h2
            have h0 := H.out
            rw [hc] at h0
            have H0 := Lib.hid h0
            clear h0 hc
            go_roundw
            case rel => exact ⟨k + 1, by omega, by omega, by go_num, H0, _, rfl⟩
            case measure => simp [intOf]; omega
      · have hc := cmpB_end a b k hk1 hk2 (by omega)
        rw [if_neg (by omega), if_pos (by omega)] at hc
        have HC := Lib.hid hc; clear hc
        go_wp2
        go_ret
        exact ⟨ret_int (by rw [← H.out, HC.out]), _, rfl⟩
    · have hc := cmpB_end a b k hk1 hk2 (by omega)
      have HC := Lib.hid hc; clear hc
      go_wp2
      · go_ret
        have h1 : a.size < b.size := by assumption
        exact ⟨ret_int (by rw [← H.out, HC.out, if_pos h1]), _, rfl⟩
      · go_ret
        have h1 : ¬ a.size < b.size := by assumption
        exact ⟨ret_int (by rw [← H.out, HC.out, if_neg h1, if_neg (by omega)]), _, rfl⟩
end Go.Proofs.YtdefphacdcbljaaGreat

namespace Go.Proofs.YtdefphacdcbljaaGreat
open Go.RowKit
set_option maxRecDepth 100000

/-- The document's own class, as the tests of its text have it. -/
def refcls (c : Int) : Int :=
  if 48 ≤ c ∧ c ≤ 57 then 1 else if (65 ≤ c ∧ c ≤ 90) ∨ (97 ≤ c ∧ c ≤ 122) then 2 else if c = 45 ∨ c = 46 ∨ c = 95 ∨ c = 126 then 3
  else if c = 47 then 4 else if c = 32 ∨ c = 9 then 5 else if c = 10 then 6 else if c = 34 then 7 else if c = 40 then 8 else if c = 41 then 9 else 0

theorem refcls_eq (c : Int) (h0 : 0 ≤ c) (h1 : c < 256) : refcls c = clsI c := by
  have h : ∀ n : Fin 256, refcls (n.1 : Int) = clsI (n.1 : Int) := by decide +kernel
  have := h ⟨c.toNat, by omega⟩
  rwa [show ((c.toNat : Nat) : Int) = c from by omega] at this

set_option maxHeartbeats 1000000 in
theorem refclass_any (c : Int) (h0 : 0 ≤ c) (h1 : c < 256) (w : World) :
    Calls Tryz.prog 67 #[.int .u8 c] w fun e w' => e = .returned (.int .i64 (clsI c)) ∧ w = w' := by
  rw [← refcls_eq c h0 h1]
  go_enter Tryz.func67, Tryz.ntmps67
  go_wp2
  all_goals
    go_ret
    refine ⟨ret_int ?_, rfl⟩
    try simp only [beq_iff_eq, beq_eq_false_iff_ne, ne_eq] at *
    first | (decide; done) | (unfold refcls; repeat (first | omega | split))
end Go.Proofs.YtdefphacdcbljaaGreat

namespace Go.Proofs.YtdefphacdcbljaaGreat
open Go.RowKit
set_option maxRecDepth 100000

/-- A slice of numbers, in memory: nil, empty, or cells that hold them. -/
structure Ints (w : World) (v : Value) (zs : List Int) : Prop where
  ex : ∃ a c, v = .slice a zs.length c ∧ zs.length ≤ c ∧ c ≤ maxLen ∧ (a = none → c = 0) ∧ (0 < zs.length → ∃ b off, a = some ⟨b, off, none⟩ ∧ b < w.heap.size ∧ ∀ j, j < zs.length → w.cell? ⟨b, off + j, none⟩ = some (.int .i64 (zs.getD j 0)))

theorem Ints.below {w w' : World} {v : Value} {zs : List Int} (h : Ints w v zs) (hb : Bel w.heap.size w w') : Ints w' v zs := by
  obtain ⟨a, c, hv, h1, h2, hn, h3⟩ := h.ex
  refine ⟨a, c, hv, h1, h2, hn, fun hp => ?_⟩
  obtain ⟨b, off, ha, hlt, hc⟩ := h3 hp
  exact ⟨b, off, ha, Nat.lt_of_lt_of_le hlt hb.size, fun j hj => by rw [hb.cell (by exact hlt)]; exact hc j hj⟩
theorem Ints.drewN {w : World} {v : Value} {zs : List Int} (n : Nat) (h : Ints w v zs) : Ints (w.drewN n) v zs := by
  obtain ⟨a, c, hv, h1, h2, hn, h3⟩ := h.ex
  refine ⟨a, c, hv, h1, h2, hn, fun hp => ?_⟩
  obtain ⟨b, off, ha, hlt, hc⟩ := h3 hp
  exact ⟨b, off, ha, by simpa using hlt, fun j hj => by have := hc j hj; simpa using this⟩

def hasB (zs : List Int) (x : Int) : Bool := decide (x ∈ zs)

theorem hasB_drop (zs : List Int) (k : Nat) (x : Int) (h : k < zs.length) : hasB (zs.drop k) x = (decide (zs.getD k 0 = x) || hasB (zs.drop (k + 1)) x) := by
  unfold hasB
  have e : zs.getD k 0 = zs[k] := by simp [List.getD_eq_getElem?_getD, List.getElem?_eq_getElem h]
  rw [e, List.drop_eq_getElem_cons h]
  simp only [List.mem_cons]
  by_cases hx : zs[k] = x
  · simp [hx]
  · have hx' : ¬ x = zs[k] := fun e => hx e.symm
    simp only [hx, hx', false_or, decide_false, Bool.false_or]
theorem hasB_end (zs : List Int) (k : Nat) (x : Int) (h : zs.length ≤ k) : hasB (zs.drop k) x = false := by
  unfold hasB; rw [List.drop_eq_nil_of_le h]; simp

set_option maxHeartbeats 400000 in
theorem index_any (v : Value) (zs : List Int) (x : Int) (w : World) (h : Ints w v zs) :
    Calls Tryz.prog 124 #[v, .int .i64 x] w fun e w' => (∃ i : Int, e = .returned (.int .i64 i) ∧ decide (0 ≤ i) = hasB zs x) ∧ w = w' := by
  obtain ⟨a, c, rfl, h1, h2, _, h3⟩ := h.ex
  clear h
  unfold maxLen at h2
  have H3 := Lib.hid h3; clear h3
  go_enter Tryz.func124, Tryz.ntmps124
  go_wp2
  go_loop [8] (fun i => ∃ k : Nat, k ≤ zs.length ∧ i = .int .i64 k ∧ Hid (hasB (zs.drop k) x = hasB zs x)) (fun i => zs.length - (intOf i).toNat)
  case atStart => exact ⟨0, Nat.zero_le _, rfl, Lib.hid (by simp)⟩
  case round =>
    obtain ⟨k, hk, rfl, H⟩ := hrel
    by_cases hlt : k < zs.length
    · obtain ⟨b, off, rfl, _, hc⟩ := H3.out (by omega)
      have hcell := hc k hlt
      clear hc
      obtain ⟨y, hy⟩ : ∃ y, y = zs.getD k 0 := ⟨_, rfl⟩
      rw [← hy] at hcell
      have HY := Lib.hid hy; clear hy
      have hd := hasB_drop zs k x hlt
      rw [← HY.out] at hd
      have HD := Lib.hid hd; clear hd
      by_cases hyx : y = x
      · have hb : (x == y) = true := by simpa using hyx.symm
        have HE := Lib.hid hyx; clear hyx
        go_wp2
        go_ret
        exact ⟨⟨k, rfl, by rw [← H.out, HD.out]; simp [HE.out]⟩, rfl⟩
      · have hb : (x == y) = false := by simp; exact fun e => hyx e.symm
        have h5 : hasB (zs.drop (k + 1)) x = hasB zs x := by rw [← H.out, HD.out]; simp [hyx]
        have H5 := Lib.hid h5; clear h5 HD HY hyx
        go_wp2
        go_round
        case rel => exact ⟨k + 1, by omega, by go_num, H5⟩
        case measure => simp [intOf]; omega
    · go_wp2
      go_ret
      exact ⟨⟨-1, rfl, by rw [← H.out, hasB_end zs k x (by omega)]; rfl⟩, rfl⟩

set_option maxHeartbeats 400000 in
theorem contains_any (v : Value) (zs : List Int) (x : Int) (w : World) (h : Ints w v zs) :
    Calls Tryz.prog 116 #[v, .int .i64 x] w fun e w' => e = .returned (.bool (hasB zs x)) ∧ w = w' := by
  go_enter Tryz.func116, Tryz.ntmps116
  go_wp2_with (go_at_call 124; refine (index_any _ _ _ _ h).mono ?_; rintro e w' ⟨⟨i, rfl, hi⟩, rfl⟩)
  go_ret
  exact ⟨rfl, rfl⟩

set_option maxHeartbeats 400000 in
theorem in_any (c : Int) (h0 : 0 ≤ c) (h1 : c < 256) (v : Value) (zs : List Int) (w : World) (h : Ints w v zs) :
    Calls Tryz.prog 110 #[.int .u8 c, v] w fun e w' => e = .returned (.bool (hasB zs (clsI c))) ∧ Bel w.heap.size w w' := by
  go_enter Tryz.func110, Tryz.ntmps110
  go_wp2_with (first
    | (go_at_call 117; refine (class_any c h0 h1 _).mono ?_; rintro e w1 ⟨rfl, hb1⟩)
    | (go_at_call 116; refine (contains_any _ zs _ _ (h.below (by assumption))).mono ?_; rintro e w2 ⟨rfl, rfl⟩))
  go_ret
  exact ⟨rfl, by assumption⟩
end Go.Proofs.YtdefphacdcbljaaGreat

namespace Go.Proofs.YtdefphacdcbljaaGreat
open Go.RowKit
set_option maxRecDepth 100000

/-- Are all octets' classes among these? -/
def allB (l : List UInt8) (zs : List Int) : Bool := l.all fun c => hasB zs (clsI c.toNat)

/-- Which of the ten classes are among these. -/
def flagsV (zs : List Int) : Array Value := ((List.range 10).map fun (c : Nat) => Value.bool (hasB zs (c : Int))).toArray
theorem flagsV_size (zs : List Int) : (flagsV zs).size = 10 := by simp [flagsV]
theorem flagsV_at (zs : List Int) (c : Nat) (h : c < 10) : (flagsV zs)[c]? = some (.bool (hasB zs (c : Int))) := by
  simp [flagsV, h]
theorem hasB_snoc (zs : List Int) (x c : Int) : hasB (zs ++ [x]) c = (hasB zs c || decide (c = x)) := by
  simp [hasB]
theorem flagsV_set (zs : List Int) (x : Int) (h0 : 0 ≤ x) (h1 : x < 10) : (flagsV zs).setIfInBounds x.toNat (.bool true) = flagsV (zs ++ [x]) := by
  apply Array.ext
  · simp [flagsV]
  · intro i hi hj
    have hi10 : i < 10 := by simpa [flagsV] using hj
    rw [Array.getElem_setIfInBounds]
    · simp only [flagsV, List.getElem_toArray, List.getElem_map, List.getElem_range, hasB_snoc]
      by_cases e : x.toNat = i
      · rw [if_pos e]; have : (i : Int) = x := by omega
        simp [this]
      · rw [if_neg e]; have : ¬ (i : Int) = x := by omega
        simp [this]
    · simpa [flagsV] using hi10
theorem flagsV_out (zs : List Int) (x : Int) (h : x < 0 ∨ 10 ≤ x) : flagsV (zs ++ [x]) = flagsV zs := by
  unfold flagsV
  congr 1
  apply List.map_congr_left
  intro c hc
  have : c < 10 := List.mem_range.1 hc
  rw [hasB_snoc]
  have : ¬ (c : Int) = x := by omega
  simp [this]

theorem tabV_at (c : Nat) (h : c < 256) : tabV[c]? = some (.int .u8 (clsI (c : Int))) := by
  have hn : c < tabL.length := by have : tabL.length = 256 := by decide +kernel
                                  omega
  unfold tabV clsI
  rw [List.getElem?_toArray, List.getElem?_map, List.getD_eq_getElem?_getD, Int.toNat_natCast, List.getElem?_eq_getElem hn]
  rfl

set_option maxHeartbeats 1000000 in
theorem all_any (s : ByteArray) (hs : s.size ≤ maxLen) (v : Value) (zs : List Int) (w : World) (h : Ints w v zs) :
    Calls Tryz.prog 113 #[.string s, v] w fun e w' => e = .returned (.bool (allB s.data.toList zs)) ∧ Bel w.heap.size w w' := by
  obtain ⟨a, c, rfl, h1, h2, _, h3⟩ := h.ex
  clear h
  unfold maxLen at h2 hs
  have H3 := Lib.hid h3; clear h3
  have hz : ∀ w, Sem.run Tryz.prog (zeroValue 141) w = .ok (.agg (flagsV [])) w := by intro w; kernel_rfl
  have hz2 := Tryz.zero_tab
  go_enter Tryz.func113, Tryz.ntmps113
  go_wp2
  go_loopw [12] (fun i wr => ∃ k : Nat, k ≤ zs.length ∧ i = .int .i64 k ∧ wr.heap[w.heap.size]? = some (.cells (flagsV (zs.take k)) 141 (0, 0)) ∧ wr.heap.size = w.heap.size + 1 ∧ Bel w.heap.size w wr) (fun i _ => zs.length - (intOf i).toNat)
  case atStart => exact ⟨0, Nat.zero_le _, rfl, heap_alloc_new _ _, by simp, (Bel.refl _ _).alloc (Nat.le_refl _) _⟩
  case round =>
    obtain ⟨k, hk, rfl, hfl, hsz, hbel⟩ := hrel
    by_cases hlt : k < zs.length
    · obtain ⟨b, off, rfl, hbk, hc⟩ := H3.out (by omega)
      have hcell : wr.cell? ⟨b, off + k, none⟩ = some (.int .i64 (zs.getD k 0)) := by rw [hbel.cell (by exact hbk)]; exact hc k hlt
      clear hc
      have ht : zs.take (k + 1) = zs.take k ++ [zs.getD k 0] := by
        rw [List.take_succ_eq_append_getElem hlt]; simp [List.getD_eq_getElem?_getD, List.getElem?_eq_getElem hlt]
      have HT := Lib.hid ht; clear ht
      obtain ⟨y, hy⟩ : ∃ y, y = zs.getD k 0 := ⟨_, rfl⟩
      rw [← hy] at hcell
      have HY := Lib.hid hy; clear hy
      have HF := Lib.hid hfl; clear hfl
      by_cases hin : 0 ≤ y ∧ y < 10
      · obtain ⟨hy0, hy1⟩ := hin
        have hfz : wr.frozen? ⟨w.heap.size, y.toNat, none⟩ = false := by simp [World.frozen?, HF.out]
        have hcl : ∃ o, wr.cell? ⟨w.heap.size, y.toNat, none⟩ = some o := ⟨_, by simp [World.cell?, HF.out]; exact flagsV_at _ y.toNat (by omega)⟩
        obtain ⟨o, ho⟩ := hcl
        go_wp2
        go_roundw
        case rel =>
          refine ⟨k + 1, by omega, by go_num, ?_, by simpa using hsz, hbel.setCell (by exact Nat.le_refl _) _⟩
          rw [setCell_eq_setRow _ _ _ _ _ _ _ HF.out, HT.out, ← HY.out, ← flagsV_set _ y hy0 hy1]
          exact setRow_heap _ _ _ _ _ _ HF.out
        case measure => simp [intOf]; omega
      · have hfl2 : wr.heap[w.heap.size]? = some (.cells (flagsV (zs.take (k + 1))) 141 (0, 0)) := by
          rw [HT.out, ← HY.out, flagsV_out _ y (by omega)]; exact HF.out
        have HF2 := Lib.hid hfl2; clear hfl2 HF
        by_cases hy0 : 0 ≤ y
        · have hy1 : ¬ y < 10 := by omega
          clear hin
          go_wp2
          go_roundw
          case rel => exact ⟨k + 1, by omega, by go_num, HF2.out, hsz, hbel⟩
          case measure => simp [intOf]; omega
        · clear hin
          go_wp2
          go_roundw
          case rel => exact ⟨k + 1, by omega, by go_num, HF2.out, hsz, hbel⟩
          case measure => simp [intOf]; omega
    · have hfl2 : wr.heap[w.heap.size]? = some (.cells (flagsV zs) 141 (0, 0)) := by
        rw [List.take_of_length_le (by omega)] at hfl; exact hfl
      have HF := Lib.hid hfl2; clear hfl2 hfl
      go_wp2_with (first
        | (go_at_call 122; refine (table_any _).mono ?_; rintro e w1 ⟨rfl, hb1⟩)
        | (refine wpList_store_row rfl 142 _ _ rfl _ tabV rfl rfl 142 zeroV ?_ (by rw [tabV_size]; exact Tryz.size_tab) (by rw [zeroV_size, tabV_size]) tabV_one ?_))
      · exact heap_alloc_new _ _
      obtain ⟨wx, hwx⟩ : ∃ wx, wx = (w1.alloc (.cells zeroV 142)).setRow w1.heap.size tabV := ⟨_, rfl⟩
      rw [← hwx]
      have hT : wx.heap[w1.heap.size]? = some (.cells tabV 142 (0, 0)) := by rw [hwx]; exact setRow_heap _ _ _ _ _ _ (heap_alloc_new _ _)
      have hs1 := hb1.size
      have hF : wx.heap[w.heap.size]? = some (.cells (flagsV zs) 141 (0, 0)) := by
        rw [hwx, setRow_other _ _ _ _ (by omega), Below.heap_alloc _ _ _ (by omega), hb1.block _ (by omega)]; exact HF.out
      have hB : Bel w.heap.size w wx := by
        rw [hwx]
        exact bel_setRow (((hbel.trans (hb1.mono (by omega)))).alloc (by omega) _) (by omega) _
      clear hwx
      obtain ⟨g, hg⟩ : ∃ g, g = w1.heap.size := ⟨_, rfl⟩
      rw [← hg] at hT ⊢
      have HT := Lib.hid hT; have HF2 := Lib.hid hF; clear hT hF hg HF hz hz2 hb1 hs1 hbel hsz
      go_loop [28] (fun i => ∃ k : Nat, k ≤ s.size ∧ i = .int .i64 k ∧ Hid (allB (s.data.toList.drop k) zs = allB s.data.toList zs)) (fun i => s.size - (intOf i).toNat)
      case atStart => exact ⟨0, Nat.zero_le _, rfl, Lib.hid (by simp)⟩
      case round =>
        obtain ⟨k, hk, rfl, H⟩ := hrel
        by_cases hlt : k < s.size
        · have hd : allB (s.data.toList.drop k) zs = (hasB zs (clsI s[k].toNat) && allB (s.data.toList.drop (k + 1)) zs) := by rw [drop_at s k hlt]; rfl
          have HD := Lib.hid hd; clear hd
          have hlt8 : s[k].toNat < 256 := UInt8.toNat_lt _
          obtain ⟨y, hy⟩ : ∃ y, y = clsI s[k].toNat := ⟨_, rfl⟩
          have hyb := clsI_bd s[k].toNat (by omega) (by omega)
          have hc1 : wx.cell? ⟨g, s[k].toNat, none⟩ = some (.int .u8 y) := by
            simp only [World.cell?, HT.out, hy]
            exact tabV_at s[k].toNat hlt8
          rw [← hy] at hyb
          obtain ⟨hy0, hy1⟩ := hyb
          have hc2 : wx.cell? ⟨w.heap.size, y.toNat, none⟩ = some (.bool (hasB zs y)) := by
            simp only [World.cell?, HF2.out]
            have := flagsV_at zs y.toNat (by omega)
            rwa [show ((y.toNat : Nat) : Int) = y from by omega] at this
          have HY := Lib.hid hy; clear hy
          cases hq : hasB zs y
          · rw [hq] at hc2
            have HQ := Lib.hid hq; clear hq
            go_wp2
            go_ret
            exact ⟨ret_bool (by rw [← H.out, HD.out, ← HY.out, HQ.out]; rfl), hB⟩
          · rw [hq] at hc2
            have h5 : allB (s.data.toList.drop (k + 1)) zs = allB s.data.toList zs := by rw [← H.out, HD.out, ← HY.out, hq]; simp
            have H5 := Lib.hid h5; clear h5 hq
            go_wp2
            go_round
            case rel => exact ⟨k + 1, by omega, by go_num, H5⟩
            case measure => simp [intOf]; omega
        · have h5 : allB (s.data.toList.drop k) zs = true := by rw [drop_end s k (by omega)]; rfl
          have H5 := Lib.hid h5; clear h5
          go_wp2
          go_ret
          exact ⟨ret_bool (by rw [← H.out, H5.out]), hB⟩

end Go.Proofs.YtdefphacdcbljaaGreat
