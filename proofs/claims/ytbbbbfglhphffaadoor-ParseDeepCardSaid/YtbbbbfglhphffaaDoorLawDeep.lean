/- The walk of the statement ParseDeep: it returns true. Conditions: the error variables hold what they should; strconv's table of powers of ten holds them. -/
import Derived.Test.YtbbbbfglhphffaaDoorDeepSaid
import Derived.Test.YtbbbbfglhphffaaDoorTextT
import Derived.Test.YtbbbbfglhphffaaDoorTextG
namespace Go.Proofs.YtbbbbfglhphffaaDoor
set_option linter.unusedSimpArgs false
set_option linter.unusedVariables false
namespace Lx
open Go Go.RowKit

def tP (k : Nat) : List UInt8 := [102, 40] ++ tD k
def gP (k : Nat) : List UInt8 := [40] ++ gD k
theorem below_sets {B N : Nat} {w x : World} (h : Below B w x) (hN : B ≤ N) (l : List Value) : Below B w (x.setCells N 0 l) :=
  ⟨(sets_os _ _ _ _).1.trans h.os, (sets_os _ _ _ _).2.1.trans h.tape, (sets_os _ _ _ _).2.2.trans h.output, by rw [sets_size]; exact h.size, fun j hj => (sets_else _ _ _ _ j (by omega)).trans (h.block j hj)⟩

set_option maxRecDepth 100000 in
set_option maxHeartbeats 2000000 in
theorem lawDeep_any (x : Int) (_ : (Lit.int .i64 x).wf = true) (w : World) (hE : Env w) (f : Nat → Addr) (h4 : Errs4 w f) :
    Calls Tryd.prog 5 #[.int .i64 x] w fun e w' => e = .returned (.bool true) ∧ Below w.heap.size w w' := by
  obtain ⟨k, hk, hkx, hx1, hx2⟩ := count80 x
  have HC1 := Lib.hid (deepT k hk)
  have HC2 := Lib.hid (deepG k hk)
  have HA := Lib.hid (alive_any w hE f h4)
  have HV := Lib.hid hE
  have HW := Lib.hid h4
  have HS1 := Lib.hid (fun w hE h4 => textTe_any (bs (tD k)) w hE f h4)
  have HS2 := Lib.hid (fun w hE h4 => textGo_any (bs (gD k)) w hE f h4)
  rw [textO_bs] at HS1 HS2
  have hw1 : IntKind.i64.wrap (x.tmod 80 + 80) = x.tmod 80 + 80 := IntWalk.i64_in _ (by omega)
  clear hE h4
  go_enter Tryd.func5, Tryd.ntmps5
  go_wp2_with fail
  refine HA.out.mono ?_
  rintro e w1 ⟨rfl, hb1⟩
  have HB1 := Lib.hid hb1
  clear hb1
  go_wp2_with fail
  go_loopw [3, 4, 16] (fun s t i wr => ∃ j : Nat, j ≤ k ∧ s = .string (bs (tD j)) ∧ t = .string (bs (gD j)) ∧ i = .int .i64 j ∧ wr = w1) (fun _ _ i _ => k - (intOf i).toNat)
  case atStart => exact ⟨0, Nat.zero_le _, rfl, rfl, rfl, rfl⟩
  case round =>
    obtain ⟨j, hj, rfl, rfl, rfl, rfl⟩ := hrel
    by_cases hlt : j < k
    · have l1 := tD_len j
      have l2 := gD_len j
      have q1 : ∀ W : World, (Op.stringOp .add ⟨#[102, 40]⟩ (bs (tD j))).run Tryd.prog W = .ok (.string (bs (tP j))) W := add_bs [102, 40] (tD j) (by simp; omega)
      have q2 : ∀ W : World, (Op.stringOp .add (bs (tP j)) ⟨#[41]⟩).run Tryd.prog W = .ok (.string (bs (tD (j + 1)))) W := add_bs (tP j) [41] (by simp [tP]; omega)
      have q3 : ∀ W : World, (Op.stringOp .add ⟨#[40]⟩ (bs (gD j))).run Tryd.prog W = .ok (.string (bs (gP j))) W := add_bs [40] (gD j) (by simp; omega)
      have q4 : ∀ W : World, (Op.stringOp .add (bs (gP j)) ⟨#[41]⟩).run Tryd.prog W = .ok (.string (bs (gD (j + 1)))) W := add_bs (gP j) [41] (by simp [gP]; omega)
      have hdc : decide (j < k) = true := by simpa using hlt
      clear l1 l2
      go_wp2_with fail
      go_roundw
      case rel => exact ⟨j + 1, hlt, rfl, rfl, rfl, trivial⟩
      case measure => simp [intOf]; omega
    · obtain rfl : j = k := by omega
      have hdc : decide (j < j) = false := by simp
      go_wp2_with fail
      go_at_call 14
      refine (HS1.out _ (HV.out.below HB1.out) (HW.out.below HB1.out)).mono ?_
      rintro e w2 ⟨v1, er1, rfl, hb2, ht1⟩
      have HB2 := Lib.hid (HB1.out.trans (hb2.mono HB1.out.size))
      obtain ⟨z1, z2, z3, z4, z5, z6, rfl⟩ := term_shape ht1
      have hq1 := deep_said HC1.out ht1
      clear ht1 hb2
      go_wp2_with fail
      go_at_call 12
      have HB2a := Lib.hid (HB2.out.alloc HB2.out.size (.cells #[.int .i64 z1, .string z2, .int .i64 z3, .slice z4 z5 z6] 32))
      refine (HS2.out _ (HV.out.below HB2a.out) (HW.out.below HB2a.out)).mono ?_
      rintro e w3 ⟨v2, er2, rfl, hb3, ht2⟩
      have HB3 := Lib.hid (HB2a.out.trans (hb3.mono HB2a.out.size))
      obtain ⟨C, rfl, hC, hC1⟩ := goal_row ht2
      have hq2 := deep_said HC2.out ht2
      have hN := heap_alloc_new w3 (.cells #[.int .i64 0, .int .i64 0, .string ⟨#[]⟩, .int .i64 0, .slice none 0 0, .int .i64 0, .string ⟨#[]⟩, .int .i64 0, .slice none 0 0, .string ⟨#[]⟩, .slice none 0 0, .slice none 0 0] 35)
      have hst := store_cells_at (w := w3.alloc (.cells #[.int .i64 0, .int .i64 0, .string ⟨#[]⟩, .int .i64 0, .slice none 0 0, .int .i64 0, .string ⟨#[]⟩, .int .i64 0, .slice none 0 0, .string ⟨#[]⟩, .slice none 0 0, .slice none 0 0] 35)) (b := w3.heap.size) (cells := C) (by rw [hC]; exact there_all hN) hC1
      have hbx : Below w.heap.size w ((w3.alloc (.cells #[.int .i64 0, .int .i64 0, .string ⟨#[]⟩, .int .i64 0, .slice none 0 0, .int .i64 0, .string ⟨#[]⟩, .int .i64 0, .slice none 0 0, .string ⟨#[]⟩, .slice none 0 0, .slice none 0 0] 35)).setCells w3.heap.size 0 C.toList) := below_sets (HB3.out.alloc HB3.out.size _) HB3.out.size _
      generalize (w3.alloc (.cells #[.int .i64 0, .int .i64 0, .string ⟨#[]⟩, .int .i64 0, .slice none 0 0, .int .i64 0, .string ⟨#[]⟩, .int .i64 0, .slice none 0 0, .string ⟨#[]⟩, .slice none 0 0, .slice none 0 0] 35)).setCells w3.heap.size 0 C.toList = X at hst hbx
      have HBX := Lib.hid hbx
      have hnest := (HW.out.below hbx).nest
      have hltn := World.block_lt_of_cell? _ _ hnest
      have hes := eql_same (f 0)
      have HCS := Lib.hid hC
      clear hN hC1 ht2 hb3 hbx hkx hx1 hx2 hw1
      rcases hq1 with ⟨g1, rfl⟩ | ⟨g1, rfl⟩
      · rcases hq2 with ⟨g2, rfl⟩ | ⟨g2, rfl⟩
        · have d1 : decide ((j : Int) < 64) = false := by simp; omega
          have d2 : decide ((j : Int) < 63) = false := by simp; omega
          go_wp2_with fail
          go_ret
          exact ⟨rfl, HBX.out⟩
        · omega
      · rcases hq2 with ⟨g2, rfl⟩ | ⟨g2, rfl⟩
        · have d1 : decide ((j : Int) < 64) = true := by simp; omega
          have d2 : decide ((j : Int) < 63) = false := by simp; omega
          go_wp2_with fail
          go_ret
          exact ⟨rfl, HBX.out⟩
        · have d1 : decide ((j : Int) < 64) = true := by simp; omega
          have d2 : decide ((j : Int) < 63) = true := by simp; omega
          go_wp2_with fail
          go_ret
          exact ⟨rfl, HBX.out⟩

end Lx
end Go.Proofs.YtbbbbfglhphffaaDoor
