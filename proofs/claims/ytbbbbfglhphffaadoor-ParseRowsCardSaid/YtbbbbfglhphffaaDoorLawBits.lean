/- Small facts for the statements' walks: remainders, an error held against itself, the shapes of what is returned, two texts as one. No conditions. -/
import Derived.Test.YtbbbbfglhphffaaDoorTextI
import Derived.IntWalk
import Derived.LaidEql
namespace Go.Proofs.YtbbbbfglhphffaaDoor
set_option linter.unusedSimpArgs false
set_option linter.unusedVariables false
namespace Lx
open Go Go.RowKit

theorem tmod_in (x : Int) (m : Nat) (hm : 0 < m) : -(m : Int) < x.tmod m ∧ x.tmod m < m := by
  rcases Int.le_total 0 x with h | h
  · rw [Int.tmod_eq_emod_of_nonneg h]
    have := Int.emod_nonneg x (show (m : Int) ≠ 0 by omega)
    have := Int.emod_lt_of_pos x (show (0 : Int) < m by omega)
    omega
  · have e : x = -(-x) := by omega
    rw [e, Int.neg_tmod, Int.tmod_eq_emod_of_nonneg (by omega)]
    have := Int.emod_nonneg (-x) (show (m : Int) ≠ 0 by omega)
    have := Int.emod_lt_of_pos (-x) (show (0 : Int) < m by omega)
    omega

theorem eql_same (a : Addr) (W : World) : (binOp .eql 25 (errP a) (errP a)).run Tryd.prog W = .ok (.bool true) W := by
  obtain ⟨i, hi, hc⟩ : ∃ i, Tryd.prog.info? 230 = some i ∧ i.comparable = true := by
    have h : (Tryd.prog.info? 230).map (·.comparable) = some true := by kernel_rfl
    cases hq : Tryd.prog.info? 230 with
    | none => rw [hq] at h; cases h
    | some i => rw [hq] at h; exact ⟨i, rfl, Option.some.inj h⟩
  obtain ⟨j, hj⟩ : ∃ j, Tryd.prog.info? 232 = some j := by
    have h : (Tryd.prog.info? 232).isSome = true := by kernel_rfl
    exact Option.isSome_iff_exists.1 h
  exact run_eql_iface_ptr_same W a Tryd.underlying25 Tryd.underlying230 hi hc hj

theorem term_shape {f : Nat → Addr} {w w' : World} {v er : Value} {o : Out TermT} (h : TextR f (TermV 66) (.agg #[.int .i64 0, .string ⟨#[]⟩, .int .i64 0, .slice none 0 0]) w w' v er o) : ∃ z1 z2 z3 z4 z5 z6, v = .agg #[.int .i64 z1, .string z2, .int .i64 z3, .slice z4 z5 z6] := by
  cases o with
  | no i => exact ⟨_, _, _, _, _, _, h.1⟩
  | ok x k => exact TermV.shape h.2

theorem add_bs (a b : List UInt8) (h : a.length + b.length ≤ 10000) : ∀ W : World, (Op.stringOp .add (bs a) (bs b)).run Tryd.prog W = .ok (.string (bs (a ++ b))) W := fun W => by
  rw [run_string_add_sum (P := Tryd.prog) W (bs a) (bs b) (by rw [bs_len, bs_len]; omega), bs_app]

theorem src_shape {f : Nat → Addr} {w w' : World} {v er : Value} {o : Out (List ItemT)} (h : TextR f (ArgsV 50 20 ItemV) (.slice none 0 0) w w' v er o) : ∃ z1 z2 z3, v = .slice z1 z2 z3 := by
  cases o with
  | no i => exact ⟨_, _, _, h.1⟩
  | ok x k => exact ArgsV.slice h.2
theorem goal_shape {f : Nat → Addr} {w w' : World} {v er : Value} {o : Out GoalT} (h : TextR f (GoalV 134) (.agg #[.int .i64 0, .int .i64 0, .string ⟨#[]⟩, .int .i64 0, .slice none 0 0, .int .i64 0, .string ⟨#[]⟩, .int .i64 0, .slice none 0 0, .string ⟨#[]⟩, .slice none 0 0, .slice none 0 0]) w w' v er o) :
    ∃ C : Array Value, v = .agg C ∧ C.size = 12 ∧ C.all (·.oneCell') = true := by
  cases o with
  | no i => exact ⟨_, h.1, rfl, by simp [Value.oneCell']⟩
  | ok x k =>
    obtain ⟨_, _, _, _, _, _, _, _, _, _, _, _, _, _, _, _, _, _, _, _, e⟩ := GoalV.this _ _ _ _ _ _ h.2
    exact ⟨_, e, rfl, by simp [Value.oneCell']⟩
theorem count80 (x : Int) : ∃ k : Nat, k < 80 ∧ (x.tmod 80 + 80).tmod 80 = (k : Int) ∧ -80 < x.tmod 80 ∧ x.tmod 80 < 80 := by
  have h := tmod_in x 80 (by decide)
  have h' : -80 < x.tmod 80 ∧ x.tmod 80 < 80 := h
  refine ⟨((x.tmod 80 + 80) % 80).toNat, by omega, ?_, h'⟩
  rw [Int.tmod_eq_emod_of_nonneg (by omega)]
  omega

end Lx
end Go.Proofs.YtbbbbfglhphffaaDoor
