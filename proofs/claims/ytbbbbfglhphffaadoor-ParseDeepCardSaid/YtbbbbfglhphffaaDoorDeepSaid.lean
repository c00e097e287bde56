/- What the nested texts come to, as it is met in the walk. No conditions. -/
import Derived.Test.YtbbbbfglhphffaaDoorPlainDeep
import Derived.Test.YtbbbbfglhphffaaDoorLawBits
namespace Go.Proofs.YtbbbbfglhphffaaDoor
set_option linter.unusedSimpArgs false
set_option linter.unusedVariables false
namespace Lx
open Go Go.RowKit

/-- What a text comes to that is read, or too deep. -/
theorem deep_said {α : Type} {f : Nat → Addr} {V : Holds α} {z : Value} {w w' : World} {v er : Value} {most k : Nat} {o : Out α} (hk : okDeep most k o = true) (h : TextR f V z w w' v er o) : (most ≤ k ∧ er = errP (f 0)) ∨ (k < most ∧ er = .nilIface) := by
  match o, hk, h with
  | .no i, hk, h =>
    simp only [okDeep, Bool.and_eq_true, decide_eq_true_eq, beq_iff_eq] at hk
    obtain ⟨h1, rfl⟩ := hk
    exact .inl ⟨h1, h.2⟩
  | .ok _ _, hk, ⟨he, _⟩ =>
    simp only [okDeep, decide_eq_true_eq] at hk
    exact .inr ⟨hk, he⟩

end Lx
end Go.Proofs.YtbbbbfglhphffaaDoor
