/- What the bound on the bulk of the arguments gives: each text's size, and how many there are. No program stands in this text; no conditions. -/
import Derived.Test.YtdalldhgfdnaeaaDoorRows
import Derived.SliceStrings
namespace Go.Proofs.YtdalldhgfdnaeaaDoor
namespace Lx
open Go Go.ChangeShapes

theorem bulk_append {H : Type} (l r : List (DataW H)) : Rows.uptoBulkAll (l ++ r) = Rows.uptoBulkAll l + Rows.uptoBulkAll r := by
  induction l with
  | nil => simp [Rows.uptoBulkAll]
  | cons x l ih => simp only [List.cons_append, Rows.uptoBulkAll, ih]; omega
theorem bulk_strs {H : Type} : ∀ l : List ByteArray, (∀ x ∈ l, x.size + 1 ≤ Rows.uptoBulkAll (H := H) (strs l)) ∧ l.length ≤ Rows.uptoBulkAll (H := H) (strs l)
  | [] => ⟨fun x hx => absurd hx (List.not_mem_nil), Nat.zero_le _⟩
  | y :: l => by
    obtain ⟨h1, h2⟩ := bulk_strs (H := H) l
    have e : Rows.uptoBulkAll (H := H) (strs (y :: l)) = (y.data.toList.length + 1) + Rows.uptoBulkAll (H := H) (strs l) := by
      simp only [strs, List.map_cons, Rows.uptoBulkAll, Rows.uptoBulk]
    have hy : y.data.toList.length = y.size := by simp
    rw [e, hy]
    refine ⟨fun x hx => ?_, by rw [List.length_cons]; omega⟩
    rcases List.mem_cons.1 hx with rfl | hx
    · omega
    · have := h1 x hx
      omega
/-- The bound, parted by the arguments. -/
theorem bulk_two {H : Type} {a b : DataW H} (hk : Rows.uptoSmall H ([a, b] ++ []) = true) : Rows.uptoBulk a ≤ 1048576 ∧ Rows.uptoBulk b ≤ 1048576 := by
  have h := of_decide_eq_true hk
  simp only [List.append_nil, Rows.uptoBulkAll] at h
  omega
theorem bulk_slice {H : Type} {l r : List (DataW H)} (h : Rows.uptoBulk (.slice l r) ≤ 1048576) : Rows.uptoBulkAll l ≤ 1048576 := by
  simp only [Rows.uptoBulk] at h
  omega

theorem add_at (b off j : Nat) : ((⟨b, off, none⟩ : Addr).add j) = ⟨b, off + j, none⟩ := by
  by_cases h : j = 0
  · subst h; rfl
  · simp [Addr.add, h]

end Lx
end Go.Proofs.YtdalldhgfdnaeaaDoor
