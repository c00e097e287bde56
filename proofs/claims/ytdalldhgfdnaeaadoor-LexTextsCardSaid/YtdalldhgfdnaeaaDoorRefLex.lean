/- The contract of the reference's Lex at every text: the tokens that the plain functions find, or no token and the error's number. No conditions. -/
import Derived.Test.YtdalldhgfdnaeaaDoorRefAll
namespace Go.Proofs.YtdalldhgfdnaeaaDoor
namespace Lx
open Go Go.RowKit

/-- What the reference's Lex returns. -/
def RefLexEnd (s : ByteArray) (w : World) (e : Ending) (w' : World) : Prop :=
  Below w.heap.size w w' ∧ (
    (16384 < s.size ∧ e = .returned (.tuple #[.slice none 0 0, .int .i64 4])) ∨
    (s.size ≤ 16384 ∧ whole s.data.toList = false ∧ e = .returned (.tuple #[.slice none 0 0, .int .i64 1])) ∨
    (s.size ≤ 16384 ∧ whole s.data.toList = true ∧ ∃ v, e = .returned (.tuple #[v, .int .i64 0]) ∧ w'.ownsRow w.heap.size 40 3 v (toks s.data.toList).length (cellsT (toks s.data.toList))))

theorem toks_length (l : List UInt8) : (lex false 0 l).1.length = (toks l).length := by unfold toks; rw [List.length_map]

theorem refLex_any (s : ByteArray) (w : World) : Calls Tryd.prog 13 #[.string s] w fun e w' => RefLexEnd s w e w' := by
  rcases Nat.lt_or_ge 16384 s.size with hs | hs
  · have hq : decide ((16384 : Int) < (s.size : Int)) = true := by simp; omega
    go_enter Tryd.func13, Tryd.ntmps13
    go_wp2
    go_ret2
    exact ⟨Below.refl _ _, .inl ⟨hs, rfl⟩⟩
  · have hq : decide ((16384 : Int) < (s.size : Int)) = false := by simp; omega
    have HA := Lib.hid (fun w => refAll_any s (by omega) w)
    cases hw : whole s.data.toList with
    | false =>
      have HW := Lib.hid hw
      have hA := fun w => (HA.out w).mono (R' := fun e w' => ∃ pv ov, e = .returned (.tuple #[pv, ov, .bool false]) ∧ Below w.heap.size w w') (by
        rintro e w' ⟨hb, pv, ov, he, _⟩
        exact ⟨pv, ov, by rw [he, HW.out], hb⟩)
      have HA2 := Lib.hid hA
      clear HA hA hw
      go_enter Tryd.func13, Tryd.ntmps13
      go_wp2_with (go_at_call 16; refine (HA2.out _).mono ?_; rintro e w' ⟨pv, ov, rfl, hb⟩)
      go_ret2
      exact ⟨hb, .inr (.inl ⟨hs, HW.out, rfl⟩)⟩
    | true =>
      have HW := Lib.hid hw
      have hA := fun w => (HA.out w).mono (R' := fun e w' => ∃ pv ov, e = .returned (.tuple #[pv, ov, .bool true]) ∧ Below w.heap.size w w' ∧ w'.ownsRow w.heap.size 40 3 ov (toks s.data.toList).length (cellsT (toks s.data.toList))) (by
        rintro e w' ⟨hb, pv, ov, he, _, ho⟩
        rw [toks_length] at ho
        exact ⟨pv, ov, by rw [he, HW.out], hb, ho⟩)
      have HA2 := Lib.hid hA
      clear HA hA hw
      go_enter Tryd.func13, Tryd.ntmps13
      go_wp2_with (go_at_call 16; refine (HA2.out _).mono ?_; rintro e w' ⟨pv, ov, rfl, hb, ho⟩)
      obtain ⟨A, c, rfl⟩ := owns_shape ho
      go_ret2
      exact ⟨hb, .inr (.inr ⟨hs, HW.out, _, rfl, ho⟩)⟩

end Lx
end Go.Proofs.YtdalldhgfdnaeaaDoor
