/- The contracts of package lex's tests on bytes, of 'run' and of 'skip': each returns what the plain function of the same make gives, and leaves the world as it was. Conditions: a byte lies in 0 .. 255; a text's size fits an int. -/
import Derived.Test.YtacgbogedpoojabDoorPlain
import Derived.Test.YtacgbogedpoojabDoorProg
import Derived.WalkKit
import Derived.WalkSpells
import Derived.WalkLawsBesides
import Derived.Lib.Hide
import Derived.Lib.Strings
import Derived.Lib.IndexBytes
namespace Go.Proofs.YtacgbogedpoojabDoor
namespace Lx
open Go Go.RowKit

theorem ret_bool {a b : Bool} (h : a = b) : Ending.returned (.bool a) = .returned (.bool b) := by rw [h]
theorem ret_int {k : IntKind} {a b : Int} (h : a = b) : Ending.returned (.int k a) = .returned (.int k b) := by rw [h]

theorem low_any (x : Int) (w : World) :
    Calls Tryd.prog 61 #[.int .u8 x] w fun e w' => e = .returned (.bool (lowI x)) ∧ w = w' := by
  go_enter Tryd.func61, Tryd.ntmps61
  go_wp2
  all_goals go_ret
  all_goals (refine ⟨ret_bool ?_, rfl⟩; unfold lowI; simp; try omega)

theorem up_any (x : Int) (w : World) :
    Calls Tryd.prog 63 #[.int .u8 x] w fun e w' => e = .returned (.bool (upI x)) ∧ w = w' := by
  go_enter Tryd.func63, Tryd.ntmps63
  go_wp2
  all_goals go_ret
  all_goals (refine ⟨ret_bool ?_, rfl⟩; unfold upI; simp; try omega)

theorem dig_any (x : Int) (w : World) :
    Calls Tryd.prog 64 #[.int .u8 x] w fun e w' => e = .returned (.bool (digI x)) ∧ w = w' := by
  go_enter Tryd.func64, Tryd.ntmps64
  go_wp2
  all_goals go_ret
  all_goals (refine ⟨ret_bool ?_, rfl⟩; unfold digI; simp; try omega)

theorem cmt_any (x : Int) (w : World) :
    Calls Tryd.prog 60 #[.int .u8 x] w fun e w' => e = .returned (.bool (cmtI x)) ∧ w = w' := by
  go_enter Tryd.func60, Tryd.ntmps60
  go_wp2
  all_goals go_ret
  all_goals exact ⟨rfl, rfl⟩

theorem blk_any (x : Int) (w : World) :
    Calls Tryd.prog 58 #[.int .u8 x] w fun e w' => e = .returned (.bool (blkI x)) ∧ w = w' := by
  go_enter Tryd.func58, Tryd.ntmps58
  go_wp2
  all_goals go_ret
  all_goals (refine ⟨ret_bool ?_, rfl⟩; simp [blkI, *])

theorem word_any (x : Int) (w : World) :
    Calls Tryd.prog 69 #[.int .u8 x] w fun e w' => e = .returned (.bool (wordI x)) ∧ w = w' := by
  have hw : wordI x = (lowI x || upI x || digI x || x == 95) := rfl
  have HW := Lib.hid hw; clear hw
  have hl := low_any x
  have hu := up_any x
  have hd := dig_any x
  have HL := Lib.hid hl; clear hl
  have HU := Lib.hid hu; clear hu
  have HD := Lib.hid hd; clear hd
  generalize lowI x = a at HL HW
  generalize upI x = b at HU HW
  generalize digI x = c at HD HW
  cases a <;> cases b <;> cases c
  all_goals
    go_enter Tryd.func69, Tryd.ntmps69
    go_wp2_with (first | (go_at_call 61; refine (HL.out _).mono ?_; rintro e w' ⟨rfl, rfl⟩) | (go_at_call 63; refine (HU.out _).mono ?_; rintro e w' ⟨rfl, rfl⟩) | (go_at_call 64; refine (HD.out _).mono ?_; rintro e w' ⟨rfl, rfl⟩))
    go_ret
    exact ⟨ret_bool (by rw [HW.out]; simp), rfl⟩

end Lx
end Go.Proofs.YtacgbogedpoojabDoor
