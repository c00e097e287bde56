/- The walk of the statement LexWords: it returns true. Conditions: the error variables hold an error; strconv's table of powers of ten holds them. -/
import Derived.Test.YtdalldhgfdnaeaaDoorAlive
import Derived.Test.YtdalldhgfdnaeaaDoorWords
namespace Go.Proofs.YtdalldhgfdnaeaaDoor
namespace Lx
open Go Go.RowKit

theorem resv_then : resv (ByteArray.mk #[116, 104, 101, 110]).toList = true := by rw [ByteArray.toList_eq]; decide
theorem resv_empty : resv (ByteArray.mk #[]).toList = false := by rw [ByteArray.toList_eq]; decide

theorem lawWords_any (s : ByteArray) (w : World) (hE : Env w) (el et : Value) (hR : Errs w el et) :
    Calls Tryd.prog 7 #[.string s] w fun e w' => e = .returned (.bool true) ∧ Below w.heap.size w w' := by
  have HA := Lib.hid (alive_any w hE el et hR)
  have h1 := reserved_any s
  have h2 := refReserved_any s
  generalize resv s.toList = b at h1 h2
  have H1 := Lib.hid h1
  have H2 := Lib.hid h2
  have h3 := reserved_any ⟨#[116, 104, 101, 110]⟩
  have h4 := reserved_any ⟨#[]⟩
  rw [resv_then] at h3
  rw [resv_empty] at h4
  have H3 := Lib.hid h3
  have H4 := Lib.hid h4
  clear h1 h2 h3 h4 hE hR
  cases b
  all_goals
    go_enter Tryd.func7, Tryd.ntmps7
    go_wp2_with fail
    refine HA.out.mono ?_
    rintro e w1 ⟨rfl, hb1⟩
    go_wp2_with fail
    refine (H1.out _).mono ?_
    rintro e w2 ⟨rfl, rfl⟩
    go_wp2_with fail
    refine (H2.out _).mono ?_
    rintro e w2 ⟨rfl, hb2⟩
    go_wp2_with fail
    refine (H3.out _).mono ?_
    rintro e w3 ⟨rfl, rfl⟩
    go_wp2_with fail
    refine (H4.out _).mono ?_
    rintro e w3 ⟨rfl, rfl⟩
    go_wp2_with fail
    go_ret
    exact ⟨rfl, hb1.trans (hb2.mono hb1.size)⟩

end Lx
end Go.Proofs.YtdalldhgfdnaeaaDoor
