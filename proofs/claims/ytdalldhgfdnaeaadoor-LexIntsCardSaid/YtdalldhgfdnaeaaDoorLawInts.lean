/- The walk of the statement LexInts: it returns true. Conditions: the error variables hold an error, ErrText's a pointer; strconv's table of powers of ten holds them; the number is an int. -/
import Derived.Test.YtdalldhgfdnaeaaDoorSrc
import Derived.Test.YtdalldhgfdnaeaaDoorDecimal
import Derived.LaidEql
import Derived.WalkArith
namespace Go.Proofs.YtdalldhgfdnaeaaDoor
namespace Lx
open Go Go.RowKit

theorem itoa_size (n : Int) (h0 : -9223372036854775808 ≤ n) (h1 : n ≤ 9223372036854775807) : (bs (Lib.itoa n)).size ≤ 21 := by
  show (Lib.itoa n).toArray.size ≤ 21
  simpa using Lib.itoa_length_le n h0 h1

theorem ints_good (n : Int) (h0 : -9223372036854775808 ≤ n) (h1 : n ≤ 9223372036854775807) (w : World) (hE : Env w) (el et : Value) (hR : Errs w el et) :
    Calls Tryd.prog 12 #[.string (bs (Lib.itoa n))] w fun e w' => ∃ g c, e = .returned (.tuple #[.slice (some ⟨g, 0, none⟩) 1 c, .nilIface]) ∧ Below w.heap.size w w' ∧ g < w'.heap.size ∧
      w'.cell? ⟨g, 0, none⟩ = some (.int .i64 3) ∧ w'.cell? ⟨g, 1, none⟩ = some (.string (bs (Lib.itoa n))) ∧ w'.cell? ⟨g, 2, none⟩ = some (.int .i64 n) := by
  have hs := itoa_size n h0 h1
  obtain ⟨e1, e2⟩ := toks_of (lex_itoa 0 n h0 h1)
  have hd : (bs (Lib.itoa n)).data.toList = Lib.itoa n := rfl
  refine (lex_any _ w hE el et hR).mono ?_
  rw [show LexEnd (bs (Lib.itoa n)) el et w = LexEnd (bs (Lib.itoa n)) el et w from rfl]
  rintro e w' ⟨hb, h | h | h⟩
  · exact absurd h.1 (by omega)
  · rw [hd, e2] at h
    exact absurd h.2.1 (by decide)
  · obtain ⟨_, _, v, rfl, hown⟩ := h
    rw [hd, e1] at hown
    obtain ⟨g, c, rfl⟩ := ownsRow_succ hown
    exact ⟨g, c, rfl, hb, (hown.lt g rfl).2, hown.cellAt 0 (by decide), hown.cellAt 1 (by decide), hown.cellAt 2 (by decide)⟩

theorem nought_data (n : Int) : (ByteArray.mk #[48] ++ bs (Lib.itoa n)).data.toList = 48 :: Lib.itoa n := by simp [bs]

theorem ints_bad (n : Int) (h0 : 0 ≤ n) (h1 : n ≤ 9223372036854775807) (w : World) (hE : Env w) (el et : Value) (hR : Errs w el et) :
    Calls Tryd.prog 12 #[.string (⟨#[48]⟩ ++ bs (Lib.itoa n))] w fun e w' => e = .returned (.tuple #[.slice none 0 0, et]) ∧ Below w.heap.size w w' := by
  have hs := itoa_size n (by omega) h1
  have hq : (ByteArray.mk #[48] ++ bs (Lib.itoa n)).size = 1 + (bs (Lib.itoa n)).size := by rw [ByteArray.size_append]; rfl
  refine (lex_any _ w hE el et hR).mono ?_
  rintro e w' ⟨hb, h | h | h⟩
  · exact absurd h.1 (by omega)
  · exact ⟨h.2.2, hb⟩
  · rw [nought_data, lex_nought_bad n h0 h1] at h
    exact absurd h.2.1 (by decide)
theorem ints_ok (n : Int) (h0 : -9223372036854775808 ≤ n) (h1 : n < 0) (w : World) (hE : Env w) (el et : Value) (hR : Errs w el et) :
    Calls Tryd.prog 12 #[.string (⟨#[48]⟩ ++ bs (Lib.itoa n))] w fun e w' => ∃ v, e = .returned (.tuple #[v, .nilIface]) ∧ Below w.heap.size w w' := by
  have hs := itoa_size n h0 (by omega)
  have hq : (ByteArray.mk #[48] ++ bs (Lib.itoa n)).size = 1 + (bs (Lib.itoa n)).size := by rw [ByteArray.size_append]; rfl
  refine (lex_any _ w hE el et hR).mono ?_
  rintro e w' ⟨hb, h | h | h⟩
  · exact absurd h.1 (by omega)
  · rw [nought_data, lex_nought_ok n h0 h1] at h
    exact absurd h.2.1 (by decide)
  · obtain ⟨_, _, v, h, _⟩ := h
    exact ⟨v, h, hb⟩

theorem eql_same (a : Addr) (W : World) : (binOp .eql 25 (.iface 96 (.pointer (some a))) (.iface 96 (.pointer (some a)))).run Tryd.prog W = .ok (.bool true) W := by
  obtain ⟨i, hi, hc⟩ : ∃ i, Tryd.prog.info? 96 = some i ∧ i.comparable = true := by
    have h : (Tryd.prog.info? 96).map (·.comparable) = some true := by kernel_rfl
    cases h2 : Tryd.prog.info? 96 with
    | none => rw [h2] at h; cases h
    | some i => rw [h2] at h; exact ⟨i, rfl, by simpa using h⟩
  obtain ⟨j, hj⟩ : ∃ j, Tryd.prog.info? 98 = some j := by
    have h : (Tryd.prog.info? 98).isSome = true := by kernel_rfl
    exact Option.isSome_iff_exists.1 h
  exact run_eql_iface_ptr_same W a Tryd.underlying25 Tryd.underlying96 hi hc hj
theorem eql_nil (a : Addr) (W : World) : (binOp .eql 25 .nilIface (.iface 96 (.pointer (some a)))).run Tryd.prog W = .ok (.bool false) W :=
  run_eql_iface_nil_left W _ _ Tryd.underlying25

theorem lawInts_any (n : Int) (wn : (Lit.int .i64 n).wf = true) (w : World) (hE : Env w) (el et : Value) (hR : Errs w el et) (ha : ∃ a, et = .iface 96 (.pointer (some a))) :
    Calls Tryd.prog 8 #[.int .i64 n] w fun e w' => e = .returned (.bool true) ∧ Below w.heap.size w w' := by
  obtain ⟨h0, h1⟩ : -9223372036854775808 ≤ n ∧ n ≤ 9223372036854775807 := by
    simp only [Lit.wf, Bool.and_eq_true, decide_eq_true_eq] at wn
    exact ⟨wn.1, wn.2⟩
  obtain ⟨a, rfl⟩ := ha
  have HA := Lib.hid (alive_any w hE el _ hR)
  have hsz := hE.size
  have HV := Lib.hid hE
  have HW := Lib.hid hR
  have HD := Lib.hid (fun w => decimal_any n h0 h1 w)
  have HG := Lib.hid (fun w => ints_good n h0 h1 w)
  have HS := Lib.hid (itoa_size n h0 h1)
  rcases Int.lt_or_le n 0 with hn | hn
  · have HB := Lib.hid (fun w => ints_ok n h0 hn w)
    generalize bs (Lib.itoa n) = s at *
    have r1 : ∀ W : World, (Op.stringOp .add ⟨#[48]⟩ s).run Tryd.prog W = .ok (.string (⟨#[48]⟩ ++ s)) W := fun W => run_string_add_sum W _ _ (by have := HS.out; show 1 + s.size ≤ _; omega)
    clear hE hR
    go_enter Tryd.func8, Tryd.ntmps8
    go_wp2_with fail
    refine HA.out.mono ?_
    rintro e w1 ⟨rfl, hb1⟩
    go_wp2_with fail
    refine (HD.out w1).mono ?_
    rintro e w2 ⟨rfl, hb2⟩
    have hb2 := hb1.trans (hb2.mono hb1.size)
    go_wp2_with fail
    refine (HG.out _ (HV.out.below hb2) _ _ (HW.out.below hsz hb2)).mono ?_
    rintro e w3 ⟨g, c, rfl, hb3, hg, c0, c1, c2⟩
    have hb3 := hb2.trans (hb3.mono hb2.size)
    go_wp2_with fail
    refine (HB.out _ (HV.out.below hb3) _ _ (HW.out.below hsz hb3)).mono ?_
    rintro e w4 ⟨v, rfl, hb4⟩
    have d0 := (hb4.cell (p := ⟨g, 0, none⟩) hg).trans c0
    have d1 := (hb4.cell (p := ⟨g, 1, none⟩) hg).trans c1
    have d2 := (hb4.cell (p := ⟨g, 2, none⟩) hg).trans c2
    have hb4 := hb3.trans (hb4.mono hb3.size)
    have het := (HW.out.below hsz hb4).text
    clear c0 c1 c2
    have q1 := eql_nil a
    have q2 : decide (n < 0) = true := by simp; omega
    go_wp2_with fail
    go_ret
    exact ⟨rfl, hb4⟩
  · have HB := Lib.hid (fun w => ints_bad n hn h1 w)
    generalize bs (Lib.itoa n) = s at *
    have r1 : ∀ W : World, (Op.stringOp .add ⟨#[48]⟩ s).run Tryd.prog W = .ok (.string (⟨#[48]⟩ ++ s)) W := fun W => run_string_add_sum W _ _ (by have := HS.out; show 1 + s.size ≤ _; omega)
    clear hE hR
    go_enter Tryd.func8, Tryd.ntmps8
    go_wp2_with fail
    refine HA.out.mono ?_
    rintro e w1 ⟨rfl, hb1⟩
    go_wp2_with fail
    refine (HD.out w1).mono ?_
    rintro e w2 ⟨rfl, hb2⟩
    have hb2 := hb1.trans (hb2.mono hb1.size)
    go_wp2_with fail
    refine (HG.out _ (HV.out.below hb2) _ _ (HW.out.below hsz hb2)).mono ?_
    rintro e w3 ⟨g, c, rfl, hb3, hg, c0, c1, c2⟩
    have hb3 := hb2.trans (hb3.mono hb2.size)
    go_wp2_with fail
    refine (HB.out _ (HV.out.below hb3) _ _ (HW.out.below hsz hb3)).mono ?_
    rintro e w4 ⟨rfl, hb4⟩
    have d0 := (hb4.cell (p := ⟨g, 0, none⟩) hg).trans c0
    have d1 := (hb4.cell (p := ⟨g, 1, none⟩) hg).trans c1
    have d2 := (hb4.cell (p := ⟨g, 2, none⟩) hg).trans c2
    have hb4 := hb3.trans (hb4.mono hb3.size)
    have het := (HW.out.below hsz hb4).text
    clear c0 c1 c2
    have q1 := eql_same a
    go_wp2_with fail
    go_ret
    exact ⟨rfl, hb4⟩

end Lx
end Go.Proofs.YtdalldhgfdnaeaaDoor
