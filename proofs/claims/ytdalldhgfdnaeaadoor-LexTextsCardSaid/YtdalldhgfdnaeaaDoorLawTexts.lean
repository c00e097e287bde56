/- The walk of the statement LexTexts: it returns true. Conditions: the sixteen error variables hold pointers to cells of their own; strconv's variables hold what they should. -/
import Derived.Test.YtdalldhgfdnaeaaDoorSents
import Derived.Test.YtdalldhgfdnaeaaDoorRefLex
namespace Go.Proofs.YtdalldhgfdnaeaaDoor
namespace Lx
open Go Go.RowKit

theorem Sents.errs {w : World} {f : Nat → Addr} (h : Sents w f) : Errs w (sentV (f 3)) (sentV (f 0)) :=
  ⟨h.cell 3 (by omega), h.cell 0 (by omega), ⟨_, _, rfl⟩, ⟨_, _, rfl⟩⟩

theorem num_lit (f : Nat → Addr) (i : Nat) (hi : i < 16) (n : Int) (hn : (i : Int) + 1 = n) (w : World) (hS : Sents w f) :
    Calls Tryd.prog 15 #[sentV (f i)] w fun e w' => e = .returned (.int .i64 n) ∧ Below w.heap.size w w' := by
  subst hn
  exact num_at f i hi w hS

theorem same_nil (w : World) : Calls Tryd.prog 14 #[.slice none 0 0, .slice none 0 0] w fun e w' => e = .returned (.bool true) ∧ ∃ n, w' = w.drewN n :=
  same_true w [] none none 0 0 (fun h => absurd rfl h) (fun h => absurd rfl h) (by simp)

theorem lex_cases (s : ByteArray) : 16384 < s.size ∨ (s.size ≤ 16384 ∧ whole s.data.toList = false) ∨ (s.size ≤ 16384 ∧ whole s.data.toList = true) := by
  rcases Nat.lt_or_ge 16384 s.size with h | h
  · exact .inl h
  · cases hw : whole s.data.toList
    · exact .inr (.inl ⟨h, rfl⟩)
    · exact .inr (.inr ⟨h, rfl⟩)

/-- Lex and the reference's Lex where the text is refused: no token, and the error of the same number. -/
theorem both_bad (s : ByteArray) (h : 16384 < s.size ∨ (s.size ≤ 16384 ∧ whole s.data.toList = false)) (f : Nat → Addr) : ∃ (i : Nat) (n : Int), i < 16 ∧ (i : Int) + 1 = n ∧ -9223372036854775808 ≤ n ∧ n ≤ 9223372036854775807 ∧
    (∀ w, Env w → Sents w f → Calls Tryd.prog 12 #[.string s] w fun e w' => e = .returned (.tuple #[.slice none 0 0, sentV (f i)]) ∧ Below w.heap.size w w') ∧
    (∀ w, Calls Tryd.prog 13 #[.string s] w fun e w' => e = .returned (.tuple #[.slice none 0 0, .int .i64 n]) ∧ Below w.heap.size w w') := by
  rcases h with h | ⟨h, hw⟩
  · refine ⟨3, 4, by omega, rfl, by omega, by omega, fun w hE hS => (lex_any s w hE _ _ hS.errs).mono ?_, fun w => (refLex_any s w).mono ?_⟩
    · rintro e w' ⟨hb, h1 | h1 | h1⟩
      · exact ⟨h1.2, hb⟩
      · exact absurd h1.1 (by omega)
      · exact absurd h1.1 (by omega)
    · rintro e w' ⟨hb, h1 | h1 | h1⟩
      · exact ⟨h1.2, hb⟩
      · exact absurd h1.1 (by omega)
      · exact absurd h1.1 (by omega)
  · refine ⟨0, 1, by omega, rfl, by omega, by omega, fun w hE hS => (lex_any s w hE _ _ hS.errs).mono ?_, fun w => (refLex_any s w).mono ?_⟩
    · rintro e w' ⟨hb, h1 | h1 | h1⟩
      · exact absurd h1.1 (by omega)
      · exact ⟨h1.2.2, hb⟩
      · rw [hw] at h1; exact absurd h1.2.1 (by decide)
    · rintro e w' ⟨hb, h1 | h1 | h1⟩
      · exact absurd h1.1 (by omega)
      · exact ⟨h1.2.2, hb⟩
      · rw [hw] at h1; exact absurd h1.2.1 (by decide)
/-- Where the text is taken: rows of the same tokens. -/
theorem ref_good (s : ByteArray) (h : good s = true) (w : World) :
    Calls Tryd.prog 13 #[.string s] w fun e w' => ∃ v, e = .returned (.tuple #[v, .int .i64 0]) ∧ Below w.heap.size w w' ∧ w'.ownsRow w.heap.size 40 3 v (toks s.data.toList).length (cellsT (toks s.data.toList)) := by
  simp only [good, Bool.and_eq_true, decide_eq_true_eq] at h
  refine (refLex_any s w).mono ?_
  rintro e w' ⟨hb, h1 | h1 | h1⟩
  · exact absurd h1.1 (by omega)
  · exact absurd (h1.2.1.symm.trans h.2) (by decide)
  · obtain ⟨_, _, v, he, ho⟩ := h1
    exact ⟨v, he, hb, ho⟩

theorem lawTexts_any (s : ByteArray) (w : World) (hE : Env w) (f : Nat → Addr) (hS : Sents w f) :
    Calls Tryd.prog 3 #[.string s] w fun e w' => e = .returned (.bool true) ∧ Below w.heap.size w w' := by
  have HA := Lib.hid (alive_any w hE _ _ hS.errs)
  have HV := Lib.hid hE
  have HS := Lib.hid hS
  clear hE hS
  have bad : (16384 < s.size ∨ (s.size ≤ 16384 ∧ whole s.data.toList = false)) → Calls Tryd.prog 3 #[.string s] w fun e w' => e = .returned (.bool true) ∧ Below w.heap.size w w' := by
    intro h
    obtain ⟨i, n, hi, hn, hn0, hn1, h1, h2⟩ := both_bad s h f
    have HL := Lib.hid h1
    have HR := Lib.hid h2
    have HN := Lib.hid (fun w => num_lit f i hi n hn w)
    generalize sentV (f i) = ev at *
    clear h h1 h2 hi hn
    go_enter Tryd.func3, Tryd.ntmps3
    go_wp2_with fail
    refine HA.out.mono ?_
    rintro e w1 ⟨rfl, hb1⟩
    go_wp2_with fail
    refine (HL.out _ (HV.out.below hb1) (HS.out.below hb1)).mono ?_
    rintro e w2 ⟨rfl, hb2⟩
    have hb2 := hb1.trans (hb2.mono hb1.size)
    go_wp2_with fail
    refine (HR.out _).mono ?_
    rintro e w3 ⟨rfl, hb3⟩
    have hb3 := hb2.trans (hb3.mono hb2.size)
    go_wp2_with (first | (go_at_call 14; refine (same_nil _).mono ?_; rintro e w4 ⟨rfl, nq, rfl⟩) | (go_at_call 15; have hb4 := below_dN hb3 nq; refine (HN.out _ (HS.out.below hb4)).mono ?_; rintro e w5 ⟨rfl, hb5⟩; have hb5 := hb4.trans (hb5.mono hb4.size)))
    go_ret
    exact ⟨rfl, hb5⟩
  rcases lex_cases s with h | h | ⟨h, hw⟩
  · exact bad (.inl h)
  · exact bad (.inr h)
  · clear bad
    have hg : good s = true := by simp only [good, Bool.and_eq_true, decide_eq_true_eq]; exact ⟨h, hw⟩
    have hl := toks_len s.data.toList
    rw [show s.data.toList.length = s.size by simp] at hl
    have h1 := fun w hE el et hR => lex_good s hg w hE el et hR
    have h2 := fun w => ref_good s hg w
    have HN : Hid ((toks s.data.toList).length ≤ 20000) := by unfold Hid; omega
    clear hg hl h hw
    generalize toks s.data.toList = ts at *
    have HL := Lib.hid h1
    have HR := Lib.hid h2
    clear h1 h2
    go_enter Tryd.func3, Tryd.ntmps3
    go_wp2_with fail
    refine HA.out.mono ?_
    rintro e w1 ⟨rfl, hb1⟩
    go_wp2_with fail
    refine (HL.out _ (HV.out.below hb1) _ _ (HS.out.below hb1).errs).mono ?_
    rintro e w2 ⟨v, rfl, hb2, ho2⟩
    have hs2 := Lib.hid (Src.of_own ho2)
    obtain ⟨A2, c2, rfl, _⟩ := hs2.out.shape
    have hb2 := hb1.trans (hb2.mono hb1.size)
    clear ho2
    go_wp2_with fail
    refine (HR.out _).mono ?_
    rintro e w3 ⟨v', rfl, hb3, ho3⟩
    have hs2 := Lib.hid (hs2.out.below hb3)
    have hs3 := Lib.hid (Src.of_own ho3)
    obtain ⟨A3, c3, rfl, _⟩ := hs3.out.shape
    have hb3 := hb2.trans (hb3.mono hb2.size)
    clear ho3
    have HQ := Lib.hid (same_true w3 ts A2 A3 c2 c3 hs2.out.rowT hs3.out.rowT HN.out)
    go_wp2_with (first | (go_at_call 14; refine HQ.out.mono ?_; rintro e w4 ⟨rfl, nq, rfl⟩) | (go_at_call 15; refine (num_nil _).mono ?_; rintro e w5 ⟨rfl, rfl⟩))
    go_ret
    exact ⟨rfl, below_dN hb3 nq⟩

end Lx
end Go.Proofs.YtdalldhgfdnaeaaDoor
