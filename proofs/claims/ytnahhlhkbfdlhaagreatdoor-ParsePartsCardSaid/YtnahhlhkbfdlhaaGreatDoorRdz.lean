/- The contract of the reference's reader's Prim and Goal at whatever nest: what the parser's plain reading says. Conditions: the reader's block is its own; at most 16384 tokens, each of which is one by itself. -/
import Derived.Test.YtnahhlhkbfdlhaaGreatDoorRdpb
import Derived.Test.YtnahhlhkbfdlhaaGreatDoorRdpd
namespace Go.Proofs.YtnahhlhkbfdlhaaGreatDoor
set_option linter.unusedSimpArgs false
set_option linter.unusedVariables false
namespace Lx
open Go Go.RowKit

theorem rprim_step (b : Nat) (A : Option Addr) (c : Nat) (ts : List Tok) (hw : WF ts) (d m : Nat) (ne : Int) (h0 : 0 ≤ ne) (h1 : ne ≤ 60000)
    (HR : Hid (ne < 64 → GenC 63 #[.pointer (some ⟨b, 0, none⟩), .int .i64 (ne + 1 + 1)] b A c ts (GoalV d) ShGo (primO ts m (ne + 1)))) :
    GenC 63 #[.pointer (some ⟨b, 0, none⟩), .int .i64 (ne + 1)] b A c ts (GoalV (d + 2)) ShGo (primO ts (m + 1) ne) := by
  intro w k er0 OT hc h hk
  have hs := prim_start hc rfl
  generalize hN : nestE ts k er0 (ne + 1) = er at hs
  cases q0 : isB ts k er [116, 114, 117, 101] with
  | true =>
    obtain ⟨rfl, hy⟩ : er = 0 ∧ hasT ts k [116, 114, 117, 101] = true := by simpa [isB] using q0
    obtain ⟨hn, hO⟩ := hs.ok
    unfold primR at hO
    simp only [hy, if_true, if_false, Bool.false_eq_true] at hO
    rw [← hO]
    exact rprim_true b A c ts hw d m ne h0 h1 w k er0 OT h hk hN  hy
  | false =>
    cases q1 : isB ts k er [102, 97, 105, 108] with
    | true =>
      obtain ⟨rfl, hy⟩ : er = 0 ∧ hasT ts k [102, 97, 105, 108] = true := by simpa [isB] using q1
      obtain ⟨hn, hO⟩ := hs.ok
      have n0 : hasT ts k [116, 114, 117, 101] = false := (isB_ok ts k _).symm.trans q0
      unfold primR at hO
      simp only [n0, hy, if_true, if_false, Bool.false_eq_true] at hO
      rw [← hO]
      exact rprim_fail b A c ts hw d m ne h0 h1 w k er0 OT h hk hN q0 hy
    | false =>
      cases q2 : isB ts k er [110, 111, 116] with
      | true =>
        obtain ⟨rfl, hy⟩ : er = 0 ∧ hasT ts k [110, 111, 116] = true := by simpa [isB] using q2
        obtain ⟨hn, hO⟩ := hs.ok
        have hne := hn (hasT_in hy (by decide))
        have n0 : hasT ts k [116, 114, 117, 101] = false := (isB_ok ts k _).symm.trans q0
        have n1 : hasT ts k [102, 97, 105, 108] = false := (isB_ok ts k _).symm.trans q1
        unfold primR at hO
        simp only [n0, n1, hy, if_true, if_false, Bool.false_eq_true] at hO
        exact rprim_not b A c ts hw d m ne h0 h1 (Lib.hid (HR.out hne)) w k er0 OT h hk hN q0 q1 hy hO
      | false =>
        cases q3 : isB ts k er [116, 104, 114, 111, 119] with
        | true =>
          obtain ⟨rfl, hy⟩ : er = 0 ∧ hasT ts k [116, 104, 114, 111, 119] = true := by simpa [isB] using q3
          obtain ⟨hn, hO⟩ := hs.ok
          have n0 : hasT ts k [116, 114, 117, 101] = false := (isB_ok ts k _).symm.trans q0
          have n1 : hasT ts k [102, 97, 105, 108] = false := (isB_ok ts k _).symm.trans q1
          have n2 : hasT ts k [110, 111, 116] = false := (isB_ok ts k _).symm.trans q2
          unfold primR at hO
          simp only [n0, n1, n2, hy, if_true, if_false, Bool.false_eq_true] at hO
          exact rprim_throw b A c ts hw d m ne h0 h1 w k er0 OT h hk hN q0 q1 q2 hy hO
        | false =>
          cases q4 : isB ts k er [116, 114, 121] with
          | true =>
            obtain ⟨rfl, hy⟩ : er = 0 ∧ hasT ts k [116, 114, 121] = true := by simpa [isB] using q4
            obtain ⟨hn, hO⟩ := hs.ok
            have hne := hn (hasT_in hy (by decide))
            have n0 : hasT ts k [116, 114, 117, 101] = false := (isB_ok ts k _).symm.trans q0
            have n1 : hasT ts k [102, 97, 105, 108] = false := (isB_ok ts k _).symm.trans q1
            have n2 : hasT ts k [110, 111, 116] = false := (isB_ok ts k _).symm.trans q2
            have n3 : hasT ts k [116, 104, 114, 111, 119] = false := (isB_ok ts k _).symm.trans q3
            unfold primR at hO
            simp only [n0, n1, n2, n3, hy, if_true, if_false, Bool.false_eq_true] at hO
            exact rprim_try b A c ts hw d m ne h0 h1 (Lib.hid (HR.out hne)) w k er0 OT h hk hN q0 q1 q2 q3 hy hO
          | false =>
            cases q5 : isB ts k er [40] with
            | true =>
              obtain ⟨rfl, hy⟩ : er = 0 ∧ hasT ts k [40] = true := by simpa [isB] using q5
              obtain ⟨hn, hO⟩ := hs.ok
              have hne := hn (hasT_in hy (by decide))
              have n0 : hasT ts k [116, 114, 117, 101] = false := (isB_ok ts k _).symm.trans q0
              have n1 : hasT ts k [102, 97, 105, 108] = false := (isB_ok ts k _).symm.trans q1
              have n2 : hasT ts k [110, 111, 116] = false := (isB_ok ts k _).symm.trans q2
              have n3 : hasT ts k [116, 104, 114, 111, 119] = false := (isB_ok ts k _).symm.trans q3
              have n4 : hasT ts k [116, 114, 121] = false := (isB_ok ts k _).symm.trans q4
              unfold primR at hO
              simp only [n0, n1, n2, n3, n4, hy, if_true, if_false, Bool.false_eq_true] at hO
              exact rprim_open b A c ts hw d m ne h0 h1 (Lib.hid (HR.out hne)) w k er0 OT h hk hN q0 q1 q2 q3 q4 hy hO
            | false =>
              refine rprim_uoc b A c ts hw d m ne h0 h1 w k er0 er OT h hk hN q0 q1 q2 q3 q4 q5 ?_
              rcases hs with ⟨rfl, _, hO⟩ | h
              · refine .inl ⟨rfl, ?_⟩
                have n0 : hasT ts k [116, 114, 117, 101] = false := (isB_ok ts k _).symm.trans q0
                have n1 : hasT ts k [102, 97, 105, 108] = false := (isB_ok ts k _).symm.trans q1
                have n2 : hasT ts k [110, 111, 116] = false := (isB_ok ts k _).symm.trans q2
                have n3 : hasT ts k [116, 104, 114, 111, 119] = false := (isB_ok ts k _).symm.trans q3
                have n4 : hasT ts k [116, 114, 121] = false := (isB_ok ts k _).symm.trans q4
                have n5 : hasT ts k [40] = false := (isB_ok ts k _).symm.trans q5
                unfold primR at hO
                simp only [n0, n1, n2, n3, n4, n5, if_false, Bool.false_eq_true] at hO
                exact hO
              · exact .inr h

theorem rprim_any (b : Nat) (A : Option Addr) (c : Nat) (ts : List Tok) (hw : WF ts) : ∀ (m : Nat) (ne : Int), 65 ≤ ne + m → 0 ≤ ne → ne ≤ 60000 →
    GenC 63 #[.pointer (some ⟨b, 0, none⟩), .int .i64 (ne + 1)] b A c ts (GoalV (2 * m + 2)) ShGo (primO ts (m + 1) ne)
  | 0, ne, hm, h0, h1 => rprim_step b A c ts hw 0 0 ne h0 h1 (Lib.hid (fun hn => by omega))
  | m + 1, ne, hm, h0, h1 => rprim_step b A c ts hw (2 * (m + 1)) (m + 1) ne h0 h1 (Lib.hid (fun hn => by
    have h := rprim_any b A c ts hw m (ne + 1) (by omega) (by omega) (by omega)
    rw [show 2 * (m + 1) = 2 * m + 2 by omega]
    exact h))
/-- A whole goal. -/
theorem rtopgoal_genc (b : Nat) (A : Option Addr) (c : Nat) (ts : List Tok) (hw : WF ts) :
    GenC 35 #[.pointer (some ⟨b, 0, none⟩), .int .i64 1] b A c ts (GoalV 134) ShGo (goalO (primO ts 66 0) ts) :=
  rgoal_genc b A c ts hw 1 132 (primO ts 66 0) (primO_fwd ts 66 0) (Lib.hid (rprim_any b A c ts hw 65 0 (by decide) (by decide) (by decide)))
theorem rterm_top (b : Nat) (A : Option Addr) (c : Nat) (ts : List Tok) (hw : WF ts) :
    GenC 32 #[.pointer (some ⟨b, 0, none⟩), .int .i64 1] b A c ts (TermV 66) ShTerm (termO ts 66 0) := rterm_genc b A c ts hw 0 (by decide) (by decide)
theorem rtype_top (b : Nat) (A : Option Addr) (c : Nat) (ts : List Tok) (hw : WF ts) :
    GenC 38 #[.pointer (some ⟨b, 0, none⟩), .int .i64 1] b A c ts (TypeV 66) ShTy (typeO ts 66 0) := rtype_genc b A c ts hw 0 (by decide) (by decide)

end Lx
end Go.Proofs.YtnahhlhkbfdlhaaGreatDoor
