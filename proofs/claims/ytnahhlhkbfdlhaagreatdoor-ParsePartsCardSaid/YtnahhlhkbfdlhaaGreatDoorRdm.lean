/- The contract of the reference's reader's more: does a further thing of a row stand here? Conditions: the reader's block is its own; at most 16384 tokens, each of which is one by itself; no error stands yet. -/
import Derived.Test.YtnahhlhkbfdlhaaGreatDoorRdw
namespace Go.Proofs.YtnahhlhkbfdlhaaGreatDoor
set_option linter.unusedSimpArgs false
set_option linter.unusedVariables false
namespace Lx
open Go Go.RowKit

theorem kw_open : KW (ByteArray.mk #[40]).data.toList := ⟨by simp, 4, .inr rfl, rfl⟩
theorem kw_close : KW (ByteArray.mk #[41]).data.toList := ⟨by simp, 4, .inr rfl, rfl⟩
theorem kw_comma : KW (ByteArray.mk #[44]).data.toList := ⟨by simp, 4, .inr rfl, rfl⟩
/-- Does it, where the reader then stands, and with what error. -/
def moreO (ts : List Tok) (k n : Nat) : Bool × Nat × Int :=
  if n = 0 then (if hasT ts k [40] = true then (true, k + 1, 0) else (false, k, 0))
  else if hasT ts k [41] = true then (false, k + 1, 0)
  else if hasT ts k [44] = true then (if n = 8 ∧ k + 1 < ts.length then (false, k + 1, 4) else (true, k + 1, 0))
  else (false, k, 2)
set_option maxHeartbeats 2000000 in
theorem rmore_any (w : World) (b : Nat) (A : Option Addr) (c : Nat) (ts : List Tok) (hw : WF ts) (k n : Nat) (h : Rd w b A c ts k 0) (hk : k ≤ ts.length) :
    Calls Tryz.prog 49 #[.pointer (some ⟨b, 0, none⟩), .int .i64 n] w fun e w' => e = .returned (.bool (moreO ts k n).1) ∧ Rd w' b A c ts (moreO ts k n).2.1 (moreO ts k n).2.2 ∧ PFr b w w' := by
  have HP := Lib.hid h
  have hfw := h.few
  unfold moreO
  by_cases hn : n = 0
  · have hz : ((n : Int) == 0) = true := by simp; omega
    have h8 : ((n : Int) == 8) = false := by simp; omega
    have HG := Lib.hid (rgot_any w b A c ts hw k 0 ⟨#[40]⟩ kw_open h (by omega))
    rw [isB_ok, show (ByteArray.mk #[40]).data.toList = [40] from rfl] at HG
    simp only [hn, if_true]
    clear h hw hn
    cases hq : hasT ts k [40] with
    | true =>
      rw [hq] at HG
      simp only [if_true] at HG ⊢
      go_enter Tryz.func49, Tryz.ntmps49
      go_wp2_with fail
      go_at_call 47
      refine HG.out.mono ?_
      rintro e w1 ⟨rfl, hp1, hf1⟩
      have c2 := hp1.c2
      go_wp2_with fail
      go_ret
      exact ⟨rfl, hp1, hf1⟩
    | false =>
      rw [hq] at HG
      simp only [Bool.false_eq_true, if_false] at HG ⊢
      go_enter Tryz.func49, Tryz.ntmps49
      go_wp2_with fail
      go_at_call 47
      refine HG.out.mono ?_
      rintro e w1 ⟨rfl, hp1, hf1⟩
      go_wp2_with fail
      go_ret
      exact ⟨rfl, hp1, hf1⟩
  · have hz : ((n : Int) == 0) = false := by simp; omega
    have HG := Lib.hid (rgot_any w b A c ts hw k 0 ⟨#[41]⟩ kw_close h (by omega))
    rw [isB_ok, show (ByteArray.mk #[41]).data.toList = [41] from rfl] at HG
    have HN := Lib.hid (fun w h => rneed_any w b A c ts hw k 0 ⟨#[44]⟩ kw_comma h (by omega))
    rw [isB_ok, show (ByteArray.mk #[44]).data.toList = [44] from rfl] at HN
    simp only [hn, if_false]
    have HEN := Lib.hid (fun w k er h => rend_any w b A c ts k er h)
    have HFA := Lib.hid (fun w k h => rfail_any w b A c ts k 0 4 h (by decide) (by decide))
    rw [show failE 0 4 = 4 from rfl] at HFA
    clear h hw
    cases hq : hasT ts k [41] with
    | true =>
      rw [hq] at HG
      simp only [if_true] at HG ⊢
      clear hn
      go_enter Tryz.func49, Tryz.ntmps49
      go_wp2_with fail
      go_at_call 47
      refine HG.out.mono ?_
      rintro e w1 ⟨rfl, hp1, hf1⟩
      go_wp2_with fail
      go_ret
      exact ⟨rfl, hp1, hf1⟩
    | false =>
      rw [hq] at HG
      simp only [Bool.false_eq_true, if_false] at HG ⊢
      cases hq2 : hasT ts k [44] with
      | true =>
        rw [hq2, show needE ts k 0 [44] = 0 by simp [needE, hq2]] at HN
        simp only [if_true] at HN ⊢
        by_cases hn8 : n = 8
        · have h8 : ((n : Int) == 8) = true := by simp; omega
          by_cases hl : k + 1 < ts.length
          · simp only [hn8, hl, and_self, if_true]
            have hd := doneB_in hl
            clear hn hn8 hl
            go_enter Tryz.func49, Tryz.ntmps49
            go_wp2_with fail
            go_at_call 47
            refine HG.out.mono ?_
            rintro e w1 ⟨rfl, hp1, hf1⟩
            have c2 := hp1.c2
            go_wp2_with fail
            go_at_call 27
            refine (HN.out _ hp1).mono ?_
            rintro e w2 ⟨rfl, hp2, hf2⟩
            go_wp2_with fail
            go_at_call 24
            refine (HEN.out _ _ _ hp2).mono ?_
            rw [hd]
            rintro e w3 ⟨rfl, q, rfl⟩
            go_wp2_with fail
            go_at_call 25
            refine (HFA.out _ _ (hp2.drewN q)).mono ?_
            rintro e w4 ⟨rfl, hp4, hf4⟩
            have d2 := hp4.c2
            go_wp2_with fail
            go_ret
            exact ⟨rfl, hp4, hf1.trans ((hf2.drewN q).trans hf4)⟩
          · simp only [hl, and_false, if_false]
            have hd := doneB_out (show ts.length ≤ k + 1 by omega)
            clear hn hn8 hl
            go_enter Tryz.func49, Tryz.ntmps49
            go_wp2_with fail
            go_at_call 47
            refine HG.out.mono ?_
            rintro e w1 ⟨rfl, hp1, hf1⟩
            have c2 := hp1.c2
            go_wp2_with fail
            go_at_call 27
            refine (HN.out _ hp1).mono ?_
            rintro e w2 ⟨rfl, hp2, hf2⟩
            go_wp2_with fail
            go_at_call 24
            refine (HEN.out _ _ _ hp2).mono ?_
            rw [hd]
            rintro e w3 ⟨rfl, q, rfl⟩
            have d2 := (hp2.drewN q).c2
            go_wp2_with fail
            go_ret
            exact ⟨rfl, hp2.drewN q, hf1.trans (hf2.drewN q)⟩
        · have h8 : ((n : Int) == 8) = false := by simp; omega
          simp only [hn8, false_and, if_false]
          clear hn hn8
          go_enter Tryz.func49, Tryz.ntmps49
          go_wp2_with fail
          go_at_call 47
          refine HG.out.mono ?_
          rintro e w1 ⟨rfl, hp1, hf1⟩
          have c2 := hp1.c2
          go_wp2_with fail
          go_at_call 27
          refine (HN.out _ hp1).mono ?_
          rintro e w2 ⟨rfl, hp2, hf2⟩
          have d2 := hp2.c2
          go_wp2_with fail
          go_ret
          exact ⟨rfl, hp2, hf1.trans hf2⟩
      | false =>
        rw [hq2, show needE ts k 0 [44] = 2 by simp [needE, hq2]] at HN
        simp only [Bool.false_eq_true, if_false] at HN ⊢
        have hd := doneB_err (ts := ts) (k := k) (show (2 : Int) ≠ 0 by decide)
        by_cases hn8 : n = 8
        · have h8 : ((n : Int) == 8) = true := by simp; omega
          clear hn hn8
          go_enter Tryz.func49, Tryz.ntmps49
          go_wp2_with fail
          go_at_call 47
          refine HG.out.mono ?_
          rintro e w1 ⟨rfl, hp1, hf1⟩
          have c2 := hp1.c2
          go_wp2_with fail
          go_at_call 27
          refine (HN.out _ hp1).mono ?_
          rintro e w2 ⟨rfl, hp2, hf2⟩
          go_wp2_with fail
          go_at_call 24
          refine (HEN.out _ _ _ hp2).mono ?_
          rw [hd]
          rintro e w3 ⟨rfl, q, rfl⟩
          have d2 := (hp2.drewN q).c2
          go_wp2_with fail
          go_ret
          exact ⟨rfl, hp2.drewN q, hf1.trans (hf2.drewN q)⟩
        · have h8 : ((n : Int) == 8) = false := by simp; omega
          clear hn hn8
          go_enter Tryz.func49, Tryz.ntmps49
          go_wp2_with fail
          go_at_call 47
          refine HG.out.mono ?_
          rintro e w1 ⟨rfl, hp1, hf1⟩
          have c2 := hp1.c2
          go_wp2_with fail
          go_at_call 27
          refine (HN.out _ hp1).mono ?_
          rintro e w2 ⟨rfl, hp2, hf2⟩
          have d2 := hp2.c2
          go_wp2_with fail
          go_ret
          exact ⟨rfl, hp2, hf1.trans hf2⟩

end Lx
end Go.Proofs.YtnahhlhkbfdlhaaGreatDoor
