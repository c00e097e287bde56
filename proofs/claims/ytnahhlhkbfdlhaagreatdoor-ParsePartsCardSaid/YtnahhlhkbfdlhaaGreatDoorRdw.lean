/- The contract of the reference's reader's word: a name that is no word of the language, or a variable. Conditions: the reader's block is its own; at most 16384 tokens. -/
import Derived.Test.YtnahhlhkbfdlhaaGreatDoorRdr
import Derived.Lib.QuietBelow
namespace Go.Proofs.YtnahhlhkbfdlhaaGreatDoor
set_option linter.unusedSimpArgs false
set_option linter.unusedVariables false
namespace Lx
open Go Go.RowKit Go.Sort

theorem pfr_of_below {w w' : World} (h : Below w.heap.size w w') : PFr w.heap.size w w' := ⟨h.os, h.tape, h.output, h.size, fun k hk _ => h.block k hk⟩

set_option maxHeartbeats 1000000 in
/-- Where an error stands already: nothing is taken. -/
theorem rword_err (w : World) (b : Nat) (A : Option Addr) (c : Nat) (ts : List Tok) (k : Nat) (er n : Int) (h : Rd w b A c ts k er) (hz : er ≠ 0) :
    Calls Tryz.prog 48 #[.pointer (some ⟨b, 0, none⟩), .int .i64 n] w fun e w' => e = .returned (.string ⟨#[]⟩) ∧ Rd w' b A c ts k er ∧ PFr b w w' := by
  have HP := Lib.hid h
  have HE := Lib.hid (fun q => rend_any (w.drewN q) b A c ts k er (h.drewN q))
  rw [doneB_err hz] at HE
  have HF := Lib.hid (fun w h => rfail_any w b A c ts k er 2 h (by decide) (by decide))
  rw [show failE er 2 = er from if_neg hz] at HF
  clear h
  go_enter Tryz.func48, Tryz.ntmps48
  go_wp2
  go_quiet ((go_at_call 24; exact Calls.quiet_of (HE.out _)))
  go_wp2_with fail
  go_at_call 25
  refine (HF.out _ (HP.out.drewN nq)).mono ?_
  rintro e w2 ⟨rfl, hp2, hf2⟩
  go_wp2_with fail
  go_ret
  exact ⟨rfl, hp2, ((PFr.refl b w).drewN nq).trans hf2⟩

set_option maxHeartbeats 1000000 in
/-- No token of the kind stands here. -/
theorem rword_not (w : World) (b : Nat) (A : Option Addr) (c : Nat) (ts : List Tok) (k : Nat) (n : Int) (h : Rd w b A c ts k 0) (hk : ts.length ≤ k ∨ (peekT ts k).kind ≠ n) :
    Calls Tryz.prog 48 #[.pointer (some ⟨b, 0, none⟩), .int .i64 n] w fun e w' => e = .returned (.string ⟨#[]⟩) ∧ Rd w' b A c ts k 2 ∧ PFr b w w' := by
  have HP := Lib.hid h
  have HE := Lib.hid (fun q => rend_any (w.drewN q) b A c ts k 0 (h.drewN q))
  have HF := Lib.hid (fun w h => rfail_any w b A c ts k 0 2 h (by decide) (by decide))
  rw [show failE 0 2 = 2 from rfl] at HF
  have h0 := h.c0
  have h1 := h.c1
  rcases Nat.lt_or_ge k ts.length with hl | hl
  · have hkk : (ts[k]).kind ≠ n := by
      rcases hk with hk | hk
      · omega
      · rwa [peekT_in hl] at hk
    rw [doneB_in hl] at HE
    obtain ⟨g, rfl, _, d0, d1, _⟩ := h.at_tok hl
    have hk0 : (0 : Int) ≤ (k : Int) := by omega
    have hk1 : (k : Int) < (ts.length : Int) := by omega
    have hkq : ((ts[k]).kind != n) = true := by simpa using hkk
    generalize (ts[k]).kind = x at *
    clear h hk hkk
    go_enter Tryz.func48, Tryz.ntmps48
    go_wp2
    go_quiet ((go_at_call 24; exact Calls.quiet_of (HE.out _)))
    go_wp2_with fail
    go_at_call 25
    refine (HF.out _ (HP.out.drewN nq)).mono ?_
    rintro e w2 ⟨rfl, hp2, hf2⟩
    go_wp2_with fail
    go_ret
    exact ⟨rfl, hp2, ((PFr.refl b w).drewN nq).trans hf2⟩
  · rw [doneB_out hl] at HE
    clear h hk hl
    go_enter Tryz.func48, Tryz.ntmps48
    go_wp2
    go_quiet ((go_at_call 24; exact Calls.quiet_of (HE.out _)))
    go_wp2_with fail
    go_at_call 25
    refine (HF.out _ (HP.out.drewN nq)).mono ?_
    rintro e w2 ⟨rfl, hp2, hf2⟩
    go_wp2_with fail
    go_ret
    exact ⟨rfl, hp2, ((PFr.refl b w).drewN nq).trans hf2⟩

set_option maxHeartbeats 1000000 in
/-- A variable. -/
theorem rvar_ok (w : World) (b : Nat) (A : Option Addr) (c : Nat) (ts : List Tok) (k : Nat) (h : Rd w b A c ts k 0) (hl : k < ts.length) (hk : (ts[k]).kind = 2) :
    Calls Tryz.prog 48 #[.pointer (some ⟨b, 0, none⟩), .int .i64 2] w fun e w' => e = .returned (.string (bs (ts[k]).text)) ∧ Rd w' b A c ts (k + 1) 0 ∧ PFr b w w' := by
  have HP := Lib.hid h
  have HE := Lib.hid (fun q => rend_any (w.drewN q) b A c ts k 0 (h.drewN q))
  have h0 := h.c0
  have h1 := h.c1
  have f1 := h.f1
  have hfw := h.few
  rw [doneB_in hl] at HE
  obtain ⟨g, rfl, hgb, d0, d1, _⟩ := h.at_tok hl
  have hk0 : (0 : Int) ≤ (k : Int) := by omega
  have hk1 : (k : Int) < (ts.length : Int) := by omega
  rw [hk] at d0
  generalize bs (ts[k]).text = y at *
  clear h hk
  go_enter Tryz.func48, Tryz.ntmps48
  go_wp2
  go_quiet ((go_at_call 24; exact Calls.quiet_of (HE.out _)))
  go_wp2_with fail
  have HQ := Lib.hid ((HP.out.drewN nq).setAt (k + 1) (by omega))
  have HF := Lib.hid (((PFr.refl b w).drewN nq).put 1 (.int .i64 ((k : Int) + 1)))
  have e0 := HQ.out.c0
  have e1 : ((w.drewN nq).setCell ⟨b, 1, none⟩ (.int .i64 ((k : Int) + 1))).cell? ⟨b, 1, none⟩ = some (.int .i64 ((k : Int) + 1)) := HQ.out.c1
  have e2 : ((w.drewN nq).setCell ⟨b, 1, none⟩ (.int .i64 ((k : Int) + 1))).cell? ⟨g, k * 3 + 1, none⟩ = some (.string y) := by
    rw [World.cell?_setCell_other _ _ _ _ (by simp)]
    exact d1
  have HX : Hid ((((w.drewN nq).setCell ⟨b, 1, none⟩ (.int .i64 ((k : Int) + 1)))) = ((w.drewN nq).setCell ⟨b, 1, none⟩ (.int .i64 (((k + 1 : Nat)) : Int)))) := Lib.hid (by simp)
  rw [← HX.out] at HQ e0
  generalize (w.drewN nq).setCell ⟨b, 1, none⟩ (.int .i64 ((k : Int) + 1)) = X at *
  clear h0 h1 f1 d0 d1
  go_quiet (fail)
  go_wp2_with fail
  go_ret
  exact ⟨rfl, HQ.out.drewN _, HF.out.drewN _⟩

theorem rd_class {w : World} {b : Nat} {A : Option Addr} {c : Nat} {ts : List Tok} {k : Nat} {er : Int} (h : Rd w b A c ts k er) (d : Nat) (os : Array Obj) : Rd (grow (redrawn w d) os) b A c ts k er ∧ PFr b w (grow (redrawn w d) os) :=
  h.keep (pfr_of_below (below_regrown w d os))
theorem rend_class {w : World} {b : Nat} {A : Option Addr} {c : Nat} {ts : List Tok} {k : Nat} (h : Rd w b A c ts k 0) (hl : k < ts.length) (d : Nat) (os : Array Obj) :
    Calls Tryz.prog 24 #[.pointer (some ⟨b, 0, none⟩)] (grow (redrawn w d) os) fun e w'' => e = .returned (.bool false) ∧ ∃ p : Regrown, w'' = grow (redrawn w p.d) p.os := by
  have h1 := rend_any _ b A c ts k 0 (rd_class h d os).1
  rw [doneB_in hl] at h1
  refine Calls.regrown_of (h1.mono ?_)
  rintro e w' ⟨he, q, rfl⟩
  exact ⟨he, rfl, rfl, rfl, Nat.le_refl _, fun _ _ => rfl⟩
theorem rres_class {w : World} (s : ByteArray) {r : Bool} (hr : resv s.toList = r) (d : Nat) (os : Array Obj) :
    Calls Tryz.prog 74 #[.string s] (grow (redrawn w d) os) fun e w'' => e = .returned (.bool r) ∧ ∃ p : Regrown, w'' = grow (redrawn w p.d) p.os := by
  have h1 := refReserved_any s (grow (redrawn w d) os)
  rw [hr] at h1
  exact Calls.regrown_of h1

set_option maxHeartbeats 2000000 in
/-- A name that is no word of the language. -/
theorem rname_ok (w : World) (b : Nat) (A : Option Addr) (c : Nat) (ts : List Tok) (k : Nat) (h : Rd w b A c ts k 0) (hl : k < ts.length) (hk : (ts[k]).kind = 1) (hr : resv (bs (ts[k]).text).toList = false) :
    Calls Tryz.prog 48 #[.pointer (some ⟨b, 0, none⟩), .int .i64 1] w fun e w' => e = .returned (.string (bs (ts[k]).text)) ∧ Rd w' b A c ts (k + 1) 0 ∧ PFr b w w' := by
  have HP := Lib.hid h
  have HE := Lib.hid (fun d os => rend_class h hl d os)
  have HR := Lib.hid (fun d os => rres_class (w := w) (bs (ts[k]).text) hr d os)
  obtain ⟨g, rfl, hgb, d0, d1, _⟩ := h.at_tok hl
  have hk0 : (0 : Int) ≤ (k : Int) := by omega
  have hk1 : (k : Int) < (ts.length : Int) := by omega
  have hfw := h.few
  rw [hk] at d0
  have g0 := fun d os => cell_regrown h.c0 d os
  have g1 := fun d os => cell_regrown h.c1 d os
  have g2 := fun d os => cell_regrown d0 d os
  have g3 := fun d os => cell_regrown d1 d os
  generalize bs (ts[k]).text = y at *
  clear h hk hr d0 d1
  go_enter Tryz.func48, Tryz.ntmps48
  go_wp2
  refine wp_region_quiet_below (by kernel_rfl) (by kernel_rfl) ?_
  repeat (first | go_big_quiet_step (first | (go_at_call 24; exact HE.out _ _) | (go_at_call 74; exact HR.out _ _)) | quiet_step (first | (go_at_call 24; exact HE.out _ _) | (go_at_call 74; exact HR.out _ _)))
  refine wpQuiet_nil ?_
  intro _ hw'
  obtain ⟨⟨dq, osq⟩, hw''⟩ := hw'
  subst hw''
  obtain ⟨hp2, hf2⟩ := rd_class HP.out dq osq
  have d1 := g3 dq osq
  generalize grow (redrawn w dq) osq = w2 at hp2 hf2 d1 ⊢
  have c1 := hp2.c1
  have f1 := hp2.f1
  clear g0 g1 g2 g3
  go_wp2_with fail
  have HQ := Lib.hid (hp2.setAt (k + 1) (by omega))
  have HF := Lib.hid (hf2.put 1 (.int .i64 ((k : Int) + 1)))
  have e0 := HQ.out.c0
  have e1 : (w2.setCell ⟨b, 1, none⟩ (.int .i64 ((k : Int) + 1))).cell? ⟨b, 1, none⟩ = some (.int .i64 ((k : Int) + 1)) := HQ.out.c1
  have e2 : (w2.setCell ⟨b, 1, none⟩ (.int .i64 ((k : Int) + 1))).cell? ⟨g, k * 3 + 1, none⟩ = some (.string y) := by
    rw [World.cell?_setCell_other _ _ _ _ (by simp)]
    exact d1
  have HX : Hid ((w2.setCell ⟨b, 1, none⟩ (.int .i64 ((k : Int) + 1))) = (w2.setCell ⟨b, 1, none⟩ (.int .i64 (((k + 1 : Nat)) : Int)))) := Lib.hid (by simp)
  rw [← HX.out] at HQ e0
  generalize w2.setCell ⟨b, 1, none⟩ (.int .i64 ((k : Int) + 1)) = X at *
  clear c1 f1 d1 hp2 hf2
  go_quiet (fail)
  go_wp2_with fail
  go_ret
  exact ⟨rfl, HQ.out.drewN _, HF.out.drewN _⟩

set_option maxHeartbeats 2000000 in
/-- A word of the language. -/
theorem rname_resv (w : World) (b : Nat) (A : Option Addr) (c : Nat) (ts : List Tok) (k : Nat) (h : Rd w b A c ts k 0) (hl : k < ts.length) (hk : (ts[k]).kind = 1) (hr : resv (bs (ts[k]).text).toList = true) :
    Calls Tryz.prog 48 #[.pointer (some ⟨b, 0, none⟩), .int .i64 1] w fun e w' => e = .returned (.string ⟨#[]⟩) ∧ Rd w' b A c ts k 2 ∧ PFr b w w' := by
  have HP := Lib.hid h
  have HE := Lib.hid (fun d os => rend_class h hl d os)
  have HR := Lib.hid (fun d os => rres_class (w := w) (bs (ts[k]).text) hr d os)
  have HF := Lib.hid (fun w h => rfail_any w b A c ts k 0 2 h (by decide) (by decide))
  rw [show failE 0 2 = 2 from rfl] at HF
  obtain ⟨g, rfl, hgb, d0, d1, _⟩ := h.at_tok hl
  have hk0 : (0 : Int) ≤ (k : Int) := by omega
  have hk1 : (k : Int) < (ts.length : Int) := by omega
  rw [hk] at d0
  have g0 := fun d os => cell_regrown h.c0 d os
  have g1 := fun d os => cell_regrown h.c1 d os
  have g2 := fun d os => cell_regrown d0 d os
  have g3 := fun d os => cell_regrown d1 d os
  generalize bs (ts[k]).text = y at *
  clear h hk hr d0 d1
  go_enter Tryz.func48, Tryz.ntmps48
  go_wp2
  refine wp_region_quiet_below (by kernel_rfl) (by kernel_rfl) ?_
  repeat (first | go_big_quiet_step (first | (go_at_call 24; exact HE.out _ _) | (go_at_call 74; exact HR.out _ _)) | quiet_step (first | (go_at_call 24; exact HE.out _ _) | (go_at_call 74; exact HR.out _ _)))
  refine wpQuiet_nil ?_
  intro _ hw'
  obtain ⟨⟨dq, osq⟩, hw''⟩ := hw'
  subst hw''
  obtain ⟨hp2, hf2⟩ := rd_class HP.out dq osq
  generalize grow (redrawn w dq) osq = w2 at hp2 hf2 ⊢
  clear g0 g1 g2 g3
  go_wp2_with fail
  go_at_call 25
  refine (HF.out _ hp2).mono ?_
  rintro e w3 ⟨rfl, hp3, hf3⟩
  go_wp2_with fail
  go_ret
  exact ⟨rfl, hp3, hf2.trans hf3⟩

/-- A name, in the words of the program's parser. -/
theorem rname_any (w : World) (b : Nat) (A : Option Addr) (c : Nat) (ts : List Tok) (k : Nat) (h : Rd w b A c ts k 0) :
    Calls Tryz.prog 48 #[.pointer (some ⟨b, 0, none⟩), .int .i64 1] w fun e w' =>
      match nameO ts k with
      | .ok s k' => e = .returned (.string (bs s)) ∧ Rd w' b A c ts k' 0 ∧ PFr b w w'
      | .no _ => e = .returned (.string ⟨#[]⟩) ∧ Rd w' b A c ts k 2 ∧ PFr b w w' := by
  unfold nameO
  rcases Nat.lt_or_ge k ts.length with hl | hl
  · rw [peekT_in hl]
    by_cases hk : (ts[k]).kind = 1
    · cases hr : resv (bs (ts[k]).text).toList with
      | false =>
        simp only [hk, and_self, if_true]
        exact rname_ok w b A c ts k h hl hk hr
      | true =>
        simp only [hk, Bool.true_eq_false, and_false, if_false]
        exact rname_resv w b A c ts k h hl hk hr
    · simp only [hk, false_and, if_false]
      exact rword_not w b A c ts k 1 h (.inr (by rwa [peekT_in hl]))
  · rw [peekT_out hl]
    exact rword_not w b A c ts k 1 h (.inl hl)
/-- A variable, likewise. -/
theorem rvar_any (w : World) (b : Nat) (A : Option Addr) (c : Nat) (ts : List Tok) (k : Nat) (h : Rd w b A c ts k 0) :
    Calls Tryz.prog 48 #[.pointer (some ⟨b, 0, none⟩), .int .i64 2] w fun e w' =>
      match varO ts k with
      | .ok s k' => e = .returned (.string (bs s)) ∧ Rd w' b A c ts k' 0 ∧ PFr b w w'
      | .no _ => e = .returned (.string ⟨#[]⟩) ∧ Rd w' b A c ts k 2 ∧ PFr b w w' := by
  unfold varO
  rcases Nat.lt_or_ge k ts.length with hl | hl
  · rw [peekT_in hl]
    by_cases hk : (ts[k]).kind = 2
    · simp only [hk, if_true]
      exact rvar_ok w b A c ts k h hl hk
    · simp only [hk, if_false]
      exact rword_not w b A c ts k 2 h (.inr (by rwa [peekT_in hl]))
  · rw [peekT_out hl]
    exact rword_not w b A c ts k 2 h (.inl hl)

end Lx
end Go.Proofs.YtnahhlhkbfdlhaaGreatDoor
