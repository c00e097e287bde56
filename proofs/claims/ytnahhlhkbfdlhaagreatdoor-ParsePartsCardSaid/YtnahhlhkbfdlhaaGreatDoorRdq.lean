/- Readings one behind the other with what is known so far carried along; a prim's ways in the reader's steps. Conditions: the reader's block is its own; at most 16384 tokens, each of which is one by itself. -/
import Derived.Test.YtnahhlhkbfdlhaaGreatDoorRdg
namespace Go.Proofs.YtnahhlhkbfdlhaaGreatDoor
set_option linter.unusedSimpArgs false
set_option linter.unusedVariables false
namespace Lx
open Go Go.RowKit

section
variable {α β : Type} {b : Nat} {A : Option Addr} {c : Nat} {ts : List Tok}
theorem no_ne {i : Nat} {P : Prop} (h : (Out.no (i + 1) : Out β) = .no i) : P := by
  injection h with h
  omega
theorem GenC.contQ {F : Nat} {args : Array Value} {V : Holds α} {Sh : Value → Prop} {rd : Nat → Out α} (hG : GenC F args b A c ts V Sh rd) (hF : Fwd ts rd) (hS : ∀ x v lo hi w, V x v lo hi w → Sh v) {OT : Out β} {f : α → Nat → Out β} {w : World} {k : Nat} {er : Int} {Q : Prop}
    (h : Rd w b A c ts k er) (hk : k ≤ ts.length) (hc : Cont OT er (Q ∧ bindO (rd k) f = OT)) :
    Calls Tryz.prog F args w fun e w' => ∃ v k' er', e = .returned v ∧ Sh v ∧ k' ≤ ts.length ∧ Rd w' b A c ts k' er' ∧ PFr b w w' ∧ Cont OT er' (Q ∧ ∃ x, V x v w.heap.size w'.heap.size w' ∧ k < k' ∧ f x k' = OT) := by
  rcases hc with ⟨rfl, q, h1⟩ | ⟨i, rfl, rfl⟩
  · refine (hG.cont hF hS h hk (.inl ⟨rfl, h1⟩)).mono ?_
    rintro e w' ⟨v, k', er', rfl, h2, h3, h4, h5, h6⟩
    exact ⟨v, k', er', rfl, h2, h3, h4, h5, h6.imp (fun p => ⟨q, p⟩)⟩
  · refine (hG.cont (OT := (.no i : Out β)) (f := fun _ _ => .no (i + 1)) hF hS h hk (.inr ⟨i, rfl, rfl⟩)).mono ?_
    rintro e w' ⟨v, k', er', rfl, h2, h3, h4, h5, h6⟩
    exact ⟨v, k', er', rfl, h2, h3, h4, h5, h6.imp (fun ⟨_, _, _, p⟩ => no_ne p)⟩
theorem rname_contQ {OT : Out β} {f : List UInt8 → Nat → Out β} {w : World} {k : Nat} {er : Int} {Q : Prop} (h : Rd w b A c ts k er) (hk : k ≤ ts.length) (hc : Cont OT er (Q ∧ bindO (nameO ts k) f = OT)) :
    Calls Tryz.prog 48 #[.pointer (some ⟨b, 0, none⟩), .int .i64 1] w fun e w' => ∃ y k' er', e = .returned (.string y) ∧ k' ≤ ts.length ∧ Rd w' b A c ts k' er' ∧ PFr b w w' ∧ Cont OT er' (Q ∧ ∃ s, y = bs s ∧ k < k' ∧ f s k' = OT) := by
  rcases hc with ⟨rfl, q, h1⟩ | ⟨i, rfl, rfl⟩
  · refine (rname_cont h hk (.inl ⟨rfl, h1⟩)).mono ?_
    rintro e w' ⟨y, k', er', rfl, h3, h4, h5, h6⟩
    exact ⟨y, k', er', rfl, h3, h4, h5, h6.imp (fun p => ⟨q, p⟩)⟩
  · refine (rname_cont (OT := (.no i : Out β)) (f := fun _ _ => .no (i + 1)) h hk (.inr ⟨i, rfl, rfl⟩)).mono ?_
    rintro e w' ⟨y, k', er', rfl, h3, h4, h5, h6⟩
    exact ⟨y, k', er', rfl, h3, h4, h5, h6.imp (fun ⟨_, _, _, p⟩ => no_ne p)⟩
theorem rvar_contQ {OT : Out β} {f : List UInt8 → Nat → Out β} {w : World} {k : Nat} {er : Int} {Q : Prop} (h : Rd w b A c ts k er) (hk : k ≤ ts.length) (hc : Cont OT er (Q ∧ bindO (varO ts k) f = OT)) :
    Calls Tryz.prog 48 #[.pointer (some ⟨b, 0, none⟩), .int .i64 2] w fun e w' => ∃ y k' er', e = .returned (.string y) ∧ k' ≤ ts.length ∧ Rd w' b A c ts k' er' ∧ PFr b w w' ∧ Cont OT er' (Q ∧ ∃ s, y = bs s ∧ k < k' ∧ f s k' = OT) := by
  rcases hc with ⟨rfl, q, h1⟩ | ⟨i, rfl, rfl⟩
  · refine (rvar_cont h hk (.inl ⟨rfl, h1⟩)).mono ?_
    rintro e w' ⟨y, k', er', rfl, h3, h4, h5, h6⟩
    exact ⟨y, k', er', rfl, h3, h4, h5, h6.imp (fun p => ⟨q, p⟩)⟩
  · refine (rvar_cont (OT := (.no i : Out β)) (f := fun _ _ => .no (i + 1)) h hk (.inr ⟨i, rfl, rfl⟩)).mono ?_
    rintro e w' ⟨y, k', er', rfl, h3, h4, h5, h6⟩
    exact ⟨y, k', er', rfl, h3, h4, h5, h6.imp (fun ⟨_, _, _, p⟩ => no_ne p)⟩
theorem rneed_contQ (hw : WF ts) {OT : Out β} {f : Nat → Out β} {w : World} {k : Nat} {er : Int} {Q : Prop} (s : ByteArray) (hs : KW s.data.toList) (h : Rd w b A c ts k er) (hk : k ≤ ts.length) (hc : Cont OT er (Q ∧ bindO (expO ts k s.data.toList) (fun _ k' => f k') = OT)) :
    Calls Tryz.prog 27 #[.pointer (some ⟨b, 0, none⟩), .string s] w fun e w' => ∃ k' er', e = .returned (.tuple #[]) ∧ k' ≤ ts.length ∧ Rd w' b A c ts k' er' ∧ PFr b w w' ∧ Cont OT er' (Q ∧ k < k' ∧ f k' = OT) := by
  rcases hc with ⟨rfl, q, h1⟩ | ⟨i, rfl, rfl⟩
  · refine (rneed_cont hw s hs h hk (.inl ⟨rfl, h1⟩)).mono ?_
    rintro e w' ⟨k', er', rfl, h3, h4, h5, h6⟩
    exact ⟨k', er', rfl, h3, h4, h5, h6.imp (fun p => ⟨q, p⟩)⟩
  · refine (rneed_cont (OT := (.no i : Out β)) (f := fun _ => .no (i + 1)) hw s hs h hk (.inr ⟨i, rfl, rfl⟩)).mono ?_
    rintro e w' ⟨k', er', rfl, h3, h4, h5, h6⟩
    exact ⟨k', er', rfl, h3, h4, h5, h6.imp (fun ⟨_, p⟩ => no_ne p)⟩
end

/-- A prim behind its nest. -/
def primR (ts : List Tok) (m : Nat) (ne : Int) (k : Nat) : Out GoalT :=
  if hasT ts k [116, 114, 117, 101] = true then .ok (.mk 1 zeroT zeroT [] [] []) (k + 1)
  else if hasT ts k [102, 97, 105, 108] = true then .ok (.mk 2 zeroT zeroT [] [] []) (k + 1)
  else if hasT ts k [110, 111, 116] = true then bindO (primO ts m (ne + 1) (k + 1)) (fun g k' => .ok (.mk 7 zeroT zeroT [] [] [g]) k')
  else if hasT ts k [116, 104, 114, 111, 119] = true then bindO (termO ts 66 (ne + 1) (k + 1)) (fun t k' => .ok (.mk 8 t zeroT [] [] []) k')
  else if hasT ts k [116, 114, 121] = true then bindO (primO ts m (ne + 1) (k + 1)) (fun g k1 => bindO (expO ts k1 [99, 97, 116, 99, 104]) (fun _ k2 => bindO (varO ts k2) (fun s k3 => bindO (expO ts k3 [116, 104, 101, 110]) (fun _ k4 => bindO (primO ts m (ne + 1) k4) (fun g2 k5 => .ok (.mk 9 zeroT zeroT s [] [g, g2]) k5)))))
  else if hasT ts k [40] = true then bindO (goalO (primO ts m (ne + 1)) ts (k + 1)) (fun g k' => bindO (expO ts k' [41]) (fun _ k2 => .ok g k2))
  else bindO (termO ts 66 (ne + 1) k) (fun t k1 => if hasT ts k1 [61] = true then bindO (termO ts 66 (ne + 1) (k1 + 1)) (fun u k2 => .ok (.mk 3 t u [] [] []) k2) else if t.kind = 3 then .ok (.mk 4 zeroT zeroT t.name t.args []) k1 else .no 2)
theorem guardO_eq (rd : Nat → Out GoalT) (ts : List Tok) (k : Nat) : guardO rd ts k = bindO (rd k) (fun g k1 => bindO (expO ts k1 [99, 97, 116, 99, 104]) (fun _ k2 => bindO (varO ts k2) (fun s k3 => bindO (expO ts k3 [116, 104, 101, 110]) (fun _ k4 => bindO (rd k4) (fun g2 k5 => .ok (.mk 9 zeroT zeroT s [] [g, g2]) k5))))) := by
  unfold guardO
  cases rd k with
  | no i => rfl
  | ok g k1 =>
    show _ = bindO (expO ts k1 [99, 97, 116, 99, 104]) _
    dsimp only
    cases expO ts k1 [99, 97, 116, 99, 104] with
    | no i => rfl
    | ok u k2 =>
      show _ = bindO (varO ts k2) _
      dsimp only
      cases varO ts k2 with
      | no i => rfl
      | ok s k3 =>
        show _ = bindO (expO ts k3 [116, 104, 101, 110]) _
        dsimp only
        cases expO ts k3 [116, 104, 101, 110] with
        | no i => rfl
        | ok u k4 =>
          show _ = bindO (rd k4) _
          dsimp only
          cases rd k4 <;> rfl
theorem uocO_eq (rdT : Nat → Out TermT) (ts : List Tok) (k : Nat) : uocO rdT ts k = bindO (rdT k) (fun t k1 => if hasT ts k1 [61] = true then bindO (rdT (k1 + 1)) (fun u k2 => .ok (.mk 3 t u [] [] []) k2) else if t.kind = 3 then .ok (.mk 4 zeroT zeroT t.name t.args []) k1 else .no 2) := by
  unfold uocO
  cases rdT k with
  | no i => rfl
  | ok t k1 =>
    show _ = (if _ then _ else _)
    dsimp only
    split
    · cases rdT (k1 + 1) <;> rfl
    · rfl
theorem primO_eq (ts : List Tok) (m : Nat) (ne : Int) (k : Nat) : primO ts (m + 1) ne k = bindO (enterO ts k ne) (fun _ _ => primR ts m ne k) := by
  rw [primO]
  cases enterO ts k ne with
  | no i => rfl
  | ok u k' =>
    show _ = primR ts m ne k
    unfold primR
    rw [guardO_eq, uocO_eq]
    dsimp only
    repeat' split
    all_goals first | rfl | skip
    all_goals (first | (simp_all [bindO]; done) | skip)
/-- Behind nest: what is left to be read. -/
theorem prim_start {ts : List Tok} {m : Nat} {ne : Int} {k : Nat} {er0 er : Int} {OT : Out GoalT} (hc : Cont OT er0 (primO ts (m + 1) ne k = OT)) (hN : nestE ts k er0 (ne + 1) = er) : Cont OT er ((k < ts.length → ne < 64) ∧ primR ts m ne k = OT) := by
  subst hN
  rcases hc with ⟨rfl, h1⟩ | ⟨i, rfl, rfl⟩
  · rw [primO_eq] at h1
    unfold enterO at h1
    unfold nestE
    by_cases h : 64 < ne + 1 ∧ k < ts.length
    · rw [if_pos h] at h1
      rw [if_pos ⟨h.1, doneB_in h.2⟩]
      exact .inr ⟨0, rfl, h1.symm⟩
    · rw [if_neg h] at h1
      rw [if_neg (fun q => h ⟨q.1, by
        rcases Nat.lt_or_ge k ts.length with hl | hl
        · exact hl
        · rw [doneB_out hl] at q
          cases q.2⟩)]
      exact .inl ⟨rfl, fun hl => by
        rcases Int.lt_or_le ne 64 with h2 | h2
        · exact h2
        · exact absurd ⟨by omega, hl⟩ h, h1⟩
  · rw [nestE_err (erN_ne i)]
    exact .inr ⟨i, rfl, rfl⟩

end Lx
end Go.Proofs.YtnahhlhkbfdlhaaGreatDoor
