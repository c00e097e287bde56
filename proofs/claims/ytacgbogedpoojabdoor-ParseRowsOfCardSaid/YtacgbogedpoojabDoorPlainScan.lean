/- Plain facts on the tokens of a text: how the scan goes on from one token to the next. No program stands in this text; no conditions. -/
import Derived.Test.YtacgbogedpoojabDoorPlain
namespace Go.Proofs.YtacgbogedpoojabDoor
namespace Lx
open Go

theorem skipL_stop : ∀ (b : Bool) (l : List UInt8) (c : UInt8), l[skipL b l]? = some c → blkI (c.toNat : Int) = false ∧ ((c.toNat : Int) == 37) = false
  | _, [], c, h => by simp at h
  | true, a :: r, c, h => by
    simp only [skipL, List.getElem?_cons_succ] at h
    exact skipL_stop _ r c h
  | false, a :: r, c, h => by
    by_cases hb : blkI (a.toNat : Int) = true
    · simp only [skipL, if_pos hb, List.getElem?_cons_succ] at h
      exact skipL_stop _ r c h
    · by_cases h37 : ((a.toNat : Int) == 37) = true
      · simp only [skipL, if_neg hb, if_pos h37, List.getElem?_cons_succ] at h
        exact skipL_stop _ r c h
      · simp only [skipL, if_neg hb, if_neg h37, List.getElem?_cons_zero, Option.some.injEq] at h
        subst h
        exact ⟨by simpa using hb, by simpa using h37⟩

/-- The scan stands at place k: there is the end, or neither a blank nor a comment. -/
def Stands (l : List UInt8) (k : Nat) : Prop := k ≤ l.length ∧ ∀ c, l[k]? = some c → blkI (c.toNat : Int) = false ∧ ((c.toNat : Int) == 37) = false

theorem stands_skip (l : List UInt8) (p : Nat) (hp : p ≤ l.length) : Stands l (p + skipL false (l.drop p)) := by
  have h1 := skipL_le false (l.drop p)
  rw [List.length_drop] at h1
  refine ⟨by omega, fun c hc => skipL_stop false (l.drop p) c ?_⟩
  rw [List.getElem?_drop]
  exact hc

theorem lex_at_skip (l : List UInt8) (p : Nat) : lex false p (l.drop p) = lex false (p + skipL false (l.drop p)) (l.drop (p + skipL false (l.drop p))) := by
  rw [lex_skip false p (l.drop p), List.drop_drop]

/-- What has been found when the scan stands at k: 'pre'; all that the text holds is 'pre' and what follows from k on. -/
def Found (l : List UInt8) (k : Nat) (pre : List (Nat × Tok)) : Prop :=
  Stands l k ∧ pre.length ≤ k ∧ lex false 0 l = (pre ++ (lex false k (l.drop k)).1, (lex false k (l.drop k)).2)

theorem found_start (l : List UInt8) : Found l (skipL false l) [] := by
  have h := stands_skip l 0 (Nat.zero_le _)
  have h2 := lex_at_skip l 0
  rw [List.drop_zero, Nat.zero_add] at h h2
  exact ⟨h, Nat.zero_le _, by rw [List.nil_append, ← h2]⟩

theorem found_next {l : List UInt8} {k : Nat} {pre : List (Nat × Tok)} (h : Found l k pre) (hk : k < l.length) {t : Tok} (ht : tokAt (l.drop k) = some t) :
    k + t.text.length ≤ l.length ∧ 1 ≤ t.text.length ∧ Found l (k + t.text.length + skipL false (l.drop (k + t.text.length))) (pre ++ [(k, t)]) := by
  obtain ⟨⟨_, hs⟩, hp, hl⟩ := h
  have hd := List.drop_eq_getElem_cons hk
  obtain ⟨_, h1, h2, _⟩ := tokAt_spec ht
  rw [List.length_drop] at h2
  have hc := hs _ (List.getElem?_eq_getElem hk)
  have e : lex false k (l.drop k) = ((k, t) :: (lex false (k + t.text.length) ((l.drop k).drop t.text.length)).1, (lex false (k + t.text.length) ((l.drop k).drop t.text.length)).2) := by
    rw [hd] at ht ⊢
    exact lex_tok k _ _ hc.1 hc.2 t ht
  rw [List.drop_drop, lex_at_skip l (k + t.text.length)] at e
  refine ⟨by omega, h1, stands_skip l _ (by omega), by simp only [List.length_append, List.length_cons, List.length_nil]; omega, ?_⟩
  rw [hl, e]
  simp

theorem found_bad {l : List UInt8} {k : Nat} {pre : List (Nat × Tok)} (h : Found l k pre) (hk : k < l.length) (ht : tokAt (l.drop k) = none) : lex false 0 l = (pre, false) := by
  obtain ⟨⟨_, hs⟩, hp, hl⟩ := h
  have hd := List.drop_eq_getElem_cons hk
  have hc := hs _ (List.getElem?_eq_getElem hk)
  have e : lex false k (l.drop k) = ([], false) := by
    rw [hd] at ht ⊢
    exact lex_bad k _ _ hc.1 hc.2 ht
  rw [hl, e]
  simp

theorem found_end {l : List UInt8} {k : Nat} {pre : List (Nat × Tok)} (h : Found l k pre) (hk : l.length ≤ k) : lex false 0 l = (pre, true) := by
  obtain ⟨_, _, hl⟩ := h
  rw [hl, List.drop_eq_nil_of_le hk, lex_nil]
  simp

theorem toks_of {l : List UInt8} {pre : List (Nat × Tok)} {b : Bool} (h : lex false 0 l = (pre, b)) : toks l = pre.map (·.2) ∧ whole l = b := by
  unfold toks whole
  rw [h]
  exact ⟨rfl, rfl⟩

end Lx
end Go.Proofs.YtacgbogedpoojabDoor
