/- Plain facts: which blanks are put ahead of which token. No program stands in this text; no conditions. -/
import Derived.Test.YtnahhlhkbfdlhaaGreatDoorPlainA
namespace Go.Proofs.YtnahhlhkbfdlhaaGreatDoor
set_option linter.unusedSimpArgs false
set_option linter.unusedVariables false
namespace Lx
open Go

/-- The blanks that are taken: those that hold blanks and comments alone up to an end of line, and are short. -/
def bsel (b : List UInt8) : List UInt8 := if whole (b ++ [10]) = true ∧ toks (b ++ [10]) = [] ∧ b.length ≤ 100 then b else []
theorem bsel_blank (b : List UInt8) : blank (bsel b) := by
  unfold bsel
  split
  · rename_i h
    obtain ⟨h1, h2, _⟩ := h
    unfold blank
    unfold whole at h1
    unfold toks at h2
    exact Prod.ext (List.map_eq_nil_iff.1 h2) h1
  · exact blank_nil
theorem bsel_len (b : List UInt8) : (bsel b).length ≤ 100 := by
  unfold bsel
  split
  · rename_i h; exact h.2.2
  · simp
theorem bsel_yes {b : List UInt8} (h1 : whole (b ++ [10]) = true) (h2 : toks (b ++ [10]) = []) (h3 : b.length ≤ 100) : bsel b = b := if_pos ⟨h1, h2, h3⟩
theorem bsel_no1 {b : List UInt8} (h1 : whole (b ++ [10]) = false) : bsel b = [] := if_neg (fun h => by rw [h1] at h; exact absurd h.1 (by decide))
theorem bsel_no2 {b : List UInt8} (h1 : toks (b ++ [10]) ≠ []) : bsel b = [] := if_neg (fun h => h1 h.2.1)
theorem bsel_no3 {b : List UInt8} (h1 : 100 < b.length) : bsel b = [] := if_neg (fun h => by omega)

/-- What stands ahead of each of the first k tokens, and these tokens. -/
def prs (bb : List ByteArray) (ts : List Tok) (k : Nat) : List (List UInt8 × Tok) := (List.range k).map fun j => (bsel (bb.getD (j % bb.length) ⟨#[]⟩).data.toList, ts.getD j ⟨0, [], 0⟩)
theorem prs_zero (bb : List ByteArray) (ts : List Tok) : prs bb ts 0 = [] := rfl
theorem prs_succ (bb : List ByteArray) (ts : List Tok) (k : Nat) : prs bb ts (k + 1) = prs bb ts k ++ [(bsel (bb.getD (k % bb.length) ⟨#[]⟩).data.toList, ts.getD k ⟨0, [], 0⟩)] := by
  unfold prs
  rw [List.range_succ, List.map_append]
  rfl
theorem prs_snd (bb : List ByteArray) (ts : List Tok) : (prs bb ts ts.length).map (·.2) = ts := by
  unfold prs
  rw [List.map_map]
  apply List.ext_getElem
  · simp
  · intro i h1 h2
    simp [h2]
theorem prs_ok (bb : List ByteArray) {ts : List Tok} (h : ∀ t ∈ ts, tokAt t.text = some t) : ∀ x ∈ prs bb ts ts.length, blank x.1 ∧ tokAt x.2.text = some x.2 := by
  intro x hx
  unfold prs at hx
  obtain ⟨j, hj, rfl⟩ := List.mem_map.1 hx
  have hj := List.mem_range.1 hj
  refine ⟨bsel_blank _, ?_⟩
  show tokAt (ts.getD j ⟨0, [], 0⟩).text = some (ts.getD j ⟨0, [], 0⟩)
  rw [List.getD_eq_getElem?_getD, List.getElem?_eq_getElem hj]
  exact h _ (List.getElem_mem hj)
/-- The whole woven text. -/
theorem prs_toks (bb : List ByteArray) {ts : List Tok} (h : ∀ t ∈ ts, tokAt t.text = some t) : toks (weave (prs bb ts ts.length)) = ts ∧ whole (weave (prs bb ts ts.length)) = true := by
  have h1 := weave_toks (prs bb ts ts.length) (prs_ok bb h)
  rw [prs_snd] at h1
  exact h1
/-- No token of a text is longer than the text. -/
theorem lex_small : ∀ (f : Nat) (cm : Bool) (p : Nat) (l : List UInt8), l.length ≤ f → ∀ x ∈ (lex cm p l).1, x.2.text.length ≤ l.length
  | _, cm, p, [], _, x, hx => by rw [lex_nil] at hx; cases hx
  | 0, _, _, c :: r, h, _, _ => by simp at h
  | f + 1, true, p, c :: r, h, x, hx => by
    simp only [List.length_cons] at h ⊢
    rw [lex_cmt] at hx
    exact Nat.le_succ_of_le (lex_small f _ _ r (by omega) x hx)
  | f + 1, false, p, c :: r, h, x, hx => by
    simp only [List.length_cons] at h
    by_cases hb : blkI (c.toNat : Int) = true
    · rw [lex_blk _ _ _ hb] at hx
      exact Nat.le_succ_of_le (lex_small f _ _ r (by omega) x hx)
    · have hb' : blkI (c.toNat : Int) = false := by simpa using hb
      by_cases h37 : ((c.toNat : Int) == 37) = true
      · rw [lex_pct _ _ _ hb' h37] at hx
        exact Nat.le_succ_of_le (lex_small f _ _ r (by omega) x hx)
      · have h37' : ((c.toNat : Int) == 37) = false := by simpa using h37
        cases ht : tokAt (c :: r) with
        | none => rw [lex_bad _ _ _ hb' h37' ht] at hx; cases hx
        | some t =>
          have h1 := tokAt_spec ht
          rw [lex_tok _ _ _ hb' h37' t ht] at hx
          rcases List.mem_cons.1 hx with rfl | hx
          · exact h1.2.2.1
          · have h2 := lex_small f _ _ _ (by rw [List.length_drop, List.length_cons]; omega) x hx
            rw [List.length_drop] at h2
            omega
theorem toks_small {l : List UInt8} {t : Tok} (h : t ∈ toks l) : t.text.length ≤ l.length := by
  unfold toks at h
  obtain ⟨x, hx, rfl⟩ := List.mem_map.1 h
  exact lex_small l.length false 0 l (Nat.le_refl _) x hx

end Lx
end Go.Proofs.YtnahhlhkbfdlhaaGreatDoor
