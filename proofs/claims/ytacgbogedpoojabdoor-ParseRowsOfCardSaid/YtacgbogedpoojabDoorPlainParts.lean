/- Plain facts: a text of tokens, an end of line and another text of tokens has the tokens of both. No program stands in this text; no conditions. -/
import Derived.Test.YtacgbogedpoojabDoorPlainScan
namespace Go.Proofs.YtacgbogedpoojabDoor
namespace Lx
open Go

theorem runL_app (p : Int → Bool) (h : p 10 = false) (m : List UInt8) : ∀ l : List UInt8, runL p (l ++ 10 :: m) = runL p l
  | [] => by
    show (if p ((10 : UInt8).toNat : Int) then runL p m + 1 else 0) = 0
    rw [show (((10 : UInt8).toNat : Nat) : Int) = 10 from rfl, h]
    rfl
  | c :: r => by
    simp only [List.cons_append, runL]
    rw [runL_app p h m r]

theorem wordAt_app (l m : List UInt8) (n : Nat) (hn : n ≤ l.length) : wordAt (l ++ 10 :: m) n = wordAt l n := by
  unfold wordAt
  rcases Nat.lt_or_ge n l.length with h | h
  · rw [List.getElem?_append_left h]
  · obtain rfl : n = l.length := by omega
    rw [List.getElem?_append_right (Nat.le_refl _), Nat.sub_self, List.getElem?_eq_none (Nat.le_refl _)]
    rfl

theorem tokAt_app {l : List UInt8} {t : Tok} (h : tokAt l = some t) (m : List UInt8) : tokAt (l ++ 10 :: m) = some t := by
  cases l with
  | nil => simp [tokAt] at h
  | cons c r =>
    have hw : ∀ k, wordTok k (c :: r ++ 10 :: m) = wordTok k (c :: r) := by
      intro k
      have h1 := runL_le wordI r
      have h2 : runL wordI (c :: r ++ 10 :: m).tail = runL wordI (c :: r).tail := runL_app wordI rfl m r
      unfold wordTok
      rw [h2, List.take_append_of_le_length (by simp only [List.length_cons, List.tail_cons]; omega)]
    have hn : numTok (c :: r ++ 10 :: m) = numTok (c :: r) := by
      have h1 : numLen (c :: r ++ 10 :: m) = numLen (c :: r) := by
        simp only [numLen, List.cons_append, List.tail_cons]
        rw [runL_app digI rfl m r]
      have h2 := numLen_le (l := c :: r) (by simp)
      unfold numTok
      rw [h1, wordAt_app _ _ _ h2, List.take_append_of_le_length h2]
    have ha : arrow (c :: r ++ 10 :: m) = arrow (c :: r) := by
      cases r with
      | nil => simp [arrow]
      | cons d r => rfl
    have hm : markTok (c :: r ++ 10 :: m) = markTok (c :: r) := by
      unfold markTok
      rw [ha]
      rfl
    have e : tokAt (c :: r ++ 10 :: m) = tokAt (c :: r) := by
      show (if lowI (c.toNat : Int) = true then wordTok 1 (c :: r ++ 10 :: m) else if (upI (c.toNat : Int) || (c.toNat : Int) == 95) = true then wordTok 2 (c :: r ++ 10 :: m) else if (digI (c.toNat : Int) || (c.toNat : Int) == 45) = true then numTok (c :: r ++ 10 :: m) else markTok (c :: r ++ 10 :: m)) = _
      rw [hw, hw, hn, hm]
      rfl
    rw [e, h]

/-- Whatever goes ahead: the same tokens, at other places. -/
theorem lex_shift : ∀ (f : Nat) (cm : Bool) (p q : Nat) (l : List UInt8), l.length ≤ f → (lex cm p l).1.map (·.2) = (lex cm q l).1.map (·.2) ∧ (lex cm p l).2 = (lex cm q l).2
  | _, cm, p, q, [], _ => ⟨rfl, rfl⟩
  | 0, _, _, _, c :: r, h => by simp at h
  | f + 1, true, p, q, c :: r, h => by
    simp only [List.length_cons] at h
    rw [lex_cmt, lex_cmt]
    exact lex_shift f _ _ _ r (by omega)
  | f + 1, false, p, q, c :: r, h => by
    simp only [List.length_cons] at h
    by_cases hb : blkI (c.toNat : Int) = true
    · rw [lex_blk _ _ _ hb, lex_blk _ _ _ hb]
      exact lex_shift f _ _ _ r (by omega)
    · have hb' : blkI (c.toNat : Int) = false := by simpa using hb
      by_cases h37 : ((c.toNat : Int) == 37) = true
      · rw [lex_pct _ _ _ hb' h37, lex_pct _ _ _ hb' h37]
        exact lex_shift f _ _ _ r (by omega)
      · have h37' : ((c.toNat : Int) == 37) = false := by simpa using h37
        cases ht : tokAt (c :: r) with
        | none => rw [lex_bad _ _ _ hb' h37' ht, lex_bad _ _ _ hb' h37' ht]; exact ⟨rfl, rfl⟩
        | some t =>
          have h1 := (tokAt_spec ht).2.1
          rw [lex_tok _ _ _ hb' h37' t ht, lex_tok _ _ _ hb' h37' t ht]
          have ih := lex_shift f false (p + t.text.length) (q + t.text.length) ((c :: r).drop t.text.length) (by rw [List.length_drop, List.length_cons]; omega)
          exact ⟨by simp only [List.map_cons]; rw [ih.1], ih.2⟩

theorem lex_app : ∀ (f : Nat) (cm : Bool) (p : Nat) (l m : List UInt8), l.length ≤ f → (lex cm p l).2 = true →
    lex cm p (l ++ 10 :: m) = ((lex cm p l).1 ++ (lex false (p + l.length + 1) m).1, (lex false (p + l.length + 1) m).2)
  | _, true, p, [], m, _, _ => by
    rw [List.nil_append, lex_cmt]
    rfl
  | _, false, p, [], m, _, _ => by
    rw [List.nil_append, lex_blk _ _ _ rfl]
    rfl
  | 0, _, _, c :: r, _, h, _ => by simp at h
  | f + 1, true, p, c :: r, m, h, hw => by
    simp only [List.length_cons] at h
    rw [lex_cmt] at hw
    rw [List.cons_append, lex_cmt, lex_cmt, lex_app f _ _ r m (by omega) hw]
    simp only [List.length_cons, show p + 1 + r.length + 1 = p + (r.length + 1) + 1 by omega]
  | f + 1, false, p, c :: r, m, h, hw => by
    simp only [List.length_cons] at h
    by_cases hb : blkI (c.toNat : Int) = true
    · rw [lex_blk _ _ _ hb] at hw
      rw [List.cons_append, lex_blk _ _ _ hb, lex_blk _ _ _ hb, lex_app f _ _ r m (by omega) hw]
      simp only [List.length_cons, show p + 1 + r.length + 1 = p + (r.length + 1) + 1 by omega]
    · have hb' : blkI (c.toNat : Int) = false := by simpa using hb
      by_cases h37 : ((c.toNat : Int) == 37) = true
      · rw [lex_pct _ _ _ hb' h37] at hw
        rw [List.cons_append, lex_pct _ _ _ hb' h37, lex_pct _ _ _ hb' h37, lex_app f _ _ r m (by omega) hw]
        simp only [List.length_cons, show p + 1 + r.length + 1 = p + (r.length + 1) + 1 by omega]
      · have h37' : ((c.toNat : Int) == 37) = false := by simpa using h37
        cases ht : tokAt (c :: r) with
        | none => rw [lex_bad _ _ _ hb' h37' ht] at hw; cases hw
        | some t =>
          obtain ⟨_, h1, h2, _⟩ := tokAt_spec ht
          rw [lex_tok _ _ _ hb' h37' t ht] at hw
          have ha := tokAt_app ht m
          rw [List.cons_append] at ha ⊢
          rw [lex_tok _ _ _ hb' h37' t ha, lex_tok _ _ _ hb' h37' t ht, ← List.cons_append, List.drop_append_of_le_length h2,
            lex_app f false _ _ m (by rw [List.length_drop, List.length_cons]; omega) hw]
          have e : p + t.text.length + ((c :: r).drop t.text.length).length + 1 = p + (c :: r).length + 1 := by
            rw [List.length_drop]
            omega
          rw [e]
          simp

/-- Two texts with an end of line between. -/
theorem toks_app {l m : List UInt8} (hl : whole l = true) : toks (l ++ 10 :: m) = toks l ++ toks m ∧ whole (l ++ 10 :: m) = whole m := by
  unfold toks whole
  rw [lex_app l.length false 0 l m (Nat.le_refl _) hl]
  have h := lex_shift m.length false (0 + l.length + 1) 0 m (Nat.le_refl _)
  exact ⟨by rw [List.map_append, h.1], h.2⟩

theorem lex_len : ∀ (f : Nat) (cm : Bool) (p : Nat) (l : List UInt8), l.length ≤ f → (lex cm p l).1.length ≤ l.length
  | _, cm, p, [], _ => by simp [lex_nil]
  | 0, _, _, c :: r, h => by simp at h
  | f + 1, true, p, c :: r, h => by
    simp only [List.length_cons] at h
    rw [lex_cmt, List.length_cons]
    exact Nat.le_succ_of_le (lex_len f _ _ r (by omega))
  | f + 1, false, p, c :: r, h => by
    simp only [List.length_cons] at h
    by_cases hb : blkI (c.toNat : Int) = true
    · rw [lex_blk _ _ _ hb, List.length_cons]
      exact Nat.le_succ_of_le (lex_len f _ _ r (by omega))
    · have hb' : blkI (c.toNat : Int) = false := by simpa using hb
      by_cases h37 : ((c.toNat : Int) == 37) = true
      · rw [lex_pct _ _ _ hb' h37, List.length_cons]
        exact Nat.le_succ_of_le (lex_len f _ _ r (by omega))
      · have h37' : ((c.toNat : Int) == 37) = false := by simpa using h37
        cases ht : tokAt (c :: r) with
        | none => rw [lex_bad _ _ _ hb' h37' ht]; simp
        | some t =>
          have h1 := (tokAt_spec ht).2.1
          rw [lex_tok _ _ _ hb' h37' t ht]
          have ih := lex_len f false (p + t.text.length) ((c :: r).drop t.text.length) (by rw [List.length_drop, List.length_cons]; omega)
          rw [List.length_drop, List.length_cons] at ih
          simp only [List.length_cons]
          omega
theorem toks_len (l : List UInt8) : (toks l).length ≤ l.length := by
  unfold toks
  rw [List.length_map]
  exact lex_len l.length false 0 l (Nat.le_refl _)

end Lx
end Go.Proofs.YtacgbogedpoojabDoor
