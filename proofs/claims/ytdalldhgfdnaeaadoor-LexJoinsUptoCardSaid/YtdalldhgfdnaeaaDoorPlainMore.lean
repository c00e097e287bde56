/- Plain facts: a token alone, and ahead of a blank or a comment, is the token that it was in its text; texts made of tokens with blanks, comments and ends of line between. No program stands in this text; no conditions. -/
import Derived.Test.YtdalldhgfdnaeaaDoorPlainParts
namespace Go.Proofs.YtdalldhgfdnaeaaDoor
namespace Lx
open Go

/-- A byte that ends every token: a blank, or the beginning of a comment. -/
def endB (d : UInt8) : Bool := blkI (d.toNat : Int) || (d.toNat : Int) == 37

theorem endB_cases {d : UInt8} (h : endB d = true) : d = 9 ∨ d = 10 ∨ d = 13 ∨ d = 32 ∨ d = 37 := by
  unfold endB blkI at h
  simp only [Bool.or_eq_true, beq_iff_eq] at h
  rcases h with (((h | h) | h) | h) | h
  · exact .inl (UInt8.toNat_inj.1 (by show d.toNat = 9; omega))
  · exact .inr (.inl (UInt8.toNat_inj.1 (by show d.toNat = 10; omega)))
  · exact .inr (.inr (.inl (UInt8.toNat_inj.1 (by show d.toNat = 13; omega))))
  · exact .inr (.inr (.inr (.inl (UInt8.toNat_inj.1 (by show d.toNat = 32; omega)))))
  · exact .inr (.inr (.inr (.inr (UInt8.toNat_inj.1 (by show d.toNat = 37; omega)))))
theorem endB_word {d : UInt8} (h : endB d = true) : wordI (d.toNat : Int) = false ∧ digI (d.toNat : Int) = false ∧ ((d.toNat : Int) == 45) = false := by
  rcases endB_cases h with rfl | rfl | rfl | rfl | rfl <;> exact ⟨rfl, rfl, rfl⟩

theorem runL_app' (p : Int → Bool) (d : UInt8) (h : p (d.toNat : Int) = false) (m : List UInt8) : ∀ l : List UInt8, runL p (l ++ d :: m) = runL p l
  | [] => by
    show (if p (d.toNat : Int) then runL p m + 1 else 0) = 0
    rw [h]
    rfl
  | c :: r => by
    simp only [List.cons_append, runL]
    rw [runL_app' p d h m r]

theorem wordAt_app' (d : UInt8) (h : wordI (d.toNat : Int) = false) (l m : List UInt8) (n : Nat) (hn : n ≤ l.length) : wordAt (l ++ d :: m) n = wordAt l n := by
  unfold wordAt
  rcases Nat.lt_or_ge n l.length with h1 | h1
  · rw [List.getElem?_append_left h1]
  · obtain rfl : n = l.length := by omega
    rw [List.getElem?_append_right (Nat.le_refl _), Nat.sub_self, List.getElem?_eq_none (Nat.le_refl _)]
    exact h

theorem tokAt_app' {l : List UInt8} {t : Tok} (h : tokAt l = some t) (d : UInt8) (hd : endB d = true) (m : List UInt8) : tokAt (l ++ d :: m) = some t := by
  obtain ⟨d1, d2, d3⟩ := endB_word hd
  cases l with
  | nil => simp [tokAt] at h
  | cons c r =>
    have hw : ∀ k, wordTok k (c :: r ++ d :: m) = wordTok k (c :: r) := by
      intro k
      have h1 := runL_le wordI r
      have h2 : runL wordI (c :: r ++ d :: m).tail = runL wordI (c :: r).tail := runL_app' wordI d d1 m r
      unfold wordTok
      rw [h2, List.take_append_of_le_length (by simp only [List.length_cons, List.tail_cons]; omega)]
    have hn : numTok (c :: r ++ d :: m) = numTok (c :: r) := by
      have h1 : numLen (c :: r ++ d :: m) = numLen (c :: r) := by
        simp only [numLen, List.cons_append, List.tail_cons]
        rw [runL_app' digI d d2 m r]
      have h2 := numLen_le (l := c :: r) (by simp)
      unfold numTok
      rw [h1, wordAt_app' d d1 _ _ _ h2, List.take_append_of_le_length h2]
    have ha : arrow (c :: r ++ d :: m) = arrow (c :: r) := by
      cases r with
      | nil =>
        show ((c.toNat : Int) == 58 && (d.toNat : Int) == 45) = false
        rw [d3, Bool.and_false]
      | cons d r => rfl
    have hm : markTok (c :: r ++ d :: m) = markTok (c :: r) := by
      unfold markTok
      rw [ha]
      rfl
    have e : tokAt (c :: r ++ d :: m) = tokAt (c :: r) := by
      show (if lowI (c.toNat : Int) = true then wordTok 1 (c :: r ++ d :: m) else if (upI (c.toNat : Int) || (c.toNat : Int) == 95) = true then wordTok 2 (c :: r ++ d :: m) else if (digI (c.toNat : Int) || (c.toNat : Int) == 45) = true then numTok (c :: r ++ d :: m) else markTok (c :: r ++ d :: m)) = _
      rw [hw, hw, hn, hm]
      rfl
    rw [e, h]

theorem runL_take (p : Int → Bool) : ∀ l : List UInt8, runL p (l.take (runL p l)) = runL p l
  | [] => rfl
  | c :: r => by
    simp only [runL]
    by_cases h : p (c.toNat : Int) = true
    · simp only [if_pos h, List.take_succ_cons, runL, runL_take p r]
    · simp only [if_neg h, List.take_zero, runL]

/-- A token's text alone is that token. -/
theorem tokAt_text {l : List UInt8} {t : Tok} (h : tokAt l = some t) : tokAt t.text = some t := by
  cases l with
  | nil => simp [tokAt] at h
  | cons c r =>
    have hw : ∀ k : Int, wordTok k (c :: r) = some t → t.text = c :: r.take (runL wordI r) ∧ wordTok k (c :: r.take (runL wordI r)) = some t := by
      intro k h
      have e := runL_take wordI r
      have hq : ∀ r', wordTok k (c :: r') = if 1 + runL wordI r' ≤ 32 then some ⟨k, (c :: r').take (1 + runL wordI r'), 0⟩ else none := fun _ => rfl
      rw [hq] at h ⊢
      rw [e]
      split at h
      · rename_i hle
        simp only [Option.some.injEq] at h
        subst h
        rw [if_pos hle, Nat.add_comm 1, List.take_succ_cons, List.take_succ_cons, List.take_take, Nat.min_self]
        exact ⟨rfl, rfl⟩
      · cases h
    have hn : numTok (c :: r) = some t → t.text = c :: r.take (runL digI r) ∧ numTok (c :: r.take (runL digI r)) = some t := by
      intro h
      have e := runL_take digI r
      have h0 := runL_le digI r
      have h1 : numLen (c :: r.take (runL digI r)) = 1 + runL digI r := by unfold numLen; rw [List.tail_cons, e]
      have h2 : numLen (c :: r) = 1 + runL digI r := rfl
      have h3 : wordAt (c :: r.take (runL digI r)) (1 + runL digI r) = false := by
        unfold wordAt
        rw [List.getElem?_eq_none (by simp; omega)]
      unfold numTok at h ⊢
      rw [h2] at h
      rw [h1, h3]
      split at h
      · cases h
      · rw [Nat.add_comm 1, List.take_succ_cons] at h
        rw [Nat.add_comm 1, List.take_succ_cons, List.take_take, Nat.min_self]
        split at h
        · simp only [Option.some.injEq] at h
          subst h
          exact ⟨rfl, by simp only [Bool.false_eq_true, if_false]⟩
        · cases h
    have hgo : ∀ r', tokAt (c :: r') = (if lowI (c.toNat : Int) = true then wordTok 1 (c :: r') else if (upI (c.toNat : Int) || (c.toNat : Int) == 95) = true then wordTok 2 (c :: r') else if (digI (c.toNat : Int) || (c.toNat : Int) == 45) = true then numTok (c :: r') else markTok (c :: r')) := fun _ => rfl
    rw [hgo] at h
    split at h
    · rename_i h1
      obtain ⟨e1, e2⟩ := hw 1 h
      rw [e1, hgo, if_pos h1, e2]
    · rename_i h1
      split at h
      · rename_i h2
        obtain ⟨e1, e2⟩ := hw 2 h
        rw [e1, hgo, if_neg h1, if_pos h2, e2]
      · rename_i h2
        split at h
        · rename_i h3
          obtain ⟨e1, e2⟩ := hn h
          rw [e1, hgo, if_neg h1, if_neg h2, if_pos h3, e2]
        · rename_i h3
          unfold markTok at h
          split at h
          · simp only [Option.some.injEq] at h
            subst h
            rfl
          · simp only at h
            split at h
            · rename_i hm
              simp only [Option.some.injEq] at h
              subst h
              show tokAt [c] = _
              rw [hgo, if_neg h1, if_neg h2, if_neg h3]
              unfold markTok
              simp only [show arrow [c] = false from rfl, Bool.false_eq_true, if_false, if_pos hm]
            · cases h

/-- What a token begins with is neither a blank nor a comment's beginning. -/
theorem tokAt_head {c : UInt8} {r : List UInt8} {t : Tok} (h : tokAt (c :: r) = some t) : blkI (c.toNat : Int) = false ∧ ((c.toNat : Int) == 37) = false := by
  rw [← Bool.or_eq_false_iff]
  show endB c = false
  cases he : endB c with
  | false => rfl
  | true =>
    exfalso
    have hn : ∀ (c : UInt8) (r : List UInt8), endB c = true → tokAt (c :: r) = none := by
      intro c r hc
      rcases endB_cases hc with rfl | rfl | rfl | rfl | rfl <;> (cases r <;> rfl)
    rw [hn c r he] at h
    cases h

/-- All tokens of a text are tokens by themselves. -/
theorem lex_toks_good : ∀ (f : Nat) (cm : Bool) (p : Nat) (l : List UInt8), l.length ≤ f → ∀ x ∈ (lex cm p l).1, tokAt x.2.text = some x.2
  | _, cm, p, [], _, x, hx => by rw [lex_nil] at hx; cases hx
  | 0, _, _, c :: r, h, _, _ => by simp at h
  | f + 1, true, p, c :: r, h, x, hx => by
    simp only [List.length_cons] at h
    rw [lex_cmt] at hx
    exact lex_toks_good f _ _ r (by omega) x hx
  | f + 1, false, p, c :: r, h, x, hx => by
    simp only [List.length_cons] at h
    by_cases hb : blkI (c.toNat : Int) = true
    · rw [lex_blk _ _ _ hb] at hx
      exact lex_toks_good f _ _ r (by omega) x hx
    · have hb' : blkI (c.toNat : Int) = false := by simpa using hb
      by_cases h37 : ((c.toNat : Int) == 37) = true
      · rw [lex_pct _ _ _ hb' h37] at hx
        exact lex_toks_good f _ _ r (by omega) x hx
      · have h37' : ((c.toNat : Int) == 37) = false := by simpa using h37
        cases ht : tokAt (c :: r) with
        | none => rw [lex_bad _ _ _ hb' h37' ht] at hx; cases hx
        | some t =>
          have h1 := (tokAt_spec ht).2.1
          rw [lex_tok _ _ _ hb' h37' t ht] at hx
          rcases List.mem_cons.1 hx with rfl | hx
          · exact tokAt_text ht
          · exact lex_toks_good f _ _ _ (by rw [List.length_drop, List.length_cons]; omega) x hx
theorem toks_good {l : List UInt8} {t : Tok} (h : t ∈ toks l) : tokAt t.text = some t := by
  unfold toks at h
  obtain ⟨x, hx, rfl⟩ := List.mem_map.1 h
  exact lex_toks_good l.length false 0 l (Nat.le_refl _) x hx

/-- A text that holds blanks and comments alone, up to an end of line. -/
def blank (b : List UInt8) : Prop := lex false 0 (b ++ [10]) = ([], true)

theorem blank_nil : blank [] := rfl
theorem lex_blank : ∀ (f : Nat) (cm : Bool) (p : Nat) (b : List UInt8), b.length ≤ f → lex cm p (b ++ [10]) = ([], true) → lex cm p b = ([], true)
  | _, _, _, [], _, _ => lex_nil _ _
  | 0, _, _, c :: r, h, _ => by simp at h
  | f + 1, true, p, c :: r, h, hb => by
    simp only [List.length_cons] at h
    rw [List.cons_append, lex_cmt] at hb
    rw [lex_cmt]
    exact lex_blank f _ _ r (by omega) hb
  | f + 1, false, p, c :: r, h, he => by
    simp only [List.length_cons] at h
    rw [List.cons_append] at he
    by_cases hb : blkI (c.toNat : Int) = true
    · rw [lex_blk _ _ _ hb] at he ⊢
      exact lex_blank f _ _ r (by omega) he
    · have hb' : blkI (c.toNat : Int) = false := by simpa using hb
      by_cases h37 : ((c.toNat : Int) == 37) = true
      · rw [lex_pct _ _ _ hb' h37] at he ⊢
        exact lex_blank f _ _ r (by omega) he
      · have h37' : ((c.toNat : Int) == 37) = false := by simpa using h37
        cases ht : tokAt (c :: (r ++ [10])) with
        | none => rw [lex_bad _ _ _ hb' h37' ht] at he; cases he
        | some t => rw [lex_tok _ _ _ hb' h37' t ht] at he; cases he
theorem blank_head {c : UInt8} {b : List UInt8} (h : blank (c :: b)) : endB c = true := by
  unfold blank at h
  rw [List.cons_append] at h
  unfold endB
  cases hb : blkI (c.toNat : Int) with
  | true => rfl
  | false =>
    cases h37 : ((c.toNat : Int) == 37) with
    | true => rfl
    | false =>
      cases ht : tokAt (c :: (b ++ [10])) with
      | none => rw [lex_bad _ _ _ hb h37 ht] at h; cases h
      | some t => rw [lex_tok _ _ _ hb h37 t ht] at h; cases h
theorem blank_toks {b : List UInt8} (h : blank b) : toks b = [] ∧ whole b = true := by
  have h1 := lex_blank b.length false 0 b (Nat.le_refl _) h
  unfold toks whole
  rw [h1]
  exact ⟨rfl, rfl⟩
theorem lex_blank_at {b : List UInt8} (h : blank b) (p : Nat) : lex false p b = ([], true) := by
  have h1 := lex_blank b.length false 0 b (Nat.le_refl _) h
  have h2 := lex_shift b.length false p 0 b (Nat.le_refl _)
  rw [h1] at h2
  exact Prod.ext (List.map_eq_nil_iff.1 h2.1) h2.2

/-- A token and blanks behind it. -/
theorem tok_blank {t : Tok} (ht : tokAt t.text = some t) {b : List UInt8} (hb : blank b) : toks (t.text ++ b) = [t] ∧ whole (t.text ++ b) = true := by
  obtain ⟨c, r, e⟩ : ∃ c r, t.text = c :: r := by
    cases h : t.text with
    | nil => rw [h] at ht; simp [tokAt] at ht
    | cons c r => exact ⟨c, r, rfl⟩
  have hh := tokAt_head (e ▸ ht)
  have ha : tokAt (t.text ++ b) = some t := by
    cases b with
    | nil => rw [List.append_nil]; exact ht
    | cons d m => exact tokAt_app' ht d (blank_head hb) m
  have hl : lex false 0 (t.text ++ b) = ((0, t) :: (lex false (0 + t.text.length) ((t.text ++ b).drop t.text.length)).1, (lex false (0 + t.text.length) ((t.text ++ b).drop t.text.length)).2) := by
    have hx : t.text ++ b = c :: (r ++ b) := by rw [e, List.cons_append]
    rw [hx] at ha ⊢
    exact lex_tok 0 c (r ++ b) hh.1 hh.2 t ha
  rw [List.drop_left, lex_blank_at hb] at hl
  unfold toks whole
  rw [hl]
  exact ⟨rfl, rfl⟩

/-- Blanks, an end of line and a token, again and again. -/
def weave : List (List UInt8 × Tok) → List UInt8
  | [] => []
  | x :: r => x.1 ++ 10 :: (x.2.text ++ weave r)
theorem weave_snoc (ps : List (List UInt8 × Tok)) (x : List UInt8 × Tok) : weave (ps ++ [x]) = weave ps ++ (x.1 ++ [10] ++ x.2.text) := by
  induction ps with
  | nil => simp [weave]
  | cons y r ih => simp [weave, ih]
theorem weave_tok : ∀ (ps : List (List UInt8 × Tok)) (t : Tok), tokAt t.text = some t → (∀ x ∈ ps, blank x.1 ∧ tokAt x.2.text = some x.2) → toks (t.text ++ weave ps) = t :: ps.map (·.2) ∧ whole (t.text ++ weave ps) = true
  | [], t, ht, _ => tok_blank ht blank_nil
  | x :: r, t, ht, h => by
    obtain ⟨hb, hx⟩ := h x (List.mem_cons_self ..)
    obtain ⟨i1, i2⟩ := weave_tok r x.2 hx (fun y hy => h y (List.mem_cons_of_mem _ hy))
    obtain ⟨t1, t2⟩ := tok_blank ht hb
    obtain ⟨a1, a2⟩ := toks_app (m := x.2.text ++ weave r) t2
    have e : t.text ++ weave (x :: r) = t.text ++ x.1 ++ 10 :: (x.2.text ++ weave r) := by simp [weave]
    rw [e, a1, a2, i1, i2, t1]
    exact ⟨rfl, rfl⟩
theorem weave_toks (ps : List (List UInt8 × Tok)) (h : ∀ x ∈ ps, blank x.1 ∧ tokAt x.2.text = some x.2) : toks (weave ps) = ps.map (·.2) ∧ whole (weave ps) = true := by
  cases ps with
  | nil => exact ⟨rfl, rfl⟩
  | cons x r =>
    obtain ⟨hb, hx⟩ := h x (List.mem_cons_self ..)
    obtain ⟨i1, i2⟩ := weave_tok r x.2 hx (fun y hy => h y (List.mem_cons_of_mem _ hy))
    obtain ⟨t1, t2⟩ := blank_toks hb
    obtain ⟨a1, a2⟩ := toks_app (m := x.2.text ++ weave r) t2
    rw [show weave (x :: r) = x.1 ++ 10 :: (x.2.text ++ weave r) from rfl, a1, a2, i1, i2, t1]
    exact ⟨rfl, rfl⟩

/-- The tokens' texts with a blank between each two. -/
def joinL : List Tok → List UInt8
  | [] => []
  | [t] => t.text
  | t :: u :: r => t.text ++ 32 :: joinL (u :: r)
theorem lex_join : ∀ (ts : List Tok) (p : Nat), (∀ t ∈ ts, tokAt t.text = some t) → ((lex false p (joinL ts)).1.map (·.2) = ts ∧ (lex false p (joinL ts)).2 = true)
  | [], p, _ => by simp [joinL, lex_nil]
  | [t], p, h => by
    have ht := h t (List.mem_cons_self ..)
    obtain ⟨h1, h2⟩ := tok_blank ht blank_nil
    rw [List.append_nil] at h1 h2
    have h3 := lex_shift t.text.length false p 0 t.text (Nat.le_refl _)
    unfold toks at h1
    unfold whole at h2
    rw [show joinL [t] = t.text from rfl, h3.1, h3.2]
    exact ⟨h1, h2⟩
  | t :: u :: r, p, h => by
    have ht := h t (List.mem_cons_self ..)
    obtain ⟨c, q, e⟩ : ∃ c q, t.text = c :: q := by
      cases h : t.text with
      | nil => rw [h] at ht; simp [tokAt] at ht
      | cons c r => exact ⟨c, r, rfl⟩
    have hh := tokAt_head (e ▸ ht)
    have ha := tokAt_app' ht 32 rfl (joinL (u :: r))
    have hl : lex false p (t.text ++ 32 :: joinL (u :: r)) = ((p, t) :: (lex false (p + t.text.length) ((t.text ++ 32 :: joinL (u :: r)).drop t.text.length)).1, (lex false (p + t.text.length) ((t.text ++ 32 :: joinL (u :: r)).drop t.text.length)).2) := by
      have hx : t.text ++ 32 :: joinL (u :: r) = c :: (q ++ 32 :: joinL (u :: r)) := by rw [e, List.cons_append]
      rw [hx] at ha ⊢
      exact lex_tok p c _ hh.1 hh.2 t ha
    rw [List.drop_left, lex_blk _ _ _ rfl] at hl
    obtain ⟨i1, i2⟩ := lex_join (u :: r) (p + t.text.length + 1) (fun x hx => h x (List.mem_cons_of_mem _ hx))
    rw [show joinL (t :: u :: r) = t.text ++ 32 :: joinL (u :: r) from rfl, hl]
    exact ⟨by simp only [List.map_cons]; rw [i1], i2⟩
theorem join_toks (ts : List Tok) (h : ∀ t ∈ ts, tokAt t.text = some t) : toks (joinL ts) = ts ∧ whole (joinL ts) = true := lex_join ts 0 h

end Lx
end Go.Proofs.YtdalldhgfdnaeaaDoor
