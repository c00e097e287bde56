/- Plain facts: the tokens of a text stand in it where they are said to stand, each behind the one ahead of it. No program stands in this text; no conditions. -/
import Derived.Test.YtdalldhgfdnaeaaDoorPlainParts
namespace Go.Proofs.YtdalldhgfdnaeaaDoor
namespace Lx
open Go

/-- From e on, one behind the other, each stands in l at its place. -/
def Rise (l : List UInt8) : Nat → List (Nat × Tok) → Prop
  | _, [] => True
  | e, x :: r => e ≤ x.1 ∧ x.1 + x.2.text.length ≤ l.length ∧ (l.drop x.1).take x.2.text.length = x.2.text ∧ 0 < x.2.text.length ∧ Rise l (x.1 + x.2.text.length) r
theorem Rise.mono {l : List UInt8} {e e' : Nat} (he : e' ≤ e) : ∀ {r : List (Nat × Tok)}, Rise l e r → Rise l e' r
  | [], _ => trivial
  | _ :: _, h => ⟨Nat.le_trans he h.1, h.2⟩
theorem rise_lex (l : List UInt8) : ∀ (f : Nat) (cm : Bool) (p : Nat), p ≤ l.length → l.length - p ≤ f → Rise l p (lex cm p (l.drop p)).1
  | 0, cm, p, hp, hf => by
    rw [List.drop_eq_nil_of_le (by omega), lex_nil]
    trivial
  | f + 1, cm, p, hp, hf => by
    rcases Nat.lt_or_ge p l.length with hlt | hge
    · have hd := List.drop_eq_getElem_cons hlt
      cases cm with
      | true =>
        rw [hd, lex_cmt]
        exact (rise_lex l f _ (p + 1) (by omega) (by omega)).mono (by omega)
      | false =>
        cases hb : blkI ((l[p]).toNat : Int) with
        | true =>
          rw [hd, lex_blk _ _ _ hb]
          exact (rise_lex l f _ (p + 1) (by omega) (by omega)).mono (by omega)
        | false =>
          cases h37 : (((l[p]).toNat : Int) == 37) with
          | true =>
            rw [hd, lex_pct _ _ _ hb h37]
            exact (rise_lex l f _ (p + 1) (by omega) (by omega)).mono (by omega)
          | false =>
            cases ht : tokAt (l[p] :: l.drop (p + 1)) with
            | none => rw [hd, lex_bad _ _ _ hb h37 ht]; trivial
            | some t =>
              obtain ⟨h1, h2, h3, _⟩ := tokAt_spec ht
              rw [← hd] at h1 h3
              rw [List.length_drop] at h3
              rw [hd, lex_tok _ _ _ hb h37 t ht, ← hd, List.drop_drop]
              exact ⟨Nat.le_refl _, by show p + t.text.length ≤ _; omega, h1.symm, h2, rise_lex l f false (p + t.text.length) (by omega) (by omega)⟩
    · rw [List.drop_eq_nil_of_le hge, lex_nil]
      trivial
theorem rise_all (l : List UInt8) : Rise l 0 (lex false 0 l).1 := by
  have h := rise_lex l l.length false 0 (Nat.zero_le _) (by omega)
  rwa [List.drop_zero] at h

theorem Rise.mem {l : List UInt8} : ∀ {r : List (Nat × Tok)} {e : Nat}, Rise l e r → ∀ x ∈ r, x.1 + x.2.text.length ≤ l.length ∧ (l.drop x.1).take x.2.text.length = x.2.text ∧ 0 < x.2.text.length
  | y :: r, e, h, x, hx => by
    rcases List.mem_cons.1 hx with rfl | hx
    · exact ⟨h.2.1, h.2.2.1, h.2.2.2.1⟩
    · exact Rise.mem h.2.2.2.2 x hx

/-- Where the last of these tokens ends. -/
def endOf (pre : List (Nat × Tok)) : Nat := pre.foldl (fun _ x => x.1 + x.2.text.length) 0
theorem endOf_snoc (pre : List (Nat × Tok)) (x : Nat × Tok) : endOf (pre ++ [x]) = x.1 + x.2.text.length := by
  unfold endOf
  rw [List.foldl_append]
  rfl
theorem endOf_le {n : Nat} {pre : List (Nat × Tok)} (h : ∀ x ∈ pre, x.1 + x.2.text.length ≤ n) : endOf pre ≤ n := by
  rcases List.eq_nil_or_concat pre with rfl | ⟨q, x, rfl⟩
  · exact Nat.zero_le _
  · rw [List.concat_eq_append] at h ⊢
    rw [endOf_snoc]
    exact h x (List.mem_append_right _ (List.mem_singleton.2 rfl))
theorem Rise.next {l : List UInt8} : ∀ {pre r : List (Nat × Tok)} {e : Nat} {x : Nat × Tok}, Rise l e (pre ++ x :: r) → pre.foldl (fun _ x => x.1 + x.2.text.length) e ≤ x.1
  | [], _, _, _, h => h.1
  | _ :: pre, _, _, _, h => Rise.next (pre := pre) h.2.2.2.2
/-- A token that is next begins behind the end of the last. -/
theorem next_ge {l : List UInt8} {pre : List (Nat × Tok)} {x : Nat × Tok} (h : pre ++ [x] <+: (lex false 0 l).1) : endOf pre ≤ x.1 := by
  obtain ⟨r, hr⟩ := h
  have h1 := rise_all l
  rw [← hr, List.append_assoc] at h1
  exact Rise.next h1

end Lx
end Go.Proofs.YtdalldhgfdnaeaaDoor
