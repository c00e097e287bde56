/- Plain facts: how far a left-to-right reading of a text has come: the tokens found so far and those still to come. No program stands in this text; no conditions. -/
import Derived.Test.YtdalldhgfdnaeaaDoorPlainScan
namespace Go.Proofs.YtdalldhgfdnaeaaDoor
namespace Lx
open Go

/-- The tokens 'done' are found; at place k, in a comment or not, the rest is still to be read. -/
def LexAt (l : List UInt8) (done : List (Nat × Tok)) (cm : Bool) (k : Nat) : Prop := lex false 0 l = (done ++ (lex cm k (l.drop k)).1, (lex cm k (l.drop k)).2)

theorem lexAt_start (l : List UInt8) : LexAt l [] false 0 := by
  unfold LexAt
  rw [List.drop_zero, List.nil_append]
theorem lexAt_end {l : List UInt8} {done : List (Nat × Tok)} {cm : Bool} {k : Nat} (h : LexAt l done cm k) (hk : l.length ≤ k) : lex false 0 l = (done, true) := by
  unfold LexAt at h
  rw [List.drop_eq_nil_of_le hk, lex_nil, List.append_nil] at h
  exact h
theorem lexAt_cmt {l : List UInt8} {done : List (Nat × Tok)} {k : Nat} (h : LexAt l done true k) (hk : k < l.length) : LexAt l done (cmtI ((l[k]).toNat : Int)) (k + 1) := by
  unfold LexAt at h ⊢
  rw [List.drop_eq_getElem_cons hk, lex_cmt] at h
  exact h
theorem lexAt_blk {l : List UInt8} {done : List (Nat × Tok)} {k : Nat} (h : LexAt l done false k) (hk : k < l.length) (hb : blkI ((l[k]).toNat : Int) = true) : LexAt l done false (k + 1) := by
  unfold LexAt at h ⊢
  rw [List.drop_eq_getElem_cons hk, lex_blk _ _ _ hb] at h
  exact h
theorem lexAt_pct {l : List UInt8} {done : List (Nat × Tok)} {k : Nat} (h : LexAt l done false k) (hk : k < l.length) (hb : blkI ((l[k]).toNat : Int) = false) (hp : (((l[k]).toNat : Int) == 37) = true) : LexAt l done true (k + 1) := by
  unfold LexAt at h ⊢
  rw [List.drop_eq_getElem_cons hk, lex_pct _ _ _ hb hp] at h
  exact h
theorem lexAt_bad {l : List UInt8} {done : List (Nat × Tok)} {k : Nat} (h : LexAt l done false k) (hk : k < l.length) (hb : blkI ((l[k]).toNat : Int) = false) (hp : (((l[k]).toNat : Int) == 37) = false) (ht : tokAt (l.drop k) = none) : lex false 0 l = (done, false) := by
  unfold LexAt at h
  rw [List.drop_eq_getElem_cons hk] at h ht
  rw [lex_bad _ _ _ hb hp ht, List.append_nil] at h
  exact h
theorem lexAt_tok {l : List UInt8} {done : List (Nat × Tok)} {k : Nat} (h : LexAt l done false k) (hk : k < l.length) (hb : blkI ((l[k]).toNat : Int) = false) (hp : (((l[k]).toNat : Int) == 37) = false) {t : Tok} (ht : tokAt (l.drop k) = some t) :
    LexAt l (done ++ [(k, t)]) false (k + t.text.length) := by
  unfold LexAt at h ⊢
  have hd : l.drop (k + t.text.length) = (l[k] :: l.drop (k + 1)).drop t.text.length := by rw [← List.drop_eq_getElem_cons hk, List.drop_drop]
  rw [List.drop_eq_getElem_cons hk] at h ht
  rw [lex_tok _ _ _ hb hp t ht] at h
  rw [hd, List.append_assoc]
  exact h
/-- A token found at a place lies in the text and is not empty. -/
theorem lexAt_len {l : List UInt8} {k : Nat} {t : Tok} (hk : k < l.length) (ht : tokAt (l.drop k) = some t) : 0 < t.text.length ∧ k + t.text.length ≤ l.length := by
  have h := tokAt_spec ht
  have h1 := congrArg List.length h.1
  have h2 := h.2.1
  refine ⟨h2, ?_⟩
  have := List.length_drop (i := k) (l := l)
  omega

end Lx
end Go.Proofs.YtdalldhgfdnaeaaDoor
