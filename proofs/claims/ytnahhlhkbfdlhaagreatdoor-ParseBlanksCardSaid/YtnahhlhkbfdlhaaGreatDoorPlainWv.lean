/- The tokens of a text with the same blanks ahead of, between and behind its tokens. No program stands in this text; no conditions. -/
import Derived.Test.YtnahhlhkbfdlhaaGreatDoorPlainA
namespace Go.Proofs.YtnahhlhkbfdlhaaGreatDoor
set_option linter.unusedSimpArgs false
set_option linter.unusedVariables false
namespace Lx
open Go

/-- Each token's text and the blanks. -/
def wv (b : List UInt8) : List Tok → List UInt8
  | [] => []
  | t :: r => t.text ++ (b ++ wv b r)
theorem wv_snoc (b : List UInt8) (t : Tok) : ∀ ts : List Tok, wv b (ts ++ [t]) = wv b ts ++ (t.text ++ b)
  | [] => by simp [wv]
  | u :: r => by simp [wv, wv_snoc b t r]
theorem wv_take (b : List UInt8) (ts : List Tok) (k : Nat) (hk : k < ts.length) : wv b (ts.take (k + 1)) = wv b (ts.take k) ++ (ts[k].text ++ b) := by
  rw [List.take_add_one, List.getElem?_eq_getElem hk, Option.toList_some, wv_snoc]
/-- Blanks over which the reading goes. -/
def Jump (b : List UInt8) : Prop := (∃ d m, b = d :: m ∧ endB d = true) ∧ ∀ p l, lex false p (b ++ l) = lex false (p + b.length) l
theorem wv_lex {b : List UInt8} (hb : Jump b) : ∀ (ts : List Tok) (p : Nat), (∀ t ∈ ts, tokAt t.text = some t) → ((lex false p (wv b ts)).1.map (·.2) = ts ∧ (lex false p (wv b ts)).2 = true)
  | [], p, _ => by simp [wv, lex_nil]
  | t :: r, p, h => by
    have ht := h t (List.mem_cons_self ..)
    obtain ⟨c, q, e⟩ : ∃ c q, t.text = c :: q := by
      cases h : t.text with
      | nil => rw [h] at ht; simp [tokAt] at ht
      | cons c r => exact ⟨c, r, rfl⟩
    have hh := tokAt_head (e ▸ ht)
    obtain ⟨⟨d, m, hd, he⟩, hj⟩ := hb
    have ha : tokAt (t.text ++ (b ++ wv b r)) = some t := by
      rw [hd, List.cons_append]
      exact tokAt_app' ht d he _
    have hl : lex false p (t.text ++ (b ++ wv b r)) = ((p, t) :: (lex false (p + t.text.length) ((t.text ++ (b ++ wv b r)).drop t.text.length)).1, (lex false (p + t.text.length) ((t.text ++ (b ++ wv b r)).drop t.text.length)).2) := by
      have hx : t.text ++ (b ++ wv b r) = c :: (q ++ (b ++ wv b r)) := by rw [e, List.cons_append]
      rw [hx] at ha ⊢
      exact lex_tok p c _ hh.1 hh.2 t ha
    rw [List.drop_left, hj] at hl
    obtain ⟨i1, i2⟩ := wv_lex ⟨⟨d, m, hd, he⟩, hj⟩ r (p + t.text.length + b.length) (fun x hx => h x (List.mem_cons_of_mem _ hx))
    rw [show wv b (t :: r) = t.text ++ (b ++ wv b r) from rfl, hl]
    exact ⟨by simp only [List.map_cons]; rw [i1], i2⟩
theorem wv_toks {b : List UInt8} (hb : Jump b) {ts : List Tok} (h : ∀ t ∈ ts, tokAt t.text = some t) : toks (b ++ wv b ts) = ts ∧ whole (b ++ wv b ts) = true := by
  unfold toks whole
  rw [hb.2]
  exact wv_lex hb ts _ h
theorem jump0 : Jump [32] := ⟨⟨32, [], rfl, rfl⟩, fun p l => lex_blk p 32 l rfl⟩
theorem jump1 : Jump [10] := ⟨⟨10, [], rfl, rfl⟩, fun p l => lex_blk p 10 l rfl⟩
theorem jump2 : Jump [32, 37, 32, 115, 111, 10] := ⟨⟨32, _, rfl, rfl⟩, fun p l => by
  show lex false p (32 :: 37 :: 32 :: 115 :: 111 :: 10 :: l) = lex false (p + 6) l
  rw [lex_blk p 32 _ rfl, lex_pct _ 37 _ rfl rfl, lex_cmt, show cmtI ((32 : UInt8).toNat : Int) = true from rfl, lex_cmt, show cmtI ((115 : UInt8).toNat : Int) = true from rfl, lex_cmt, show cmtI ((111 : UInt8).toNat : Int) = true from rfl, lex_cmt, show cmtI ((10 : UInt8).toNat : Int) = false from rfl]⟩
theorem jump3 : Jump [9, 9] := ⟨⟨9, _, rfl, rfl⟩, fun p l => by
  show lex false p (9 :: 9 :: l) = lex false (p + 2) l
  rw [lex_blk p 9 _ rfl, lex_blk _ 9 _ rfl]⟩
theorem jump4 : Jump [13, 10] := ⟨⟨13, _, rfl, rfl⟩, fun p l => by
  show lex false p (13 :: 10 :: l) = lex false (p + 2) l
  rw [lex_blk p 13 _ rfl, lex_blk _ 10 _ rfl]⟩
/-- The five blanks of the law. -/
def blk5 (i : Nat) : ByteArray := ([⟨#[32]⟩, ⟨#[10]⟩, ⟨#[32, 37, 32, 115, 111, 10]⟩, ⟨#[9, 9]⟩, ⟨#[13, 10]⟩] : List ByteArray).getD i ⟨#[32]⟩
theorem blk5_jump (i : Nat) (h : i < 5) : Jump (blk5 i).data.toList ∧ (blk5 i).size ≤ 6 := by
  match i, h with
  | 0, _ => exact ⟨jump0, by decide⟩
  | 1, _ => exact ⟨jump1, by decide⟩
  | 2, _ => exact ⟨jump2, by decide⟩
  | 3, _ => exact ⟨jump3, by decide⟩
  | 4, _ => exact ⟨jump4, by decide⟩
  | n + 5, h => exact absurd h (by omega)

end Lx
end Go.Proofs.YtnahhlhkbfdlhaaGreatDoor
