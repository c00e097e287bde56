/- The contract of the statements' 'alive' (a clause's tokens): it returns true. Conditions: the error variables hold an error; strconv's table of powers of ten holds them. -/
import Derived.Test.YtdalldhgfdnaeaaDoorLex
namespace Go.Proofs.YtdalldhgfdnaeaaDoor
namespace Lx
open Go Go.RowKit

def clause : List UInt8 := [112, 40, 88, 41, 58, 45, 88, 61, 45, 53, 46]
theorem itoa_m5 : Lib.itoa (-5) = [45, 53] := by
  rw [show (-5 : Int) = -((5 : Nat) : Int) from rfl, Lib.itoa_neg 5 (by omega), Lib.decDigits_one (by omega)]
  rfl
theorem num_m5 : numOf [45, 53] = some (-5) := by
  have h : Lib.atoiAll [45, 53] = .ok (-5) := by decide +kernel
  unfold numOf
  rw [h]
  simp only [itoa_m5, if_pos]
theorem tok_m5 : tokAt [45, 53, 46] = some ⟨3, [45, 53], -5⟩ := by
  have h1 : tokAt [45, 53, 46] = numTok [45, 53, 46] := rfl
  have h2 : numLen [45, 53, 46] = 2 := rfl
  have h3 : wordAt [45, 53, 46] 2 = false := rfl
  rw [h1]
  unfold numTok
  rw [h2, h3]
  simp only [Bool.false_eq_true, if_false, List.take_succ_cons, List.take_zero, num_m5]
theorem lex_step {p p' : Nat} {c : UInt8} {r rest : List UInt8} {t : Tok} {ys : List (Nat × Tok)} {b : Bool} (hb : blkI (c.toNat : Int) = false) (h : ((c.toNat : Int) == 37) = false) (ht : tokAt (c :: r) = some t)
    (hp : p + t.text.length = p') (hr : (c :: r).drop t.text.length = rest) (hX : lex false p' rest = (ys, b)) : lex false p (c :: r) = ((p, t) :: ys, b) := by
  subst hp hr
  rw [lex_tok p c r hb h t ht, hX]
theorem clause_10 : lex false 10 [46] = ([(10, ⟨4, [46], 0⟩)], true) := lex_step rfl rfl rfl rfl rfl (lex_nil false 11)
theorem clause_8 : lex false 8 [45, 53, 46] = ([(8, ⟨3, [45, 53], -5⟩), (10, ⟨4, [46], 0⟩)], true) := lex_step rfl rfl tok_m5 rfl rfl clause_10
theorem clause_7 : lex false 7 [61, 45, 53, 46] = ([(7, ⟨4, [61], 0⟩), (8, ⟨3, [45, 53], -5⟩), (10, ⟨4, [46], 0⟩)], true) := lex_step rfl rfl rfl rfl rfl clause_8
theorem clause_6 : lex false 6 [88, 61, 45, 53, 46] = ([(6, ⟨2, [88], 0⟩), (7, ⟨4, [61], 0⟩), (8, ⟨3, [45, 53], -5⟩), (10, ⟨4, [46], 0⟩)], true) := lex_step rfl rfl rfl rfl rfl clause_7
theorem clause_4 : lex false 4 [58, 45, 88, 61, 45, 53, 46] = ([(4, ⟨4, [58, 45], 0⟩), (6, ⟨2, [88], 0⟩), (7, ⟨4, [61], 0⟩), (8, ⟨3, [45, 53], -5⟩), (10, ⟨4, [46], 0⟩)], true) := lex_step rfl rfl rfl rfl rfl clause_6
theorem clause_3 : lex false 3 [41, 58, 45, 88, 61, 45, 53, 46] = ([(3, ⟨4, [41], 0⟩), (4, ⟨4, [58, 45], 0⟩), (6, ⟨2, [88], 0⟩), (7, ⟨4, [61], 0⟩), (8, ⟨3, [45, 53], -5⟩), (10, ⟨4, [46], 0⟩)], true) := lex_step rfl rfl rfl rfl rfl clause_4
theorem clause_2 : lex false 2 [88, 41, 58, 45, 88, 61, 45, 53, 46] = ([(2, ⟨2, [88], 0⟩), (3, ⟨4, [41], 0⟩), (4, ⟨4, [58, 45], 0⟩), (6, ⟨2, [88], 0⟩), (7, ⟨4, [61], 0⟩), (8, ⟨3, [45, 53], -5⟩), (10, ⟨4, [46], 0⟩)], true) := lex_step rfl rfl rfl rfl rfl clause_3
theorem clause_1 : lex false 1 [40, 88, 41, 58, 45, 88, 61, 45, 53, 46] = ([(1, ⟨4, [40], 0⟩), (2, ⟨2, [88], 0⟩), (3, ⟨4, [41], 0⟩), (4, ⟨4, [58, 45], 0⟩), (6, ⟨2, [88], 0⟩), (7, ⟨4, [61], 0⟩), (8, ⟨3, [45, 53], -5⟩), (10, ⟨4, [46], 0⟩)], true) := lex_step rfl rfl rfl rfl rfl clause_2
theorem clause_0 : lex false 0 [112, 40, 88, 41, 58, 45, 88, 61, 45, 53, 46] = ([(0, ⟨1, [112], 0⟩), (1, ⟨4, [40], 0⟩), (2, ⟨2, [88], 0⟩), (3, ⟨4, [41], 0⟩), (4, ⟨4, [58, 45], 0⟩), (6, ⟨2, [88], 0⟩), (7, ⟨4, [61], 0⟩), (8, ⟨3, [45, 53], -5⟩), (10, ⟨4, [46], 0⟩)], true) := lex_step rfl rfl rfl rfl rfl clause_1
theorem clause_lex : lex false 0 clause = ([(0, ⟨1, [112], 0⟩), (1, ⟨4, [40], 0⟩), (2, ⟨2, [88], 0⟩), (3, ⟨4, [41], 0⟩), (4, ⟨4, [58, 45], 0⟩), (6, ⟨2, [88], 0⟩), (7, ⟨4, [61], 0⟩), (8, ⟨3, [45, 53], -5⟩), (10, ⟨4, [46], 0⟩)], true) := clause_0

theorem alive_any (w : World) (hE : Env w) (el et : Value) (hR : Errs w el et) :
    Calls Tryd.prog 11 #[] w fun e w' => e = .returned (.bool true) ∧ Below w.heap.size w w' := by
  obtain ⟨e1, e2⟩ := toks_of clause_lex
  have hL := (lex_any ⟨#[112, 40, 88, 41, 58, 45, 88, 61, 45, 53, 46]⟩ w hE el et hR).mono (R' := fun e w' => ∃ g c, e = .returned (.tuple #[.slice (some ⟨g, 0, none⟩) 9 c, .nilIface]) ∧ Below w.heap.size w w' ∧ w'.cell? ⟨g, 13, none⟩ = some (.string ⟨#[58, 45]⟩) ∧ w'.cell? ⟨g, 23, none⟩ = some (.int .i64 (-5))) (by
    rintro e w' ⟨hb, h | h | h⟩
    · exact absurd h.1 (by decide)
    · exact absurd (h.2.1.symm.trans e2) (by decide)
    · obtain ⟨_, _, v, rfl, hown⟩ := h
      have e3 : toks (ByteArray.mk #[112, 40, 88, 41, 58, 45, 88, 61, 45, 53, 46]).data.toList = _ := e1
      rw [e3] at hown
      obtain ⟨g, c, rfl⟩ := ownsRow_succ hown
      exact ⟨g, c, rfl, hb, hown.cellAt 13 (by decide), hown.cellAt 23 (by decide)⟩)
  have HL := Lib.hid hL
  clear hL hE hR e1 e2
  go_enter Tryd.func11, Tryd.ntmps11
  go_wp2_with (go_at_call 12; refine HL.out.mono ?_; rintro e w1 ⟨g, c, rfl, hb1, hc1, hc2⟩)
  go_ret
  exact ⟨rfl, hb1⟩

end Lx
end Go.Proofs.YtdalldhgfdnaeaaDoor
