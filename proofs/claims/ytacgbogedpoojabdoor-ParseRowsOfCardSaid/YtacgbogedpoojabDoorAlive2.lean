/- The contract of the statements' 'alive' (the chapter's first example): it returns true. Conditions: the error variables hold what they should; strconv's table of powers of ten holds them. -/
import Derived.Test.YtacgbogedpoojabDoorParText
namespace Go.Proofs.YtacgbogedpoojabDoor
namespace Lx
open Go Go.RowKit

theorem itoa_1 : Lib.itoa 1 = [49] := by
  rw [show (1 : Int) = ((1 : Nat) : Int) from rfl, Lib.itoa_nonneg 1, Lib.decDigits_one (by omega)]
  rfl
theorem num_1 : numOf [49] = some 1 := by
  have h : Lib.atoiAll [49] = .ok 1 := by decide +kernel
  unfold numOf
  rw [h]
  simp only [itoa_1, if_pos]
theorem tok_1 (r : List UInt8) (hr : r = [32, 59, 32, 113, 44, 32, 114, 46]) : tokAt (49 :: r) = some ⟨3, [49], 1⟩ := by
  subst hr
  have h1 : tokAt [49, 32, 59, 32, 113, 44, 32, 114, 46] = numTok [49, 32, 59, 32, 113, 44, 32, 114, 46] := rfl
  have h2 : numLen [49, 32, 59, 32, 113, 44, 32, 114, 46] = 1 := rfl
  have h3 : wordAt [49, 32, 59, 32, 113, 44, 32, 114, 46] 1 = false := rfl
  rw [h1]
  unfold numTok
  rw [h2, h3]
  simp only [Bool.false_eq_true, if_false, List.take_succ_cons, List.take_zero, num_1]
theorem lex_step {p p' : Nat} {c : UInt8} {r rest : List UInt8} {t : Tok} {ys : List (Nat × Tok)} {b : Bool} (hb : blkI (c.toNat : Int) = false) (h : ((c.toNat : Int) == 37) = false) (ht : tokAt (c :: r) = some t)
    (hp : p + t.text.length = p') (hr : (c :: r).drop t.text.length = rest) (hX : lex false p' rest = (ys, b)) : lex false p (c :: r) = ((p, t) :: ys, b) := by
  subst hp hr
  rw [lex_tok p c r hb h t ht, hX]
theorem lex_gap {p : Nat} {c : UInt8} {r : List UInt8} {x : List (Nat × Tok) × Bool} (hb : blkI (c.toNat : Int) = true) (hX : lex false (p + 1) r = x) : lex false p (c :: r) = x := (lex_blk p c r hb).trans hX
theorem al_21 : lex false 21 [] = ([], true) := lex_nil false 21
theorem al_20 : lex false 20 [46] = ([(20, ⟨4, [46], 0⟩)], true) := lex_step rfl rfl rfl rfl rfl al_21
theorem al_19 : lex false 19 [114, 46] = ([(19, ⟨1, [114], 0⟩), (20, ⟨4, [46], 0⟩)], true) := lex_step rfl rfl rfl rfl rfl al_20
theorem al_18 : lex false 18 [32, 114, 46] = ([(19, ⟨1, [114], 0⟩), (20, ⟨4, [46], 0⟩)], true) := lex_gap rfl al_19
theorem al_17 : lex false 17 [44, 32, 114, 46] = ([(17, ⟨4, [44], 0⟩), (19, ⟨1, [114], 0⟩), (20, ⟨4, [46], 0⟩)], true) := lex_step rfl rfl rfl rfl rfl al_18
theorem al_16 : lex false 16 [113, 44, 32, 114, 46] = ([(16, ⟨1, [113], 0⟩), (17, ⟨4, [44], 0⟩), (19, ⟨1, [114], 0⟩), (20, ⟨4, [46], 0⟩)], true) := lex_step rfl rfl rfl rfl rfl al_17
theorem al_15 : lex false 15 [32, 113, 44, 32, 114, 46] = ([(16, ⟨1, [113], 0⟩), (17, ⟨4, [44], 0⟩), (19, ⟨1, [114], 0⟩), (20, ⟨4, [46], 0⟩)], true) := lex_gap rfl al_16
theorem al_14 : lex false 14 [59, 32, 113, 44, 32, 114, 46] = ([(14, ⟨4, [59], 0⟩), (16, ⟨1, [113], 0⟩), (17, ⟨4, [44], 0⟩), (19, ⟨1, [114], 0⟩), (20, ⟨4, [46], 0⟩)], true) := lex_step rfl rfl rfl rfl rfl al_15
theorem al_13 : lex false 13 [32, 59, 32, 113, 44, 32, 114, 46] = ([(14, ⟨4, [59], 0⟩), (16, ⟨1, [113], 0⟩), (17, ⟨4, [44], 0⟩), (19, ⟨1, [114], 0⟩), (20, ⟨4, [46], 0⟩)], true) := lex_gap rfl al_14
theorem al_12 : lex false 12 [49, 32, 59, 32, 113, 44, 32, 114, 46] = ([(12, ⟨3, [49], 1⟩), (14, ⟨4, [59], 0⟩), (16, ⟨1, [113], 0⟩), (17, ⟨4, [44], 0⟩), (19, ⟨1, [114], 0⟩), (20, ⟨4, [46], 0⟩)], true) := lex_step rfl rfl (tok_1 _ rfl) rfl rfl al_13
theorem al_11 : lex false 11 [32, 49, 32, 59, 32, 113, 44, 32, 114, 46] = ([(12, ⟨3, [49], 1⟩), (14, ⟨4, [59], 0⟩), (16, ⟨1, [113], 0⟩), (17, ⟨4, [44], 0⟩), (19, ⟨1, [114], 0⟩), (20, ⟨4, [46], 0⟩)], true) := lex_gap rfl al_12
theorem al_10 : lex false 10 [61, 32, 49, 32, 59, 32, 113, 44, 32, 114, 46] = ([(10, ⟨4, [61], 0⟩), (12, ⟨3, [49], 1⟩), (14, ⟨4, [59], 0⟩), (16, ⟨1, [113], 0⟩), (17, ⟨4, [44], 0⟩), (19, ⟨1, [114], 0⟩), (20, ⟨4, [46], 0⟩)], true) := lex_step rfl rfl rfl rfl rfl al_11
theorem al_9 : lex false 9 [32, 61, 32, 49, 32, 59, 32, 113, 44, 32, 114, 46] = ([(10, ⟨4, [61], 0⟩), (12, ⟨3, [49], 1⟩), (14, ⟨4, [59], 0⟩), (16, ⟨1, [113], 0⟩), (17, ⟨4, [44], 0⟩), (19, ⟨1, [114], 0⟩), (20, ⟨4, [46], 0⟩)], true) := lex_gap rfl al_10
theorem al_8 : lex false 8 [88, 32, 61, 32, 49, 32, 59, 32, 113, 44, 32, 114, 46] = ([(8, ⟨2, [88], 0⟩), (10, ⟨4, [61], 0⟩), (12, ⟨3, [49], 1⟩), (14, ⟨4, [59], 0⟩), (16, ⟨1, [113], 0⟩), (17, ⟨4, [44], 0⟩), (19, ⟨1, [114], 0⟩), (20, ⟨4, [46], 0⟩)], true) := lex_step rfl rfl rfl rfl rfl al_9
theorem al_7 : lex false 7 [32, 88, 32, 61, 32, 49, 32, 59, 32, 113, 44, 32, 114, 46] = ([(8, ⟨2, [88], 0⟩), (10, ⟨4, [61], 0⟩), (12, ⟨3, [49], 1⟩), (14, ⟨4, [59], 0⟩), (16, ⟨1, [113], 0⟩), (17, ⟨4, [44], 0⟩), (19, ⟨1, [114], 0⟩), (20, ⟨4, [46], 0⟩)], true) := lex_gap rfl al_8
theorem al_5 : lex false 5 [58, 45, 32, 88, 32, 61, 32, 49, 32, 59, 32, 113, 44, 32, 114, 46] = ([(5, ⟨4, [58, 45], 0⟩), (8, ⟨2, [88], 0⟩), (10, ⟨4, [61], 0⟩), (12, ⟨3, [49], 1⟩), (14, ⟨4, [59], 0⟩), (16, ⟨1, [113], 0⟩), (17, ⟨4, [44], 0⟩), (19, ⟨1, [114], 0⟩), (20, ⟨4, [46], 0⟩)], true) := lex_step rfl rfl rfl rfl rfl al_7
theorem al_4 : lex false 4 [32, 58, 45, 32, 88, 32, 61, 32, 49, 32, 59, 32, 113, 44, 32, 114, 46] = ([(5, ⟨4, [58, 45], 0⟩), (8, ⟨2, [88], 0⟩), (10, ⟨4, [61], 0⟩), (12, ⟨3, [49], 1⟩), (14, ⟨4, [59], 0⟩), (16, ⟨1, [113], 0⟩), (17, ⟨4, [44], 0⟩), (19, ⟨1, [114], 0⟩), (20, ⟨4, [46], 0⟩)], true) := lex_gap rfl al_5
theorem al_3 : lex false 3 [41, 32, 58, 45, 32, 88, 32, 61, 32, 49, 32, 59, 32, 113, 44, 32, 114, 46] = ([(3, ⟨4, [41], 0⟩), (5, ⟨4, [58, 45], 0⟩), (8, ⟨2, [88], 0⟩), (10, ⟨4, [61], 0⟩), (12, ⟨3, [49], 1⟩), (14, ⟨4, [59], 0⟩), (16, ⟨1, [113], 0⟩), (17, ⟨4, [44], 0⟩), (19, ⟨1, [114], 0⟩), (20, ⟨4, [46], 0⟩)], true) := lex_step rfl rfl rfl rfl rfl al_4
theorem al_2 : lex false 2 [88, 41, 32, 58, 45, 32, 88, 32, 61, 32, 49, 32, 59, 32, 113, 44, 32, 114, 46] = ([(2, ⟨2, [88], 0⟩), (3, ⟨4, [41], 0⟩), (5, ⟨4, [58, 45], 0⟩), (8, ⟨2, [88], 0⟩), (10, ⟨4, [61], 0⟩), (12, ⟨3, [49], 1⟩), (14, ⟨4, [59], 0⟩), (16, ⟨1, [113], 0⟩), (17, ⟨4, [44], 0⟩), (19, ⟨1, [114], 0⟩), (20, ⟨4, [46], 0⟩)], true) := lex_step rfl rfl rfl rfl rfl al_3
theorem al_1 : lex false 1 [40, 88, 41, 32, 58, 45, 32, 88, 32, 61, 32, 49, 32, 59, 32, 113, 44, 32, 114, 46] = ([(1, ⟨4, [40], 0⟩), (2, ⟨2, [88], 0⟩), (3, ⟨4, [41], 0⟩), (5, ⟨4, [58, 45], 0⟩), (8, ⟨2, [88], 0⟩), (10, ⟨4, [61], 0⟩), (12, ⟨3, [49], 1⟩), (14, ⟨4, [59], 0⟩), (16, ⟨1, [113], 0⟩), (17, ⟨4, [44], 0⟩), (19, ⟨1, [114], 0⟩), (20, ⟨4, [46], 0⟩)], true) := lex_step rfl rfl rfl rfl rfl al_2
theorem al_0 : lex false 0 [112, 40, 88, 41, 32, 58, 45, 32, 88, 32, 61, 32, 49, 32, 59, 32, 113, 44, 32, 114, 46] = ([(0, ⟨1, [112], 0⟩), (1, ⟨4, [40], 0⟩), (2, ⟨2, [88], 0⟩), (3, ⟨4, [41], 0⟩), (5, ⟨4, [58, 45], 0⟩), (8, ⟨2, [88], 0⟩), (10, ⟨4, [61], 0⟩), (12, ⟨3, [49], 1⟩), (14, ⟨4, [59], 0⟩), (16, ⟨1, [113], 0⟩), (17, ⟨4, [44], 0⟩), (19, ⟨1, [114], 0⟩), (20, ⟨4, [46], 0⟩)], true) := lex_step rfl rfl rfl rfl rfl al_1

def aliveT : List Tok := [⟨1, [112], 0⟩, ⟨4, [40], 0⟩, ⟨2, [88], 0⟩, ⟨4, [41], 0⟩, ⟨4, [58, 45], 0⟩, ⟨2, [88], 0⟩, ⟨4, [61], 0⟩, ⟨3, [49], 1⟩, ⟨4, [59], 0⟩, ⟨1, [113], 0⟩, ⟨4, [44], 0⟩, ⟨1, [114], 0⟩, ⟨4, [46], 0⟩]
def aliveI : ItemT := ⟨4, [112], [], [], [], [], 0, [.mk 1 [88] 0 []], .mk 6 zeroT zeroT [] [] [.mk 3 (.mk 1 [88] 0 []) (.mk 2 [] 1 []) [] [] [], .mk 5 zeroT zeroT [] [] [.mk 4 zeroT zeroT [113] [] [], .mk 4 zeroT zeroT [114] [] []]]⟩
set_option maxRecDepth 100000 in
theorem alive_src : sourceO aliveT 0 0 = .ok [aliveI] 13 := by kernel_rfl
theorem alive_text : textO (fun ts => sourceO ts 0 0) ⟨#[112, 40, 88, 41, 32, 58, 45, 32, 88, 32, 61, 32, 49, 32, 59, 32, 113, 44, 32, 114, 46]⟩ = .ok [aliveI] 13 := by
  obtain ⟨e1, e2⟩ := toks_of al_0
  have e3 : toks (ByteArray.mk #[112, 40, 88, 41, 32, 58, 45, 32, 88, 32, 61, 32, 49, 32, 59, 32, 113, 44, 32, 114, 46]).data.toList = aliveT := e1
  rw [textO_good _ (by decide) e2, e3]
  show endO aliveT.length (sourceO aliveT 0 0) = _
  rw [alive_src]
  rfl

theorem GoalV.parts {d : Nat} {k : Int} {a b : TermT} {s : List UInt8} {l : List TermT} {gs : List GoalT} {v : Value} {lo hi : Nat} {w : World} (h : GoalV (d + 1) (.mk k a b s l gs) v lo hi w) :
    ∃ x0 x1 x2 x3 y0 y1 y2 y3 va vg, v = .agg #[.int .i64 k, x0, x1, x2, x3, y0, y1, y2, y3, .string (bs s), va, vg] ∧ ArgsV 28 12 (GoalV d) gs vg lo hi w := by
  obtain ⟨x0, x1, x2, x3, y0, y1, y2, y3, va, vg, hv, _, _, _, h4⟩ := h
  exact ⟨x0, x1, x2, x3, y0, y1, y2, y3, va, vg, hv, h4⟩
/-- What alive looks at. -/
theorem goal_cells {it : ItemT} {a b a2 b2 : TermT} {s s2 : List UInt8} {l l2 : List TermT} {g1 : GoalT} {gs2 : List GoalT} (hb : it.body = .mk 6 a b s l [g1, .mk 5 a2 b2 s2 l2 gs2]) {w : World} {v : Value} {lo hi : Nat} (h : ArgsV 46 20 ItemV [it] v lo hi w) :
    ∃ g cap g2 cap2, v = .slice (some ⟨g, 0, none⟩) 1 cap ∧ w.cell? ⟨g, 8, none⟩ = some (.int .i64 6) ∧ w.cell? ⟨g, 19, none⟩ = some (.slice (some ⟨g2, 0, none⟩) 2 cap2) ∧ w.cell? ⟨g2, 12, none⟩ = some (.int .i64 5) := by
  rcases h with ⟨h, _⟩ | ⟨g, cap, vs, rfl, _, hown, hit⟩
  · exact absurd h (by simp)
  match vs, hit with
  | [v1], ⟨⟨p, q, _, _, _, hv⟩, _⟩ =>
    obtain ⟨vv, vc, vt, vi, va, b0, b1, b2, b3, b4, b5, b6, b7, b8, b9, b10, b11, rfl, _, _, _, _, _, hg⟩ := hv
    rw [hb] at hg
    obtain ⟨x0, x1, x2, x3, y0, y1, y2, y3, wa, wg, hz, hgs⟩ := GoalV.parts (d := 133) hg
    simp only [Value.agg.injEq, Array.mk.injEq, List.cons.injEq, and_true] at hz
    obtain ⟨rfl, rfl, rfl, rfl, rfl, rfl, rfl, rfl, rfl, rfl, rfl, rfl⟩ := hz
    rcases hgs with ⟨h, _⟩ | ⟨g2, cap2, vs2, rfl, _, hown2, hit2⟩
    · exact absurd h (by simp)
    match vs2, hit2 with
    | [u1, u2], ⟨⟨_, _, _, _, _, hu1⟩, ⟨_, _, _, _, _, hu2⟩, _⟩ =>
      obtain ⟨_, _, _, _, _, _, _, _, _, _, _, _, _, _, _, _, _, _, _, _, rfl⟩ := GoalV.this _ _ _ _ _ _ hu1
      obtain ⟨_, _, _, _, _, _, _, _, _, _, rfl, _⟩ := GoalV.parts (d := 132) hu2
      exact ⟨g, cap, g2, cap2, rfl, hown.cellAt 8 (show 8 < 20 by decide), hown.cellAt 19 (show 19 < 20 by decide), hown2.cellAt 12 (show 12 < 24 by decide)⟩

set_option maxRecDepth 100000 in
set_option maxHeartbeats 1000000 in
theorem alive_any (w : World) (hE : Env w) (f : Nat → Addr) (h4 : Errs4 w f) :
    Calls Tryd.prog 6 #[] w fun e w' => e = .returned (.bool true) ∧ Below w.heap.size w w' := by
  have hL := textIt_any ⟨#[112, 40, 88, 41, 32, 58, 45, 32, 88, 32, 61, 32, 49, 32, 59, 32, 113, 44, 32, 114, 46]⟩ w hE f h4
  rw [alive_text] at hL
  have HL := Lib.hid hL
  clear hL hE h4
  go_enter Tryd.func6, Tryd.ntmps6
  go_wp2_with fail
  go_at_call 10
  refine HL.out.mono ?_
  rintro e w1 ⟨v, er, rfl, hb1, rfl, hv⟩
  obtain ⟨g, cap, g2, cap2, rfl, c8, c19, c12⟩ := goal_cells rfl hv
  clear hv
  go_wp2_with fail
  go_ret
  exact ⟨rfl, hb1⟩

end Lx
end Go.Proofs.YtacgbogedpoojabDoor
