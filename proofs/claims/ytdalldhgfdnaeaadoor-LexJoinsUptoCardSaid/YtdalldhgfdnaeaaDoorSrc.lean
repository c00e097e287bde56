/- Rows of tokens as sources: what a slice that holds tokens gives to append and to Same; Lex by how it ends. Conditions: as in the contract of Lex. -/
import Derived.Test.YtdalldhgfdnaeaaDoorAlive
import Derived.Test.YtdalldhgfdnaeaaDoorSame
import Derived.Test.YtdalldhgfdnaeaaDoorPlainParts
import Derived.Laws.AppendOwnNone
import Derived.BigFrame
namespace Go.Proofs.YtdalldhgfdnaeaaDoor
namespace Lx
open Go Go.RowKit

/-- The slice v holds the tokens us, in blocks below B. -/
def Src (w : World) (B : Nat) (v : Value) (us : List Tok) : Prop :=
  (v = .slice none 0 0 ∧ us = []) ∨ ∃ g c, v = .slice (some ⟨g, 0, none⟩) us.length c ∧ g < B ∧ ∀ j, j < 3 * us.length → w.cell? ⟨g, j, none⟩ = (cellsT us)[j]?

theorem Src.of_own {w : World} {base : Nat} {v : Value} {us : List Tok} (h : w.ownsRow base 40 3 v us.length (cellsT us)) : Src w w.heap.size v us := by
  have h' := h
  rcases h.2 with ⟨rfl, h0⟩ | ⟨g, cap, cur, rfl, _⟩
  · exact .inl ⟨rfl, List.eq_nil_of_length_eq_zero h0⟩
  · exact .inr ⟨g, cap, rfl, (h'.lt g rfl).2, fun j hj => h'.cellAt j (by omega)⟩
theorem Src.below {w w' : World} {B : Nat} {v : Value} {us : List Tok} (h : Src w B v us) (hb : Below B w w') : Src w' B v us := by
  rcases h with h | ⟨g, c, hv, hg, hc⟩
  · exact .inl h
  · exact .inr ⟨g, c, hv, hg, fun j hj => (hb.cell (p := ⟨g, j, none⟩) hg).trans (hc j hj)⟩
theorem Src.mono {w : World} {B B' : Nat} {v : Value} {us : List Tok} (h : Src w B v us) (hB : B ≤ B') : Src w B' v us := by
  rcases h with h | ⟨g, c, hv, hg, hc⟩
  · exact .inl h
  · exact .inr ⟨g, c, hv, by omega, hc⟩
theorem Src.shape {w : World} {B : Nat} {v : Value} {us : List Tok} (h : Src w B v us) : ∃ A c, v = .slice A us.length c ∧ RowT w A us := by
  rcases h with ⟨rfl, rfl⟩ | ⟨g, c, rfl, _, hc⟩
  · exact ⟨_, _, rfl, fun h => absurd rfl h⟩
  · exact ⟨_, _, rfl, fun _ => ⟨g, rfl, hc⟩⟩

theorem Src.rowT {w : World} {B n c : Nat} {A : Option Addr} {us : List Tok} (h : Src w B (.slice A n c) us) : RowT w A us := by
  rcases h with ⟨_, rfl⟩ | ⟨g, c', hv, _, hc⟩
  · exact fun h => absurd rfl h
  · injection hv with hA _ _
    subst hA
    exact fun _ => ⟨g, rfl, hc⟩

theorem oneCell_cellsT (us : List Tok) : ∀ u ∈ cellsT us, u.oneCell' = true := by
  intro u hu
  unfold cellsT at hu
  rw [List.mem_flatMap] at hu
  obtain ⟨t, _, hu⟩ := hu
  simp only [List.mem_cons, List.not_mem_nil, or_false] at hu
  rcases hu with rfl | rfl | rfl <;> rfl

/-- 'append(own, us...)'. -/
theorem wpList_append_src {w : World} {ops : Array Oper} {rest : List Oper} {o : Oper} {a : Act} {Q : Exit → Act → World → Prop} (hw : Region.wanted o (yielded ops a.tmps) = true) (s x : Operand)
    (ho : o.op = .call { callee := .builtin .append, args := #[s, x], argTypes := #[23, 23] })
    (base : Nat) (v : Value) (n : Nat) (xs : List Value) (hs : a.eval s = v) (hown : w.ownsRow base 40 3 v n xs)
    (B : Nat) (y : Value) (us : List Tok) (hx : a.eval x = y) (hy : Src w B y us) (hn : n + us.length ≤ 1000000) (hbase : base ≤ w.heap.size)
    (h : ∀ v' w', w'.ownsRow base 40 3 v' (n + us.length) (xs ++ cellsT us) → w.grownBy w' v.ownBlock → wpList Tryd.prog ops Q rest (a.put o.dst v') w') : wpList Tryd.prog ops Q (o :: rest) a w := by
  obtain ⟨i0, hi, hz0, hz1, hz2⟩ := info_parts infoTok
  refine BigFrame.wpList_want hw fun K hK => ?_
  rcases hy with ⟨rfl, rfl⟩ | ⟨g, c, rfl, hg, hc⟩
  · have hrun := run_append_owned_none (P := Tryd.prog) (w := w) base 23 o.type 40 i0 3 Tryd.underlying23 hi v n xs hown
    have h1 := hK _ _ (h v w (by simpa [cellsT] using hown) (World.grownBy.refl w _))
    unfold Oper.wp
    simp [execOp, ho, resolve, invoke, builtin, hs, hx, hrun, Result.andThen]
    exact h1
  · refine wp_append_own w s x 23 ho base 40 i0 noTok 3 32 Tryd.underlying23 hi hz0 hz1 hz2 rfl (by decide) v n xs hs hown ⟨g, 0, none⟩ us.length c (cellsT us) hx (by rw [cellsT_length]; omega) ?_ (oneCell_cellsT us)
      (by unfold maxLen; omega) (by omega) hbase (fun v' w' h1 h2 _ => hK _ _ (h v' w' h1 h2))
    intro j u hu
    have hj : j < 3 * us.length := by
      rcases Nat.lt_or_ge j (cellsT us).length with h | h
      · rwa [cellsT_length] at h
      · rw [List.getElem?_eq_none h] at hu; cases hu
    have e : ((⟨g, 0, none⟩ : Addr).add j) = ⟨g, j, none⟩ := by
      by_cases h0 : j = 0
      · subst h0; rfl
      · simp [Addr.add, h0]
    rw [e, hc j hj, hu]

/-! ### Lex by how it ends -/
def good (s : ByteArray) : Bool := decide (s.size ≤ 16384) && whole s.data.toList

theorem lex_good (s : ByteArray) (h : good s = true) (w : World) (hE : Env w) (el et : Value) (hR : Errs w el et) :
    Calls Tryd.prog 12 #[.string s] w fun e w' => ∃ v, e = .returned (.tuple #[v, .nilIface]) ∧ Below w.heap.size w w' ∧ w'.ownsRow w.heap.size 40 3 v (toks s.data.toList).length (cellsT (toks s.data.toList)) := by
  simp only [good, Bool.and_eq_true, decide_eq_true_eq] at h
  refine (lex_any s w hE el et hR).mono ?_
  rintro e w' ⟨hb, h1 | h1 | h1⟩
  · exact absurd h1.1 (by omega)
  · exact absurd (h1.2.1.symm.trans h.2) (by decide)
  · obtain ⟨_, _, v, he, ho⟩ := h1
    exact ⟨v, he, hb, ho⟩
theorem lex_bad' (s : ByteArray) (h : good s = false) (w : World) (hE : Env w) (el et : Value) (hR : Errs w el et) :
    Calls Tryd.prog 12 #[.string s] w fun e w' => ∃ tp p, e = .returned (.tuple #[.slice none 0 0, .iface tp p]) ∧ Below w.heap.size w w' := by
  obtain ⟨tl, pl, h3⟩ := hR.islarge
  obtain ⟨tt, pt, h4⟩ := hR.istext
  refine (lex_any s w hE el et hR).mono ?_
  rintro e w' ⟨hb, h1 | h1 | h1⟩
  · exact ⟨tl, pl, by rw [h1.2, h3], hb⟩
  · exact ⟨tt, pt, by rw [h1.2.2, h4], hb⟩
  · simp only [good, Bool.and_eq_false_iff, decide_eq_false_iff_not] at h
    rcases h with h | h
    · exact absurd h1.1 h
    · rw [h] at h1; exact absurd h1.2.1 (by decide)

theorem Errs.below {w w' : World} {el et : Value} (h : Errs w el et) (hs : 22 ≤ w.heap.size) (hb : Below w.heap.size w w') : Errs w' el et :=
  ⟨(hb.cell (p := ⟨0, 0, none⟩) (by simp; omega)).trans h.large, (hb.cell (p := ⟨1, 0, none⟩) (by simp; omega)).trans h.text, h.islarge, h.istext⟩

end Lx
end Go.Proofs.YtdalldhgfdnaeaaDoor
