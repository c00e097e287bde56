/- A row of items grown by all of another row: what is appended, and that the row then holds the items of both. No conditions. -/
import Derived.Test.YtbbbbfglhphffaaDoorSameIts
import Derived.Test.YtbbbbfglhphffaaDoorItemC
import Derived.Laws.AppendOwnNone
import Derived.BigFrame
namespace Go.Proofs.YtbbbbfglhphffaaDoor
set_option linter.unusedSimpArgs false
set_option linter.unusedVariables false
namespace Lx
open Go Go.RowKit

/-- Each of these values holds its thing, in blocks from lo on, below hi. -/
def Each {α : Type} (V : Holds α) (lo hi : Nat) (w : World) : List α → List Value → Prop
  | [], [] => True
  | x :: l, v :: vs => (∃ p q, lo ≤ p ∧ q ≤ hi ∧ V x v p q w) ∧ Each V lo hi w l vs
  | _, _ => False
theorem Items.each {α : Type} {V : Holds α} {lo hi own : Nat} {w : World} : ∀ {l : List α} {vs : List Value}, Items V lo hi own w l vs → Each V lo hi w l vs
  | [], [], _ => trivial
  | _ :: _, _ :: _, ⟨⟨p, q, a1, a2, _, a4⟩, a5⟩ => ⟨⟨p, q, a1, a2, a4⟩, Items.each a5⟩
  | [], _ :: _, h => h.elim
  | _ :: _, [], h => h.elim
theorem Each.items {α : Type} {V : Holds α} {lo hi lo' hi' own : Nat} {w : World} (h1 : lo' ≤ lo) (h2 : hi ≤ hi') (ho : hi ≤ own) : ∀ {l : List α} {vs : List Value}, Each V lo hi w l vs → Items V lo' hi' own w l vs
  | [], [], _ => trivial
  | _ :: _, _ :: _, ⟨⟨p, q, a1, a2, a4⟩, a5⟩ => ⟨⟨p, q, by omega, by omega, by omega, a4⟩, Each.items h1 h2 ho a5⟩
  | [], _ :: _, h => h.elim
  | _ :: _, [], h => h.elim
theorem Each.app {α : Type} {V : Holds α} {lo hi : Nat} {w : World} {l2 : List α} {vs2 : List Value} (h2 : Each V lo hi w l2 vs2) : ∀ {l : List α} {vs : List Value}, Each V lo hi w l vs → Each V lo hi w (l ++ l2) (vs ++ vs2)
  | [], [], _ => h2
  | _ :: _, _ :: _, ⟨a4, a5⟩ => ⟨a4, Each.app h2 a5⟩
  | [], _ :: _, h => h.elim
  | _ :: _, [], h => h.elim
theorem Each.to {α : Type} {V : Holds α} (hV : Stable V) {lo hi lo' hi' : Nat} {w w' : World} (h1 : lo' ≤ lo) (h2 : hi ≤ hi') (hb : ∀ k, lo ≤ k → k < hi → w'.heap[k]? = w.heap[k]?) : ∀ {l : List α} {vs : List Value}, Each V lo hi w l vs → Each V lo' hi' w' l vs
  | [], [], _ => trivial
  | _ :: _, _ :: _, ⟨⟨p, q, a1, a2, a4⟩, a5⟩ => ⟨⟨p, q, by omega, by omega, hV _ _ _ _ _ _ a4 (fun k k1 k2 => hb k (by omega) (by omega))⟩, Each.to hV h1 h2 hb a5⟩
  | [], _ :: _, h => h.elim
  | _ :: _, [], h => h.elim
/-- The slice y has the cells us. -/
def HasRow (w : World) (y : Value) (m : Nat) (us : List Value) : Prop := (y = .slice none 0 0 ∧ m = 0 ∧ us = []) ∨ ∃ g c, y = .slice (some ⟨g, 0, none⟩) m c ∧ us.length = m * 20 ∧ g < w.heap.size ∧ ∀ j, j < m * 20 → w.cell? ⟨g, j, none⟩ = us[j]?
theorem ArgsV.hasRow {l : List ItemT} {v : Value} {lo hi : Nat} {w : World} (h : ArgsV 50 20 ItemV l v lo hi w) : ∃ vs, HasRow w v l.length (vs.flatMap cellsL) ∧ Each ItemV lo hi w l vs := by
  rcases h with ⟨rfl, rfl⟩ | ⟨g, cap, vs, rfl, _, hown, hit⟩
  · exact ⟨[], .inl ⟨rfl, rfl, rfl⟩, trivial⟩
  · exact ⟨vs, .inr ⟨g, cap, rfl, hown.1, (hown.lt g rfl).2, fun j hj => hown.cellAt j hj⟩, hit.each⟩
theorem HasRow.below {w w' : World} {y : Value} {m : Nat} {us : List Value} (h : HasRow w y m us) (hb : Below w.heap.size w w') : HasRow w' y m us := by
  rcases h with h | ⟨g, c, h1, h2, h3, h4⟩
  · exact .inl h
  · exact .inr ⟨g, c, h1, h2, Nat.lt_of_lt_of_le h3 hb.size, fun j hj => (hb.cell (p := ⟨g, j, none⟩) h3).trans (h4 j hj)⟩
theorem one_flat {lo hi : Nat} {w : World} : ∀ {l : List ItemT} {vs : List Value}, Each ItemV lo hi w l vs → ∀ u ∈ vs.flatMap cellsL, u.oneCell' = true
  | [], [], _, _, h => by simp at h
  | _ :: _, v :: vs, ⟨⟨p, q, _, _, a4⟩, a5⟩, u, h => by
    rw [List.flatMap_cons, List.mem_append] at h
    rcases h with h | h
    · obtain ⟨_, _, _, _, _, _, _, _, _, _, _, _, _, _, _, _, _, _, _, _, _, _, _, _, _, _, _, _, _, _, _, _, _, _, _, _, _, _, rfl⟩ := ItemV.this a4
      simp only [cellsL, Value.cells, List.mem_cons, List.not_mem_nil, or_false] at h
      rcases h with rfl | rfl | rfl | rfl | rfl | rfl | rfl | rfl | rfl | rfl | rfl | rfl | rfl | rfl | rfl | rfl | rfl | rfl | rfl | rfl <;> rfl
    · exact one_flat a5 u h
  | [], _ :: _, h, _, _ => h.elim
  | _ :: _, [], h, _, _ => h.elim
/-- 'append(own, y...)'. -/
theorem wpList_append_row {w : World} {ops : Array Oper} {rest : List Oper} {o : Oper} {a : Act} {Q : Exit → Act → World → Prop} (hw : Region.wanted o (yielded ops a.tmps) = true) (s x : Operand)
    (ho : o.op = .call { callee := .builtin .append, args := #[s, x], argTypes := #[23, 23] })
    (base : Nat) (v : Value) (n : Nat) (xs : List Value) (hs : a.eval s = v) (hown : w.ownsRow base 50 20 v n xs)
    (y : Value) (m : Nat) (us : List Value) (hx : a.eval x = y) (hy : HasRow w y m us) (h1 : ∀ u ∈ us, u.oneCell' = true) (hn : n + m ≤ 100000) (hbase : base ≤ w.heap.size)
    (h : ∀ v' w', w'.ownsRow base 50 20 v' (n + m) (xs ++ us) → w.grownBy w' v.ownBlock → wpList Tryd.prog ops Q rest (a.put o.dst v') w') : wpList Tryd.prog ops Q (o :: rest) a w := by
  obtain ⟨i0, hi, hz0, hz1, hz2⟩ := info_parts infoIt
  refine BigFrame.wpList_want hw fun K hK => ?_
  rcases hy with ⟨rfl, rfl, rfl⟩ | ⟨g, c, rfl, hl, hg, hc⟩
  · have hrun := run_append_owned_none (P := Tryd.prog) (w := w) base 23 o.type 50 i0 20 Tryd.underlying23 hi v n xs hown
    have h2 := hK _ _ (h v w (by simpa using hown) (World.grownBy.refl w _))
    unfold Oper.wp
    simp [execOp, ho, resolve, invoke, builtin, hs, hx, hrun, Result.andThen]
    exact h2
  · refine wp_append_own w s x 23 ho base 50 i0 _ 20 336 Tryd.underlying23 hi hz0 hz1 hz2 rfl (by decide) v n xs hs hown ⟨g, 0, none⟩ m c us hx hl ?_ h1
      (by unfold maxLen; omega) (by omega) hbase (fun v' w' h1 h2 _ => hK _ _ (h v' w' h1 h2))
    intro j u hu
    have hj : j < m * 20 := by
      rcases Nat.lt_or_ge j us.length with h | h
      · omega
      · rw [List.getElem?_eq_none h] at hu; cases hu
    have e : ((⟨g, 0, none⟩ : Addr).add j) = ⟨g, j, none⟩ := by
      by_cases h0 : j = 0
      · subst h0; rfl
      · simp [Addr.add, h0]
    rw [e, hc j hj, hu]
/-- A row of the call's own that has the cells of things that lie below it. -/
theorem argsV_of_own {l : List ItemT} {v : Value} {lo hi base : Nat} {w : World} {vs : List Value} (hown : w.ownsRow base 50 20 v l.length (vs.flatMap cellsL)) (he : Each ItemV lo hi w l vs) (h1 : hi ≤ base) (h2 : lo ≤ base) (h3 : hi ≤ w.heap.size) : ArgsV 50 20 ItemV l v lo w.heap.size w := by
  rcases hown.2 with ⟨rfl, h0⟩ | ⟨g, cap, cur, rfl, hb, hr⟩
  · exact .inl ⟨List.eq_nil_of_length_eq_zero h0, rfl⟩
  · have hlt := hown.lt g rfl
    exact .inr ⟨g, cap, vs, rfl, hlt.2, own_wide hown h2, he.items (Nat.le_refl _) h3 (by omega)⟩

end Lx
end Go.Proofs.YtbbbbfglhphffaaDoor
