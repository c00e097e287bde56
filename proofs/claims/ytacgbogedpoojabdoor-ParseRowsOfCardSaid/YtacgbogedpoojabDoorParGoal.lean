/- How a goal is held in cells: its terms, its arguments and its goals in rows; and that a deeper count of rows holds it as well. No conditions. -/
import Derived.Test.YtacgbogedpoojabDoorParRowCo
namespace Go.Proofs.YtacgbogedpoojabDoor
namespace Lx
open Go Go.RowKit

theorem Items.imp {α : Type} {V V' : Holds α} (hVV : ∀ x v lo hi w, V x v lo hi w → V' x v lo hi w) {lo hi own : Nat} {w : World} : ∀ {l : List α} {vs : List Value}, Items V lo hi own w l vs → Items V' lo hi own w l vs
  | [], [], _ => trivial
  | _ :: _, _ :: _, ⟨⟨p, q, a1, a2, a3, a4⟩, a5⟩ => ⟨⟨p, q, a1, a2, a3, hVV _ _ _ _ _ a4⟩, Items.imp hVV a5⟩
  | [], _ :: _, h => h.elim
  | _ :: _, [], h => h.elim
theorem RowV.imp {α : Type} {t : TypeId} {sz : Nat} {V V' : Holds α} (hVV : ∀ x v lo hi w, V x v lo hi w → V' x v lo hi w) {l : List α} {v : Value} {lo hi : Nat} {w : World} (h : RowV t sz V l v lo hi w) : RowV t sz V' l v lo hi w := by
  obtain ⟨g, cap, vs, rfl, hg, hown, hit⟩ := h
  exact ⟨g, cap, vs, rfl, hg, hown, hit.imp hVV⟩
theorem ArgsV.imp {α : Type} {t : TypeId} {sz : Nat} {V V' : Holds α} (hVV : ∀ x v lo hi w, V x v lo hi w → V' x v lo hi w) {l : List α} {v : Value} {lo hi : Nat} {w : World} (h : ArgsV t sz V l v lo hi w) : ArgsV t sz V' l v lo hi w := by
  rcases h with h | h
  · exact .inl h
  · exact .inr (h.imp hVV)
theorem TermV.shape {d : Nat} {x : TermT} {v : Value} {lo hi : Nat} {w : World} (h : TermV d x v lo hi w) : ∃ p q z s n c, v = .agg #[.int .i64 p, .string q, .int .i64 z, .slice s n c] := TermV.this d _ _ _ _ _ h

def zeroT : TermT := .mk 0 [] 0 []
theorem zeroT_holds (lo hi : Nat) (w : World) : TermV 66 zeroT (.agg #[.int .i64 0, .string ⟨#[]⟩, .int .i64 0, .slice none 0 0]) lo hi w := ⟨_, rfl, .inl ⟨rfl, rfl⟩⟩

/-- A goal's cells, its goals so many rows deep. -/
def GoalV : Nat → Holds GoalT
  | 0 => fun _ _ _ _ _ => False
  | d + 1 => fun x v lo hi w => match x with
    | .mk k a b s l gs => ∃ x0 x1 x2 x3 y0 y1 y2 y3 va vg, v = .agg #[.int .i64 k, x0, x1, x2, x3, y0, y1, y2, y3, .string (bs s), va, vg] ∧ TermV 66 a (.agg #[x0, x1, x2, x3]) lo hi w ∧ TermV 66 b (.agg #[y0, y1, y2, y3]) lo hi w ∧ ArgsV 25 4 (TermV 66) l va lo hi w ∧ ArgsV 28 12 (GoalV d) gs vg lo hi w
theorem GoalV.wide : ∀ (d : Nat) (x : GoalT) (v : Value) (lo hi lo' hi' : Nat) (w : World), GoalV d x v lo hi w → lo' ≤ lo → hi ≤ hi' → GoalV d x v lo' hi' w
  | 0, _, _, _, _, _, _, _, h, _, _ => h.elim
  | _ + 1, ⟨_, _, _, _, _, _⟩, _, _, _, _, _, _, ⟨x0, x1, x2, x3, y0, y1, y2, y3, va, vg, hv, h1, h2, h3, h4⟩, e1, e2 =>
    ⟨x0, x1, x2, x3, y0, y1, y2, y3, va, vg, hv, TermV.wide _ _ _ _ _ _ _ _ h1 e1 e2, TermV.wide _ _ _ _ _ _ _ _ h2 e1 e2, h3.wide e1 e2, h4.wide e1 e2⟩
theorem GoalV.stable : ∀ d, Stable (GoalV d)
  | 0 => fun _ _ _ _ _ _ h _ => h.elim
  | d + 1 => by
    rintro ⟨k, a, b, s, l, gs⟩ v lo hi w w' ⟨x0, x1, x2, x3, y0, y1, y2, y3, va, vg, hv, h1, h2, h3, h4⟩ h
    exact ⟨x0, x1, x2, x3, y0, y1, y2, y3, va, vg, hv, TermV.stable 66 _ _ _ _ _ _ h1 h, TermV.stable 66 _ _ _ _ _ _ h2 h, ArgsV.stable _ _ (TermV.stable 66) _ _ _ _ _ _ h3 h, ArgsV.stable _ _ (GoalV.stable d) _ _ _ _ _ _ h4 h⟩
theorem GoalV.succ : ∀ (d : Nat) (x : GoalT) (v : Value) (lo hi : Nat) (w : World), GoalV d x v lo hi w → GoalV (d + 1) x v lo hi w
  | 0, _, _, _, _, _, h => h.elim
  | d + 1, ⟨_, _, _, _, _, _⟩, _, _, _, _, ⟨x0, x1, x2, x3, y0, y1, y2, y3, va, vg, hv, h1, h2, h3, h4⟩ =>
    ⟨x0, x1, x2, x3, y0, y1, y2, y3, va, vg, hv, h1, h2, h3, h4.imp (GoalV.succ d)⟩
theorem GoalV.this : ∀ d, ThisGo (GoalV d)
  | 0 => fun _ _ _ _ _ h => h.elim
  | d + 1 => by
    rintro ⟨k, a, b, s, l, gs⟩ v lo hi w ⟨x0, x1, x2, x3, y0, y1, y2, y3, va, vg, rfl, h1, h2, h3, h4⟩
    obtain ⟨p1, p2, p3, p4, p5, p6, e1⟩ := TermV.shape h1
    obtain ⟨q1, q2, q3, q4, q5, q6, e2⟩ := TermV.shape h2
    obtain ⟨r1, r2, r3, rfl⟩ := h3.slice
    obtain ⟨s1, s2, s3, rfl⟩ := h4.slice
    simp only [Value.agg.injEq, Array.mk.injEq, List.cons.injEq, and_true] at e1 e2
    obtain ⟨rfl, rfl, rfl, rfl⟩ := e1
    obtain ⟨rfl, rfl, rfl, rfl⟩ := e2
    exact ⟨_, _, _, _, _, _, _, _, _, _, _, _, _, _, _, _, _, _, _, _, rfl⟩

end Lx
end Go.Proofs.YtacgbogedpoojabDoor
