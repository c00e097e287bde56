/- A function that ranges over a function more than once leaves with several marks; a loop whose number of rounds is known, its invariant over the whole activation. No program stands in this text; no conditions. -/
import Derived.RangeFuncLeaves
import Derived.RangeFuncNested
import Derived.LoopNIn
import Derived.WalkKit
namespace Go.Proofs.YtdalldhgfdnaeaaDoor
namespace Lx
open Go Go.RowKit

variable {F : Fence} {n : Nat} {P : Program}

abbrev markOf (D : Nat) : Deferred := { target := .collected D, args := #[] }
/-- The world with these blocks shut. -/
def shut (w : World) : List Nat → World
  | [] => w
  | D :: ds => shut (w.putObj D (.deferred none)) ds
theorem leaves_marks {fn : Func} {tmps : Array Value} {R : Ending → World → Prop} : ∀ (ds : List Nat) (w : World), ds.Nodup → (∀ D ∈ ds, w.heap[D]? = some (.deferred (some []))) →
    LeavesIn F n P fn tmps R [] .returning (shut w ds) → LeavesInM F n P fn tmps R (ds.map markOf) .returning w
  | [], _, _, _, h => h
  | D :: ds, w, hn, hd, h => by
    have hn2 := List.nodup_cons.1 hn
    refine ⟨by simp, .inl ⟨D, _, rfl, run_takeDeferred (hd D (List.mem_cons_self ..)), ?_⟩⟩
    refine leaves_marks ds _ hn2.2 (fun E hE => ?_) h
    exact (World.putObj_heap_other (fun e => hn2.1 (by rw [← e]; exact hE))).trans (hd E (List.mem_cons_of_mem _ hE))
/-- What shutting these blocks leaves: all blocks of cells, and all that lay below them. -/
theorem shut_cell : ∀ (ds : List Nat) (w : World), ds.Nodup → (∀ D ∈ ds, w.heap[D]? = some (.deferred (some []))) → ∀ {a : Addr} {v : Value}, w.cell? a = some v → (shut w ds).cell? a = some v
  | [], _, _, _, _, _, h => h
  | D :: ds, w, hn, hd, a, v, h => by
    have hn2 := List.nodup_cons.1 hn
    refine shut_cell ds _ hn2.2 (fun E hE => (World.putObj_heap_other (fun e => hn2.1 (by rw [← e]; exact hE))).trans (hd E (List.mem_cons_of_mem _ hE))) ?_
    exact cell_kept h (grownBy_putObj' _ D (.deferred none)) (fun r e => by cases e; exact ⟨_, hd D (List.mem_cons_self ..), rfl⟩)
theorem shut_below {B : Nat} {w0 : World} : ∀ (ds : List Nat) (w : World), ds.Nodup → (∀ D ∈ ds, B ≤ D ∧ w.heap[D]? = some (.deferred (some []))) → Below B w0 w → B ≤ w.heap.size → Below B w0 (shut w ds)
  | [], _, _, _, h, _ => h
  | D :: ds, w, hn, hd, h, hB => by
    have hn2 := List.nodup_cons.1 hn
    refine shut_below ds _ hn2.2 (fun E hE => ⟨(hd E (List.mem_cons_of_mem _ hE)).1, (World.putObj_heap_other (fun e => hn2.1 (by rw [← e]; exact hE))).trans (hd E (List.mem_cons_of_mem _ hE)).2⟩) ?_ (by simpa using hB)
    exact h.grown (grownBy_putObj' w D (.deferred none)) hB (fun k e => by cases e; exact (hd D (List.mem_cons_self ..)).1)

/-- A loop of N rounds. -/
theorem loop_inv {Q : Exit → Act → World → Prop} {c : Code} {a : Act} {w : World} (N : Nat) (Inv : Nat → Act → World → Prop) (h0 : Inv 0 a w) (hs : ∀ k a w, k < N → Inv k a w → c.wpIn F n P (Exit.then (Inv (k + 1)) Q) a w)
    (he : ∀ a w, Inv N a w → c.wpIn F n P (Exit.then (fun _ _ => False) Q) a w) : (Code.loop c).wpIn F n P Q a w := by
  refine wpIn_loop_rounds (N + 1) ?_
  have key : ∀ m k a w, k + m = N → Inv k a w → Code.roundsIn F n P c Q (m + 1) a w := by
    intro m
    induction m with
    | zero =>
      intro k a w hk hi
      obtain rfl : k = N := by omega
      exact he a w hi
    | succ m ih =>
      intro k a w hk hi
      rw [roundsIn_succ]
      refine wpIn_mono (hs k a w (by omega) hi) ?_
      intro e a' w' hq
      cases e with
      | normal => exact ih (k + 1) a' w' (by omega) hq
      | ret => exact hq
      | exit id => exact hq
      | goto t => exact hq
      | panic ch => exact hq
      | outgrown => exact hq
  exact key N 0 a w (by omega) h0

end Lx
end Go.Proofs.YtdalldhgfdnaeaaDoor
