/- The contract of package parse's whole at []api.Item: what a text comes to: the thing and no error, or no thing and one of the four errors. Conditions: the parser's block is new; the error variables hold what they should; strconv's table of powers of ten holds them. -/
import Derived.Test.YtacgbogedpoojabDoorParWholeS

namespace Go.Proofs.YtacgbogedpoojabDoor
namespace Lx
open Go Go.RowKit

set_option maxRecDepth 100000 in
set_option maxHeartbeats 2000000 in
/-- The deferred closure, behind a panic with a refusal: the result is the zero value, the error that of the refusal. -/
theorem catchIt (R E : Nat) (x0 y : Value) (a : Addr) (older : List PanicEntry) (w : World) (hR : w.heap[R]? = some (.cells #[x0] 38 (0, 0))) (hE : w.heap[E]? = some (.cells #[y] 30 (0, 0))) (hne : ¬ R = E) :
    CallsD Tryd.prog 32 #[.pointer (some ⟨R, 0, none⟩), .pointer (some ⟨E, 0, none⟩)] (.panicking ({ v := .iface 62 (.agg #[errP a]), recovered := false } :: older)) w fun e u' w' =>
      e = .returned (.tuple #[]) ∧ u' = .panicking ({ v := .iface 62 (.agg #[errP a]), recovered := true } :: older) ∧
      w'.heap[R]? = some (.cells #[.slice none 0 0] 38 (0, 0)) ∧ w'.heap[E]? = some (.cells #[errP a] 30 (0, 0)) ∧ Fr2 R E w w' := by
  have r0 : w.cell? ⟨R, 0, none⟩ = some x0 := (Lib.cell_of_heap hR 0).trans rfl
  have q0 := Lib.frozen_of_heap hR 0
  have e0 : w.cell? ⟨E, 0, none⟩ = some y := (Lib.cell_of_heap hE 0).trans rfl
  have f0 := Lib.frozen_of_heap hE 0
  have hRl : R < w.heap.size := (Array.getElem?_eq_some_iff.1 hR).1
  have hEl : E < w.heap.size := (Array.getElem?_eq_some_iff.1 hE).1
  have hn1 : ¬ w.heap.size = R := Nat.ne_of_gt hRl
  have hn2 : ¬ w.heap.size = E := Nat.ne_of_gt hEl
  have hn3 : ¬ R = w.heap.size := Nat.ne_of_lt hRl
  have hn4 : ¬ E = w.heap.size := Nat.ne_of_lt hEl
  have hne2 : ¬ E = R := fun e => hne e.symm
  have HR := Lib.hid hR
  have HE := Lib.hid hE
  clear hR hE
  refine callsD_of_wpS Tryd.func32 rfl fun c₀ cs hu => ?_
  apply wpS_seq
  apply wpS_region
  simp [wpOpsS, go_sem, recoverD, hu, Tryd.ntmps32, Exit.thenS]
  have hta : ∀ W : World, (Instr.typeAssert (.iface 62 (.agg #[errP a])) 20 62 true).run Tryd.prog W = .ok (.tuple #[.agg #[errP a], .bool true]) W := fun _ => by kernel_rfl
  refine wpS_of_wp ?_
  have HF := Lib.hid (fun o => fin2 (er := errP a) (zc := #[.slice none 0 0]) HR.out rfl HE.out hne o)
  go_wp2
  go_region
  all_goals go_wp2
  all_goals (cases c₀; simp [bodyPostS, results, Tryd.results32])
  all_goals exact ⟨(HF.out (.cells #[errP a] 62)).1, (HF.out (.cells #[errP a] 62)).2.1, (HF.out (.cells #[errP a] 62)).2.2.drew⟩


set_option maxRecDepth 100000 in
theorem idleIt (R E : Nat) (w : World) :
    CallsD Tryd.prog 32 #[.pointer (some ⟨R, 0, none⟩), .pointer (some ⟨E, 0, none⟩)] .returning w fun e u' w' => e = .returned (.tuple #[]) ∧ u' = .returning ∧ w' = w := by
  refine callsD_of_wpS Tryd.func32 rfl fun c₀ cs hu => ?_
  apply wpS_seq
  apply wpS_region
  simp [wpOpsS, go_sem, recoverD, hu, Tryd.ntmps32, Exit.thenS]
  refine wpS_of_wp ?_
  go_wp2
  cases c₀
  simp_all [bodyPostS, results, Tryd.results32]


end Lx
end Go.Proofs.YtacgbogedpoojabDoor
