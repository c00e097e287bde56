/- In a round of a range over a function: a region that draws its order and only reads is walked once, in the order of the text. No program stands in this text; conditions: the region makes no deferred call. -/
import Derived.Sort.QuietIn
import Derived.RangeFuncCalls
namespace Go.Proofs.YtdalldhgfdnaeaaDoor
namespace Lx
open Go

variable {F : Fence} {n : Nat} {P : Program}

theorem upon_round {o : Oper} {a : Act} {next : Act → World → Prop} {Q : Exit → Act → World → Prop} (l : Nat) : ∀ r, Oper.uponIn F n P o a next Q r → Oper.uponIn (F.inRound l) n P o a next Q r := by
  intro r h
  cases r with
  | ok x w' => cases x <;> exact h
  | halt x w' => cases x <;> exact h

def noDefer (ops : List Oper) : Bool := ops.all fun o => match o.op with
  | .defer _ => false
  | _ => true
theorem noDefer_at {ops : List Oper} (h : noDefer ops = true) {i : Nat} {o : Oper} (ho : ops.toArray[i]? = some o) : ∀ c, o.op ≠ .defer c := by
  intro c hc
  have hm : o ∈ ops := by simpa using Array.mem_of_getElem? ho
  have h1 := List.all_eq_true.1 h o hm
  rw [hc] at h1
  cases h1

theorem wpOp_round {ops : List Oper} (hnd : noDefer ops = true) (hro : F.round = none) {Q : Exit → Act → World → Prop} (l : Nat) {i : Nat} {K K' : Act → World → Prop} (hK : ∀ a w, K a w → K' a w) {a : Act} {w : World}
    (h : wpOpIn F n P ops.toArray Q i K a w) : wpOpIn (F.inRound l) n P ops.toArray Q i K' a w := by
  refine wpOpIn_mono hK ?_
  unfold wpOpIn at *
  cases ho : ops.toArray[i]? with
  | none => simp only [ho] at h ⊢; exact h
  | some o =>
    simp only [ho] at h ⊢
    split
    · rename_i hw
      rw [if_pos hw] at h
      refine ⟨h.1, upon_round l _ ?_⟩
      have h2 := h.2
      rw [hro, Oper.semAt_none] at h2
      rw [Fence.inRound_round, Oper.semAt_some l _ _ (noDefer_at hnd ho)]
      exact h2
    · rename_i hw
      rw [if_neg hw] at h
      exact h
theorem wpAny_round {ops : List Oper} (hnd : noDefer ops = true) (hro : F.round = none) {Q : Exit → Act → World → Prop} (l : Nat) {md : Region.Mode} : ∀ (fuel : Nat) (listed : Array Bool) (a : Act) (w : World), wpAnyIn F n P md ops.toArray Q fuel listed a w → wpAnyIn (F.inRound l) n P md ops.toArray Q fuel listed a w
  | 0, _, _, _, h => h
  | fuel + 1, _, _, _, h => ⟨h.1, fun i hi => wpOp_round hnd hro l (fun a w h => wpAny_round hnd hro l fuel _ a w h) (h.2 i hi)⟩

theorem wpIn_quiet_round {id l : Nat} {Q : Exit → Act → World → Prop} {a : Act} {w : World} {ops : List Oper} (hro : F.round = none) (hnd : noDefer ops = true) (hm : P.follows .mixedOrders = true) (hB : Region.lexB .any ops.toArray = true)
    (h : wpQuietIn F n P ops.toArray (fun w' => ∃ n, w' = w.drewN n) (fun a' => ∀ w', (∃ n, w' = w.drewN n) → Q .normal a' w') ops a) : (Code.region id ops.toArray true).wpIn (F.inRound l) n P Q a w := by
  refine wpIn_region_any hm (wpAny_round hnd hro l _ _ _ _ ?_)
  simp only [Region.lexB, Bool.and_eq_true] at hB
  refine wpAnyIn_of_quiet (C := fun w' => ∃ n, w' = w.drewN n) (Q := fun a' => ∀ w', (∃ n, w' = w.drewN n) → Q .normal a' w') hro (fun _ w' hw' h => h w' hw') _ _ _ _ ⟨1, rfl⟩ ?_
  have := wpAnyQIn_lex (F := F) (n := n) (C := fun w' => ∃ n, w' = w.drewN n) (md := .any) hB.1 ops 0 (Array.replicate ops.toArray.size false) a (by simp) (by simpa using hB.2) h
  simpa using this

end Lx
end Go.Proofs.YtdalldhgfdnaeaaDoor
