/- The contract of package parse's prim, guarded and unifyOrCall: what a goal is where the grammar has a prim, held in cells; or the panic. Conditions: the parser's block is its own; at most 16384 tokens. -/
import Derived.Test.YtacgbogedpoojabDoorParPrimS
import Derived.Defers
namespace Go.Proofs.YtacgbogedpoojabDoor
namespace Lx
open Go Go.RowKit

/-- The variable of a goal's result, behind the readings. -/
theorem boxG {w w' : World} {o : Obj} {b : Nat} {cs : Array Value} (hf : PFr b (w.alloc o) w') (hb : b < w.heap.size) (h : (w.alloc o).heap[w.heap.size]? = some (.cells cs 28 (0, 0))) : w'.heap[w.heap.size]? = some (.cells cs 28 (0, 0)) :=
  (hf.block w.heap.size (by simp) (Nat.ne_of_gt hb)).trans h

theorem put12 {w w3 : World} {o : Obj} {b : Nat} {A : Option Addr} {c : Nat} {ts : List Tok} {k k' : Nat} {ne ne' : Int} {y0 y1 y2 y3 y4 y5 y6 y7 y8 y9 y10 y11 : Value} (h : Par w b A c ts k ne) (hf : PFr b (w.alloc o) w3) (hp : Par w3 b A c ts k' ne')
    (hb : w3.heap[w.heap.size]? = some (.cells #[y0, y1, y2, y3, y4, y5, y6, y7, y8, y9, y10, y11] 28 (0, 0))) (x0 x1 x2 x3 x4 x5 x6 x7 x8 x9 x10 x11 : Value) :
    (((((((((((((w3.setCell ⟨w.heap.size, 0, none⟩ x0).setCell ⟨w.heap.size, 1, none⟩ x1).setCell ⟨w.heap.size, 2, none⟩ x2).setCell ⟨w.heap.size, 3, none⟩ x3).setCell ⟨w.heap.size, 4, none⟩ x4).setCell ⟨w.heap.size, 5, none⟩ x5).setCell ⟨w.heap.size, 6, none⟩ x6).setCell ⟨w.heap.size, 7, none⟩ x7).setCell ⟨w.heap.size, 8, none⟩ x8).setCell ⟨w.heap.size, 9, none⟩ x9).setCell ⟨w.heap.size, 10, none⟩ x10).setCell ⟨w.heap.size, 11, none⟩ x11)).heap[w.heap.size]? = some (.cells #[x0, x1, x2, x3, x4, x5, x6, x7, x8, x9, x10, x11] 28 (0, 0)) ∧
    Par (((((((((((((w3.setCell ⟨w.heap.size, 0, none⟩ x0).setCell ⟨w.heap.size, 1, none⟩ x1).setCell ⟨w.heap.size, 2, none⟩ x2).setCell ⟨w.heap.size, 3, none⟩ x3).setCell ⟨w.heap.size, 4, none⟩ x4).setCell ⟨w.heap.size, 5, none⟩ x5).setCell ⟨w.heap.size, 6, none⟩ x6).setCell ⟨w.heap.size, 7, none⟩ x7).setCell ⟨w.heap.size, 8, none⟩ x8).setCell ⟨w.heap.size, 9, none⟩ x9).setCell ⟨w.heap.size, 10, none⟩ x10).setCell ⟨w.heap.size, 11, none⟩ x11)) b A c ts k' ne' ∧
    PFr b w (((((((((((((w3.setCell ⟨w.heap.size, 0, none⟩ x0).setCell ⟨w.heap.size, 1, none⟩ x1).setCell ⟨w.heap.size, 2, none⟩ x2).setCell ⟨w.heap.size, 3, none⟩ x3).setCell ⟨w.heap.size, 4, none⟩ x4).setCell ⟨w.heap.size, 5, none⟩ x5).setCell ⟨w.heap.size, 6, none⟩ x6).setCell ⟨w.heap.size, 7, none⟩ x7).setCell ⟨w.heap.size, 8, none⟩ x8).setCell ⟨w.heap.size, 9, none⟩ x9).setCell ⟨w.heap.size, 10, none⟩ x10).setCell ⟨w.heap.size, 11, none⟩ x11)) ∧ (∀ j, j ≠ w.heap.size → (((((((((((((w3.setCell ⟨w.heap.size, 0, none⟩ x0).setCell ⟨w.heap.size, 1, none⟩ x1).setCell ⟨w.heap.size, 2, none⟩ x2).setCell ⟨w.heap.size, 3, none⟩ x3).setCell ⟨w.heap.size, 4, none⟩ x4).setCell ⟨w.heap.size, 5, none⟩ x5).setCell ⟨w.heap.size, 6, none⟩ x6).setCell ⟨w.heap.size, 7, none⟩ x7).setCell ⟨w.heap.size, 8, none⟩ x8).setCell ⟨w.heap.size, 9, none⟩ x9).setCell ⟨w.heap.size, 10, none⟩ x10).setCell ⟨w.heap.size, 11, none⟩ x11)).heap[j]? = w3.heap[j]?) ∧ (((((((((((((w3.setCell ⟨w.heap.size, 0, none⟩ x0).setCell ⟨w.heap.size, 1, none⟩ x1).setCell ⟨w.heap.size, 2, none⟩ x2).setCell ⟨w.heap.size, 3, none⟩ x3).setCell ⟨w.heap.size, 4, none⟩ x4).setCell ⟨w.heap.size, 5, none⟩ x5).setCell ⟨w.heap.size, 6, none⟩ x6).setCell ⟨w.heap.size, 7, none⟩ x7).setCell ⟨w.heap.size, 8, none⟩ x8).setCell ⟨w.heap.size, 9, none⟩ x9).setCell ⟨w.heap.size, 10, none⟩ x10).setCell ⟨w.heap.size, 11, none⟩ x11)).heap.size = w3.heap.size := by
  have hfr := (((((((((((((((PFr.refl b w).alloc o).trans hf).putNew (Nat.le_refl _) 0 x0).putNew (Nat.le_refl _) 1 x1).putNew (Nat.le_refl _) 2 x2).putNew (Nat.le_refl _) 3 x3).putNew (Nat.le_refl _) 4 x4).putNew (Nat.le_refl _) 5 x5).putNew (Nat.le_refl _) 6 x6).putNew (Nat.le_refl _) 7 x7).putNew (Nat.le_refl _) 8 x8).putNew (Nat.le_refl _) 9 x9).putNew (Nat.le_refl _) 10 x10).putNew (Nat.le_refl _) 11 x11)
  have hn : b ≠ w.heap.size := Nat.ne_of_lt h.lt
  have hall : ∀ j, j ≠ w.heap.size → (((((((((((((w3.setCell ⟨w.heap.size, 0, none⟩ x0).setCell ⟨w.heap.size, 1, none⟩ x1).setCell ⟨w.heap.size, 2, none⟩ x2).setCell ⟨w.heap.size, 3, none⟩ x3).setCell ⟨w.heap.size, 4, none⟩ x4).setCell ⟨w.heap.size, 5, none⟩ x5).setCell ⟨w.heap.size, 6, none⟩ x6).setCell ⟨w.heap.size, 7, none⟩ x7).setCell ⟨w.heap.size, 8, none⟩ x8).setCell ⟨w.heap.size, 9, none⟩ x9).setCell ⟨w.heap.size, 10, none⟩ x10).setCell ⟨w.heap.size, 11, none⟩ x11)).heap[j]? = w3.heap[j]? := fun j hj => by
    rw [Below.heap_setCell _ _ _ j hj, Below.heap_setCell _ _ _ j hj, Below.heap_setCell _ _ _ j hj, Below.heap_setCell _ _ _ j hj, Below.heap_setCell _ _ _ j hj, Below.heap_setCell _ _ _ j hj, Below.heap_setCell _ _ _ j hj, Below.heap_setCell _ _ _ j hj, Below.heap_setCell _ _ _ j hj, Below.heap_setCell _ _ _ j hj, Below.heap_setCell _ _ _ j hj, Below.heap_setCell _ _ _ j hj]
  refine ⟨(blk_put _ _ 11 x11 (blk_put _ _ 10 x10 (blk_put _ _ 9 x9 (blk_put _ _ 8 x8 (blk_put _ _ 7 x7 (blk_put _ _ 6 x6 (blk_put _ _ 5 x5 (blk_put _ _ 4 x4 (blk_put _ _ 3 x3 (blk_put _ _ 2 x2 (blk_put _ _ 1 x1 (blk_put _ _ 0 x0 hb (by show 0 < 12; decide)) (by show 1 < 12; decide)) (by show 2 < 12; decide)) (by show 3 < 12; decide)) (by show 4 < 12; decide)) (by show 5 < 12; decide)) (by show 6 < 12; decide)) (by show 7 < 12; decide)) (by show 8 < 12; decide)) (by show 9 < 12; decide)) (by show 10 < 12; decide)) (by show 11 < 12; decide)), h.move hfr ?_ hp.near hp.nest0 hp.nest1, hfr, hall, by simp [World.setCell]⟩
  rw [hall b hn]
  exact hp.blk

/-- The end of a prim's reading: the deferred leave, then the result. -/
theorem prim_door {b : Nat} {A : Option Addr} {c : Nat} {ts : List Tok} {ne : Int} {f : Nat → Addr} {d : Nat} {w X : World} {k' : Nat} {x : GoalT} {x0 x1 x2 x3 x4 x5 x6 x7 x8 x9 x10 x11 : Value} {tmps : Array Value} (h0 : 0 ≤ ne) (hb : b < w.heap.size)
    (ht : tmps[2]?.getD undef = .pointer (some ⟨w.heap.size, 0, none⟩)) (hX : X.heap[w.heap.size]? = some (.cells #[x0, x1, x2, x3, x4, x5, x6, x7, x8, x9, x10, x11] 28 (0, 0))) (hp : Par X b A c ts k' (ne + 1)) (hf : PFr b w X) (hV : GoalV d x (.agg #[x0, x1, x2, x3, x4, x5, x6, x7, x8, x9, x10, x11]) w.heap.size X.heap.size X) :
    bodyPostD Tryd.prog Tryd.f38 (fun e w' => EndsV b A c ts ne f (GoalV d) w (.ok x k') e w') Exit.ret { tmps := tmps, defers := [{ target := Target.fn (Fn.func 27) #[], args := #[.pointer (some ⟨b, 0, none⟩)] }] } X := by
  refine leaves_cons (f := 27) (args := #[.pointer (some ⟨b, 0, none⟩)]) (by simp) (by simp [go_sem]) ?_
  refine (leave_any X b A c ts k' (ne + 1) hp .returning (by omega)).mono ?_
  rintro e u' w' ⟨rfl, rfl, hp', hf'⟩
  have hbx := (hf'.block w.heap.size (Array.getElem?_eq_some_iff.1 hX).1 (Nat.ne_of_gt hb)).trans hX
  have d0 := (Lib.cell_of_heap hbx 0).trans rfl
  have d1 := (Lib.cell_of_heap hbx 1).trans rfl
  have d2 := (Lib.cell_of_heap hbx 2).trans rfl
  have d3 := (Lib.cell_of_heap hbx 3).trans rfl
  have d4 := (Lib.cell_of_heap hbx 4).trans rfl
  have d5 := (Lib.cell_of_heap hbx 5).trans rfl
  have d6 := (Lib.cell_of_heap hbx 6).trans rfl
  have d7 := (Lib.cell_of_heap hbx 7).trans rfl
  have d8 := (Lib.cell_of_heap hbx 8).trans rfl
  have d9 := (Lib.cell_of_heap hbx 9).trans rfl
  have d10 := (Lib.cell_of_heap hbx 10).trans rfl
  have d11 := (Lib.cell_of_heap hbx 11).trans rfl
  have e1 : ne + 1 - 1 = ne := by omega
  rw [e1] at hp'
  refine ⟨.agg #[x0, x1, x2, x3, x4, x5, x6, x7, x8, x9, x10, x11], by simp [results, Tryd.results38, go_sem, ht, d0, d1, d2, d3, d4, d5, d6, d7, d8, d9, d10, d11], _, rfl, ?_, hp', hf.trans hf'⟩
  exact GoalV.wide _ _ _ _ _ _ _ _ (GoalV.stable _ _ _ _ _ _ w' hV (fun j j1 j2 => hf'.block j j2 (by omega))) (Nat.le_refl _) hf'.size
theorem prim_fall {b : Nat} {A : Option Addr} {c : Nat} {ts : List Tok} {ne : Int} {f : Nat → Addr} {d i : Nat} {w X : World} {tmps : Array Value} (h0 : 0 ≤ ne) (hp : ∃ k' ne', Par X b A c ts k' ne' ∧ ne + 1 ≤ ne') (hf : PFr b w X) :
    bodyPostD Tryd.prog Tryd.f38 (fun e w' => EndsV b A c ts ne f (GoalV d) w (.no i) e w') (Exit.panic [{ v := .iface 62 (.agg #[errP (f i)]), recovered := false }]) { tmps := tmps, defers := [{ target := Target.fn (Fn.func 27) #[], args := #[.pointer (some ⟨b, 0, none⟩)] }] } X := by
  obtain ⟨k', ne', hp, hn⟩ := hp
  refine leaves_cons (f := 27) (args := #[.pointer (some ⟨b, 0, none⟩)]) (by simp) (by simp [go_sem]) ?_
  refine (leave_any X b A c ts k' ne' hp (.panicking _) (by omega)).mono ?_
  rintro e u' w' ⟨rfl, rfl, hp', hf'⟩
  exact ⟨rfl, ⟨_, _, hp', by omega⟩, hf.trans hf'⟩

/-- A slice made of so many values: the row of the things that they hold. -/
theorem rowLit {α : Type} {V : Holds α} {t : TypeId} {sz : Nat} {X : World} {n0 : Nat} (hn : X.heap.size = n0) {cs : Array Value} {l : List α} {vs : List Value} {lo : Nat} (hlo : lo ≤ n0) (hsz : cs.size = l.length * sz) (hcs : vs.flatMap cellsL = cs.toList) (hmax : l.length ≤ maxLen)
    (hit : Items V lo n0 n0 (X.alloc (.cells cs t)) l vs) : RowV t sz V l (.slice (some ⟨n0, 0, none⟩) l.length l.length) lo (n0 + 1) (X.alloc (.cells cs t)) := by
  subst hn
  exact ⟨X.heap.size, _, vs, rfl, Nat.lt_succ_self _, by rw [hcs]; exact World.ownsRow_lit X cs _ hlo hmax hsz, hit.wide (Nat.le_refl _) (Nat.le_succ _)⟩

theorem far12 {w : World} {N a o : Nat} {x0 x1 x2 x3 x4 x5 x6 x7 x8 x9 x10 x11 : Value} (h : ¬ a = N) : (((((((((((((w.setCell ⟨N, 0, none⟩ x0).setCell ⟨N, 1, none⟩ x1).setCell ⟨N, 2, none⟩ x2).setCell ⟨N, 3, none⟩ x3).setCell ⟨N, 4, none⟩ x4).setCell ⟨N, 5, none⟩ x5).setCell ⟨N, 6, none⟩ x6).setCell ⟨N, 7, none⟩ x7).setCell ⟨N, 8, none⟩ x8).setCell ⟨N, 9, none⟩ x9).setCell ⟨N, 10, none⟩ x10).setCell ⟨N, 11, none⟩ x11)).cell? ⟨a, o, none⟩ = w.cell? ⟨a, o, none⟩ := by
  refine World.cell?_of_block ?_
  show (((((((((((((w.setCell ⟨N, 0, none⟩ x0).setCell ⟨N, 1, none⟩ x1).setCell ⟨N, 2, none⟩ x2).setCell ⟨N, 3, none⟩ x3).setCell ⟨N, 4, none⟩ x4).setCell ⟨N, 5, none⟩ x5).setCell ⟨N, 6, none⟩ x6).setCell ⟨N, 7, none⟩ x7).setCell ⟨N, 8, none⟩ x8).setCell ⟨N, 9, none⟩ x9).setCell ⟨N, 10, none⟩ x10).setCell ⟨N, 11, none⟩ x11)).heap[a]? = w.heap[a]?
  rw [Below.heap_setCell _ _ _ a h, Below.heap_setCell _ _ _ a h, Below.heap_setCell _ _ _ a h, Below.heap_setCell _ _ _ a h, Below.heap_setCell _ _ _ a h, Below.heap_setCell _ _ _ a h, Below.heap_setCell _ _ _ a h, Below.heap_setCell _ _ _ a h, Below.heap_setCell _ _ _ a h, Below.heap_setCell _ _ _ a h, Below.heap_setCell _ _ _ a h, Below.heap_setCell _ _ _ a h]
theorem farA12 {w : World} {N a o : Nat} {ob : Obj} {x0 x1 x2 x3 x4 x5 x6 x7 x8 x9 x10 x11 : Value} (h : ¬ a = N) (hl : a < w.heap.size) : (((((((((((((w.setCell ⟨N, 0, none⟩ x0).setCell ⟨N, 1, none⟩ x1).setCell ⟨N, 2, none⟩ x2).setCell ⟨N, 3, none⟩ x3).setCell ⟨N, 4, none⟩ x4).setCell ⟨N, 5, none⟩ x5).setCell ⟨N, 6, none⟩ x6).setCell ⟨N, 7, none⟩ x7).setCell ⟨N, 8, none⟩ x8).setCell ⟨N, 9, none⟩ x9).setCell ⟨N, 10, none⟩ x10).setCell ⟨N, 11, none⟩ x11).alloc ob).cell? ⟨a, o, none⟩ = w.cell? ⟨a, o, none⟩ :=
  (World.cell?_alloc_lt _ _ _ (by simpa [World.setCell] using hl)).trans (far12 h)
/-- A post, but R at a panic. -/
def ViaP (R : List PanicEntry → World → Prop) (Q : Exit → Act → World → Prop) : Exit → Act → World → Prop
  | .panic c, a, w => a.defers = [] ∧ R c w
  | e, a, w => Q e a w
theorem ViaP.normal {R : List PanicEntry → World → Prop} {Q : Exit → Act → World → Prop} {a : Act} {w : World} (h : Q .normal a w) : ViaP R Q .normal a w := h
theorem wp_region_via {P : Program} {id : Nat} {ops : Array Oper} {s : Bool} {Q : Exit → Act → World → Prop} {a : Act} {w : World} (R : List PanicEntry → World → Prop) (hR : ∀ c a w, a.defers = [] → R c w → Q (.panic c) a w) (h : (Code.region id ops s).wp P (ViaP R Q) a w) : (Code.region id ops s).wp P Q a w :=
  Code.wp_mono (fun e a w h => by cases e <;> first | exact hR _ _ _ h.1 h.2 | exact h) h

theorem TermV.succ : ∀ (d : Nat) (x : TermT) (v : Value) (lo hi : Nat) (w : World), TermV d x v lo hi w → TermV (d + 1) x v lo hi w
  | 0, _, _, _, _, _, h => h.elim
  | d + 1, ⟨_, _, _, _⟩, _, _, _, _, ⟨va, hv, h1⟩ => ⟨va, hv, h1.imp (TermV.succ d)⟩
theorem TermV.kind3 {d : Nat} {x : TermT} (hx : x.kind = 3) {v : Value} {lo hi : Nat} {w : World} (h : TermV d x v lo hi w) : ∃ z2 z3 z4 z5 z6, v = .agg #[.int .i64 3, .string z2, .int .i64 z3, .slice z4 z5 z6] := by
  match d, x, h with
  | d + 1, .mk k s z l, ⟨va, hv, ha⟩ =>
    obtain ⟨s1, s2, s3, rfl⟩ := ha.slice
    have hk : k = 3 := hx
    subst hk
    exact ⟨_, _, _, _, _, hv⟩
theorem TermV.kindn {d : Nat} {x : TermT} (hx : ¬ x.kind = 3) {v : Value} {lo hi : Nat} {w : World} (h : TermV d x v lo hi w) : ∃ z1 z2 z3 z4 z5 z6, (z1 != 3) = true ∧ v = .agg #[.int .i64 z1, .string z2, .int .i64 z3, .slice z4 z5 z6] := by
  match d, x, h with
  | d + 1, .mk k s z l, ⟨va, hv, ha⟩ =>
    obtain ⟨s1, s2, s3, rfl⟩ := ha.slice
    have hk : ¬ k = 3 := hx
    exact ⟨_, _, _, _, _, _, by simpa using hk, hv⟩
theorem TermV.parts {d : Nat} {x : TermT} {a0 a2 va : Value} {z : ByteArray} {lo hi : Nat} {w : World} (h : TermV (d + 1) x (.agg #[a0, .string z, a2, va]) lo hi w) : z = bs x.name ∧ ArgsV 25 4 (TermV d) x.args va lo hi w := by
  match x, h with
  | .mk k s z2 l, ⟨va2, hv, ha⟩ =>
    simp only [Value.agg.injEq, Array.mk.injEq, List.cons.injEq, and_true, Value.string.injEq] at hv
    obtain ⟨_, rfl, _, rfl⟩ := hv
    exact ⟨rfl, ha⟩

theorem GoalV.up {d d' : Nat} (h : d ≤ d') {x : GoalT} {v : Value} {lo hi : Nat} {w : World} (hv : GoalV d x v lo hi w) : GoalV d' x v lo hi w := by
  induction h with
  | refl => exact hv
  | step _ ih => exact GoalV.succ _ _ _ _ _ _ ih


end Lx
end Go.Proofs.YtacgbogedpoojabDoor
