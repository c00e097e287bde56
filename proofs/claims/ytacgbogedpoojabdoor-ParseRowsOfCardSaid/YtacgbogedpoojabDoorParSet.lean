/- A struct stored as a whole into a block of its own, and read as a whole: what the block holds, and that all else stands. No conditions. -/
import Derived.Test.YtacgbogedpoojabDoorParItemS
import Derived.Deep.MidRow
import Derived.Deep.Cut
import Derived.Laws.Rows
namespace Go.Proofs.YtacgbogedpoojabDoor
namespace Lx
open Go Go.RowKit

theorem sets_size (N : Nat) : ∀ (l : List Value) (i : Nat) (w : World), (w.setCells N i l).heap.size = w.heap.size
  | [], _, _ => rfl
  | v :: l, i, w => by rw [World.setCells, sets_size N l]; simp [World.setCell]
theorem sets_else (N : Nat) : ∀ (l : List Value) (i : Nat) (w : World) (j : Nat), j ≠ N → (w.setCells N i l).heap[j]? = w.heap[j]?
  | [], _, _, _, _ => rfl
  | v :: l, i, w, j, hj => by rw [World.setCells, sets_else N l _ _ j hj, Below.heap_setCell _ _ _ j hj]
theorem sets_os (N : Nat) : ∀ (l : List Value) (i : Nat) (w : World), (w.setCells N i l).os = w.os ∧ (w.setCells N i l).tape = w.tape ∧ (w.setCells N i l).output = w.output
  | [], _, _ => ⟨rfl, rfl, rfl⟩
  | v :: l, i, w => by rw [World.setCells]; exact sets_os N l _ _
theorem sets_blk (N : Nat) {T : TypeId} : ∀ (l : List Value) (i : Nat) (w : World) (C : Array Value), w.heap[N]? = some (.cells C T (0, 0)) → i + l.length ≤ C.size →
    ∃ C', (w.setCells N i l).heap[N]? = some (.cells C' T (0, 0)) ∧ C'.size = C.size ∧ ∀ q : Nat, C'[q]? = if i ≤ q ∧ q < i + l.length then l[q - i]? else C[q]?
  | [], i, w, C, h, _ => ⟨C, h, rfl, fun q => by rw [if_neg (by simp <;> omega)]⟩
  | v :: l, i, w, C, h, hl => by
    have hi : i < C.size := by simp at hl; omega
    obtain ⟨C', h1, h2, h3⟩ := sets_blk N l (i + 1) (w.setCell ⟨N, i, none⟩ v) (C.set i v hi) (blk_put w N i v h hi) (by simp at hl ⊢; omega)
    refine ⟨C', by rw [World.setCells]; exact h1, by rw [h2]; simp, fun q => ?_⟩
    rw [h3 q]
    by_cases e : q = i
    · subst e
      rw [if_neg (by omega), if_pos (by simp)]
      simp
    · by_cases e2 : i + 1 ≤ q ∧ q < i + 1 + l.length
      · rw [if_pos e2, if_pos (by simp; omega)]
        have : q - i = (q - (i + 1)) + 1 := by omega
        rw [this]
        rfl
      · rw [if_neg e2, if_neg (by simp; omega)]
        rw [Array.getElem?_set_ne hi (by omega)]
theorem sets_all {N : Nat} {T : TypeId} {w : World} {C : Array Value} (cs : Array Value) (h : w.heap[N]? = some (.cells C T (0, 0))) (hs : cs.size = C.size) : (w.setCells N 0 cs.toList).heap[N]? = some (.cells cs T (0, 0)) := by
  obtain ⟨C', h1, h2, h3⟩ := sets_blk N cs.toList 0 w C h (by simp; omega)
  rw [h1]
  congr 2
  apply Array.ext_getElem?
  intro q
  rw [h3 q]
  by_cases hq : q < cs.size
  · rw [if_pos (by simp; exact hq)]
    simp
  · rw [if_neg (by simp; omega), Array.getElem?_eq_none (by omega), Array.getElem?_eq_none (by omega)]
theorem putAll {w w3 : World} {o : Obj} {b : Nat} {A : Option Addr} {c : Nat} {ts : List Tok} {k k' : Nat} {ne ne' : Int} {T : TypeId} {C : Array Value} (h : Par w b A c ts k ne) (hf : PFr b (w.alloc o) w3) (hp : Par w3 b A c ts k' ne')
    (hb : w3.heap[w.heap.size]? = some (.cells C T (0, 0))) (cs : Array Value) (hs : cs.size = C.size) :
    (w3.setCells w.heap.size 0 cs.toList).heap[w.heap.size]? = some (.cells cs T (0, 0)) ∧ Par (w3.setCells w.heap.size 0 cs.toList) b A c ts k' ne' ∧
    PFr b w (w3.setCells w.heap.size 0 cs.toList) ∧ (∀ j, j ≠ w.heap.size → (w3.setCells w.heap.size 0 cs.toList).heap[j]? = w3.heap[j]?) ∧ (w3.setCells w.heap.size 0 cs.toList).heap.size = w3.heap.size := by
  have h1 := ((PFr.refl b w).alloc o).trans hf
  have hfr : PFr b w (w3.setCells w.heap.size 0 cs.toList) :=
    ⟨(sets_os _ _ _ _).1.trans h1.os, (sets_os _ _ _ _).2.1.trans h1.tape, (sets_os _ _ _ _).2.2.trans h1.output, by rw [sets_size]; exact h1.size, fun j hj hn => (sets_else _ _ _ _ j (Nat.ne_of_lt hj)).trans (h1.block j hj hn)⟩
  refine ⟨sets_all cs hb hs, h.move hfr ?_ hp.near hp.nest0 hp.nest1, hfr, fun j hj => sets_else _ _ _ _ j hj, sets_size _ _ _ _⟩
  rw [sets_else _ _ _ _ b (Nat.ne_of_lt h.lt)]
  exact hp.blk
/-- A new block, stored into as a whole. -/
theorem newAll {w2 : World} {b : Nat} {A : Option Addr} {c : Nat} {ts : List Tok} {k : Nat} {ne : Int} {T : TypeId} (hp : Par w2 b A c ts k ne) (Z cs : Array Value) (hs : cs.size = Z.size) :
    ((w2.alloc (.cells Z T)).setCells w2.heap.size 0 cs.toList).heap[w2.heap.size]? = some (.cells cs T (0, 0)) ∧ Par ((w2.alloc (.cells Z T)).setCells w2.heap.size 0 cs.toList) b A c ts k ne ∧
    PFr b w2 ((w2.alloc (.cells Z T)).setCells w2.heap.size 0 cs.toList) ∧ ((w2.alloc (.cells Z T)).setCells w2.heap.size 0 cs.toList).heap.size = w2.heap.size + 1 := by
  obtain ⟨t1, t2, t3, _, t5⟩ := putAll (o := .cells Z T) hp (PFr.refl b _) (hp.alloc _) (heap_alloc_new w2 _) cs hs
  exact ⟨t1, t2, t3, t5.trans (by simp)⟩
theorem Par.putBeside {w2 X : World} {b : Nat} {A : Option Addr} {c : Nat} {ts : List Tok} {k k' : Nat} {ne ne' : Int} (h0 : Par w2 b A c ts k ne) (hf : PFr b w2 X) (hp : Par X b A c ts k' ne') {N : Nat} (hN : w2.heap.size ≤ N) (i : Nat) (v : Value) : Par (X.setCell ⟨N, i, none⟩ v) b A c ts k' ne' :=
  h0.move (hf.putNew hN i v) ((Below.heap_setCell X ⟨N, i, none⟩ v b (by have := h0.lt; show b ≠ N; omega)).trans hp.blk) hp.near hp.nest0 hp.nest1
theorem range_all {w : World} {b : Nat} {C : Array Value} {t : TypeId} {fr : Nat × Nat} (hb : w.heap[b]? = some (.cells C t fr)) : w.rangeAt b 0 C.toList := fun j v hv => by
  rw [Nat.zero_add, cell_of_row w b j C t fr hb]
  simpa using hv
theorem there_all {w : World} {b : Nat} {C : Array Value} {t : TypeId} (hb : w.heap[b]? = some (.cells C t (0, 0))) : w.there b 0 C.size := fun j hj => by
  rw [Nat.zero_add]
  exact ⟨by rw [cell_of_row w b j C t (0, 0) hb]; simp [hj], Lib.frozen_of_heap hb j⟩
theorem infoItem : (Tryd.prog.info? 46).map (·.size) = some 20 := by kernel_rfl

theorem boxI {w w' : World} {o : Obj} {b : Nat} {cs : Array Value} (hf : PFr b (w.alloc o) w') (hb : b < w.heap.size) (h : (w.alloc o).heap[w.heap.size]? = some (.cells cs 46 (0, 0))) : w'.heap[w.heap.size]? = some (.cells cs 46 (0, 0)) :=
  (hf.block w.heap.size (by simp) (Nat.ne_of_gt hb)).trans h
theorem Par.fromFr {w w3 w4 : World} {b : Nat} {A : Option Addr} {c : Nat} {ts : List Tok} {k k' : Nat} {ne ne' : Int} (h : Par w b A c ts k ne) (hf : PFr b w w3) (hp : Par w4 b A c ts k' ne') (hb : w3.heap[b]? = w4.heap[b]?) : Par w3 b A c ts k' ne' :=
  h.move hf (hb.trans hp.blk) hp.near hp.nest0 hp.nest1


end Lx
end Go.Proofs.YtacgbogedpoojabDoor
