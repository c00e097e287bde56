/- A loop of the reference's reader that reads a row into a field of a struct in memory: what it holds, and its step. Conditions: the reader's block is its own, the struct's is another. -/
import Derived.Test.YtnahhlhkbfdlhaaGreatDoorRdz
import Derived.Test.YtnahhlhkbfdlhaaGreatDoorParWholeS
namespace Go.Proofs.YtnahhlhkbfdlhaaGreatDoor
set_option linter.unusedSimpArgs false
set_option linter.unusedVariables false
namespace Lx
open Go Go.RowKit

theorem Fr2.toPFr {b bx : Nat} {w x y : World} (h : PFr b w x) (h2 : Fr2 b bx x y) (hx : w.heap.size ≤ bx) : PFr b w y :=
  ⟨h2.os.trans h.os, h2.tape.trans h.tape, h2.output.trans h.output, Nat.le_trans h.size h2.size, fun k hk hn => (h2.block k (Nat.lt_of_lt_of_le hk h.size) hn (by omega)).trans (h.block k hk hn)⟩
theorem Fr2.refl' (b bx : Nat) (w : World) : Fr2 b bx w w := ⟨rfl, rfl, rfl, Nat.le_refl _, fun _ _ _ _ => rfl⟩
theorem Fr2.pfr {b bx : Nat} {w x y : World} (h : Fr2 b bx w x) (h2 : PFr b x y) : Fr2 b bx w y :=
  ⟨h2.os.trans h.os, h2.tape.trans h.tape, h2.output.trans h.output, Nat.le_trans h.size h2.size, fun k hk h1 h3 => (h2.block k (Nat.lt_of_lt_of_le hk h.size) h1).trans (h.block k hk h1 h3)⟩
section
variable {α β : Type}
/-- What the loop holds: the struct in block bx, the row in its field, the row's blocks from wB on. -/
structure LpI (t : TypeId) (sz : Nat) (V : Holds α) (b : Nat) (A : Option Addr) (c : Nat) (ts : List Tok) (OT : Out β) (rd : Nat → Out α) (f : List α → Nat → Out β) (T : TypeId) (bx : Nat) (Bx : Value → Array Value) (wB wr : World) (s : Option Addr) (cap n k : Nat) (er : Int) : Prop where
  box : wr.heap[bx]? = some (.cells (Bx (.slice s n cap)) T (0, 0))
  wd : Rd wr b A c ts k er
  le : k ≤ ts.length
  fr : Fr2 b bx wB wr
  cont : Cont OT er (∃ acc vs g m, n = acc.length ∧ RowH t sz V wB.heap.size wr s cap acc vs g ∧ (acc.length = 0 ∨ ts.length < k + m) ∧ acc.length ≤ k ∧ bindO (tailO rd ts m k acc) f = OT)
variable {t : TypeId} {sz : Nat} {V : Holds α} {b : Nat} {A : Option Addr} {c : Nat} {ts : List Tok} {OT : Out β} {rd : Nat → Out α} {f : List α → Nat → Out β} {T : TypeId} {bx : Nat} {Bx : Value → Array Value} {wB wr : World} {s : Option Addr} {cap n k : Nat} {er : Int}
theorem lp_start (hbx : wB.heap[bx]? = some (.cells (Bx (.slice none 0 0)) T (0, 0))) (hp : Rd wB b A c ts k er) (hk : k ≤ ts.length) (hc : Cont OT er (bindO (argsO rd ts k) f = OT)) :
    LpI t sz V b A c ts OT rd f T bx Bx wB wB none 0 0 k er :=
  ⟨hbx, hp, hk, Fr2.refl' _ _ _, hc.imp (fun h => ⟨[], [], 0, 0, rfl, ⟨.inl ⟨rfl, rfl, rfl⟩, ⟨by simp, .inl ⟨rfl, rfl⟩⟩, trivial⟩, .inl rfl, Nat.zero_le _, h⟩)⟩
theorem lp_more {m : Nat} {acc : List α} (hf : acc.length = 0 ∨ ts.length < k + m) (hk : k ≤ ts.length) (hO : bindO (tailO rd ts m k acc) f = OT) :
    (∃ k1 m2, moreO ts k acc.length = (true, k1, 0) ∧ k < k1 ∧ k1 ≤ ts.length ∧ ts.length < k1 + m2 ∧ bindO (rd k1) (fun x k2 => bindO (tailO rd ts m2 k2 (acc ++ [x])) f) = OT) ∨
    (∃ k1 er1, moreO ts k acc.length = (false, k1, er1) ∧ k1 ≤ ts.length ∧ Cont OT er1 (f acc k1 = OT)) := by
  rcases tail_next rd hf hk with ⟨k1, m2, h1, h2, h3, h4, h5⟩ | ⟨k1, h1, _, h3, h5⟩ | ⟨k1, i, h1, h3, h5⟩
  · refine .inl ⟨k1, m2, h1, h2, h3, h4, ?_⟩
    rw [h5, bindO_assoc] at hO
    exact hO
  · rw [h5] at hO
    exact .inr ⟨k1, 0, h1, h3, .inl ⟨rfl, hO⟩⟩
  · rw [h5] at hO
    exact .inr ⟨k1, erN i, h1, h3, .inr ⟨i, rfl, hO.symm⟩⟩
/-- Behind an append, ahead of the store. -/
theorem lp_grown {w w4 w6 : World} {k0 : Nat} {er0 : Int} (h0 : Rd w b A c ts k0 er0) (hwB : PFr b w wB) (hwx : w.heap.size ≤ bx) (hbx : bx < wB.heap.size) (h : LpI t sz V b A c ts OT rd f T bx Bx wB wr s cap n k 0) {acc : List α} {vs : List Value} {g : Nat} (hrow : RowH t sz V wB.heap.size wr s cap acc vs g) (hf4 : PFr b wr w4) {o : Obj}
    (hg : (w4.alloc o).grownBy w6 (Value.slice s acc.length cap).ownBlock) :
    w6.heap[bx]? = some (.cells (Bx (.slice s n cap)) T (0, 0)) ∧ Fr2 b bx wB w6 ∧ (∀ k er, Rd w4 b A c ts k er → Rd w6 b A c ts k er) ∧ PFr b w w6 := by
  have hb := h0.lt
  have hs4 := hf4.size
  have hsB := h.fr.size
  have hwr := Fr2.toPFr hwB h.fr hwx
  have hwB2 := hwB.size
  obtain ⟨q1, q2, q3, q4⟩ := hrow.grow (w := w) (by omega) hsB (by omega) hwr hf4 hg
  refine ⟨(q4 bx hbx).trans ((hf4.block bx (by omega) (by omega)).trans h.box), ⟨?_, ?_, ?_, by omega, fun j j1 j2 j3 => (q4 j j1).trans ((hf4.block j (by omega) j2).trans (h.fr.block j j1 j2 j3))⟩, fun k er hr => h0.move q1 ((q4 b (by omega)).trans hr.blk) hr.near hr.nest0 hr.nest1, q1⟩
  · exact hg.os.trans (hf4.os.trans h.fr.os)
  · exact hg.tape.trans (hf4.tape.trans h.fr.tape)
  · exact hg.output.trans (hf4.output.trans h.fr.output)
theorem lp_next {w w4 w6 : World} {k0 : Nat} {er0 : Int} (h0 : Rd w b A c ts k0 er0) (hwB : PFr b w wB) (hwx : w.heap.size ≤ bx) (hbx : bx < wB.heap.size) (i : Nat) (hi : ∀ v, i < (Bx v).size) (hset : ∀ v v', (Bx v).set i v' (hi v) = Bx v') (hV : Stable V)
    {acc : List α} {vs : List Value} {g : Nat} (h : LpI t sz V b A c ts OT rd f T bx Bx wB wr s cap acc.length k 0) (hrow : RowH t sz V wB.heap.size wr s cap acc vs g) (hal : acc.length ≤ k) (hf4 : PFr b wr w4) {v2 : Value} {k1 k' m2 lo4 g2 cap2 : Nat} {er' : Int} (hp4 : Rd w4 b A c ts k' er') (hk' : k' ≤ ts.length) (hlo : wr.heap.size ≤ lo4) (hk1 : k < k1) (hfu : ts.length < k1 + m2)
    (hc : Cont OT er' (∃ x, V x v2 lo4 w4.heap.size w4 ∧ k1 < k' ∧ bindO (tailO rd ts m2 k' (acc ++ [x])) f = OT)) {o : Obj}
    (hown : w6.ownsRow wB.heap.size t sz (.slice (some ⟨g2, 0, none⟩) (acc.length + 1) cap2) (acc.length + 1) (vs.flatMap cellsL ++ cellsL v2)) (hg : (w4.alloc o).grownBy w6 (Value.slice s acc.length cap).ownBlock) (hat : (Value.slice s acc.length cap).ownBlock = some g2 ∨ g2 = (w4.alloc o).heap.size) :
    LpI t sz V b A c ts OT rd f T bx Bx wB (w6.setCell ⟨bx, i, none⟩ (.slice (some ⟨g2, 0, none⟩) (acc.length + 1) cap2)) (some ⟨g2, 0, none⟩) cap2 (acc.length + 1) k' er' := by
  have hb := h0.lt
  have hsB := hwB.size
  obtain ⟨q1, q2, q3, q4⟩ := lp_grown h0 hwB hwx hbx h hrow hf4 hg
  have hp6 := q3 _ _ hp4
  have hpx : Rd (w6.setCell ⟨bx, i, none⟩ (.slice (some ⟨g2, 0, none⟩) (acc.length + 1) cap2)) b A c ts k' er' := h0.move (q4.putNew hwx i _) ((Below.heap_setCell w6 ⟨bx, i, none⟩ _ b (by show b ≠ bx; omega)).trans hp6.blk) hp6.near hp6.nest0 hp6.nest1
  refine ⟨?_, hpx, hk', ⟨q2.os, q2.tape, q2.output, by simpa [World.setCell] using q2.size, fun j j1 j2 j3 => (Below.heap_setCell w6 _ _ j j3).trans (q2.block j j1 j2 j3)⟩, hc.imp ?_⟩
  · have e := blk_put w6 bx i (.slice (some ⟨g2, 0, none⟩) (acc.length + 1) cap2) q1 (hi _)
    rw [hset] at e
    exact e
  · rintro ⟨x, h1, h2, h3⟩
    have hr6 := hrow.snoc hV (by omega : b < wB.heap.size) h.fr.size hf4 hlo h1 hown hg hat
    have hh := HiEq.put w6 hbx i (.slice (some ⟨g2, 0, none⟩) (acc.length + 1) cap2)
    have hlen : (acc ++ [x]).length = acc.length + 1 := by simp
    refine ⟨acc ++ [x], vs ++ [v2], g2, m2, hlen.symm, ⟨.inr rfl, own_hi hr6.own hh, Items.step hV (fun j j1 _ _ => hh.block j j1) (by rw [hh.size]; exact Nat.le_refl _) (.inl rfl) hr6.items⟩, .inr (by omega), by omega, h3⟩
/-- What the loop leaves. -/
theorem lp_left {k1 : Nat} {er1 : Int} {acc : List α} {vs : List Value} {g : Nat} (hV : Stable V) (hb : b < wB.heap.size) (h : LpI t sz V b A c ts OT rd f T bx Bx wB wr s cap acc.length k 0) (hrow : RowH t sz V wB.heap.size wr s cap acc vs g) {w3 : World} (hf : PFr b wr w3) (hc : Cont OT er1 (f acc k1 = OT)) :
    Fr2 b bx wB w3 ∧ Cont OT er1 (∃ l, ArgsV t sz V l (.slice s acc.length cap) wB.heap.size w3.heap.size w3 ∧ f l k1 = OT) :=
  ⟨h.fr.pfr hf, hc.imp (fun e => ⟨acc, (hrow.fr hV hb hf).held, e⟩)⟩
theorem lp_over (h : LpI t sz V b A c ts OT rd f T bx Bx wB wr s cap n k er) (he : er ≠ 0) : Cont OT er (∃ l, ArgsV t sz V l (.slice s n cap) wB.heap.size wr.heap.size wr ∧ f l k = OT) := by
  obtain ⟨i, h1, h2⟩ := h.cont.err he
  exact .inr ⟨i, h1, h2⟩
end

end Lx
end Go.Proofs.YtnahhlhkbfdlhaaGreatDoor
