/- A row as the reference's reader reads it, in the parser's plain words; the row as the reader's loop holds it. Conditions: the reader's block is its own. -/
import Derived.Test.YtnahhlhkbfdlhaaGreatDoorRdm
import Derived.Test.YtnahhlhkbfdlhaaGreatDoorParTerm
namespace Go.Proofs.YtnahhlhkbfdlhaaGreatDoor
set_option linter.unusedSimpArgs false
set_option linter.unusedVariables false
namespace Lx
open Go Go.RowKit

/-- The number that the reference gives an error. -/
def erN : Nat → Int
  | 0 => 3
  | 1 => 4
  | 2 => 2
  | _ => 1
theorem erN_ne (i : Nat) : erN i ≠ 0 := by
  unfold erN
  split <;> decide
theorem erN_lo (i : Nat) : -100000 ≤ erN i := by
  unfold erN
  split <;> decide
theorem erN_hi (i : Nat) : erN i ≤ 100000 := by
  unfold erN
  split <;> decide

/-- What is left of a row, some things read. -/
def tailO {α : Type} (rd : Nat → Out α) (ts : List Tok) (m k : Nat) (acc : List α) : Out (List α) :=
  if acc.length = 0 then argsO rd ts k
  else match rowLoop rd ts [44] 8 m k acc with
    | .no i => .no i
    | .ok l k' => match expO ts k' [41] with
      | .no i => .no i
      | .ok _ k2 => .ok l k2
theorem tail_step {α : Type} {rd : Nat → Out α} {ts : List Tok} (hrd : Fwd ts rd) {m k : Nat} {acc : List α} {O : Out (List α)} (hO : tailO rd ts m k acc = O) (hf : acc.length = 0 ∨ ts.length < k + m) (hk : k ≤ ts.length) :
    (∃ k1, moreO ts k acc.length = (true, k1, 0) ∧ k < k1 ∧ k1 ≤ ts.length ∧ ((∃ i, rd k1 = .no i ∧ O = .no i) ∨ (∃ x k2 m2, rd k1 = .ok x k2 ∧ k1 < k2 ∧ k2 ≤ ts.length ∧ tailO rd ts m2 k2 (acc ++ [x]) = O ∧ ts.length < k2 + m2))) ∨
    (∃ k1, moreO ts k acc.length = (false, k1, 0) ∧ k1 ≤ ts.length ∧ O = .ok acc k1) ∨
    (∃ k1 er i, moreO ts k acc.length = (false, k1, er) ∧ er ≠ 0 ∧ k1 ≤ ts.length ∧ O = .no i ∧ erN i = er) := by
  subst hO
  have hlen : ∀ x : α, (acc ++ [x]).length ≠ 0 := fun x => by simp
  unfold moreO tailO
  by_cases hz : acc.length = 0
  · simp only [hz, if_true]
    obtain rfl := List.eq_nil_of_length_eq_zero hz
    unfold argsO
    cases hh : hasT ts k [40] with
    | false => exact .inr (.inl ⟨k, by simp, hk, by simp⟩)
    | true =>
      have hin := hasT_in hh (by decide)
      refine .inl ⟨k + 1, by simp, by omega, by omega, ?_⟩
      simp only [if_true]
      unfold rowO
      cases hr : rd (k + 1) with
      | no i => exact .inl ⟨i, rfl, rfl⟩
      | ok x k2 =>
        obtain ⟨h1, h2⟩ := hrd _ _ _ hr
        refine .inr ⟨x, k2, ts.length + 1, rfl, h1, h2, ?_, by omega⟩
        simp only [List.nil_append, List.length_singleton, Nat.one_ne_zero, if_false]
        rfl
  · simp only [hz, if_false]
    obtain ⟨m, rfl⟩ : ∃ m', m = m' + 1 := ⟨m - 1, by omega⟩
    rw [rowLoop]
    cases h1 : hasT ts k [41] with
    | true =>
      have hin := hasT_in h1 (by decide)
      have h2 : hasT ts k [44] = false := by
        unfold hasT at h1 ⊢
        rw [eq_of_beq h1]
        rfl
      refine .inr (.inl ⟨k + 1, by simp, by omega, ?_⟩)
      simp [h2, expO, h1]
    | false =>
      cases h2 : hasT ts k [44] with
      | false => exact .inr (.inr ⟨k, 2, 2, by simp, by decide, hk, by simp [expO, h1], rfl⟩)
      | true =>
        have hin := hasT_in h2 (by decide)
        by_cases h8 : acc.length = 8 ∧ k + 1 < ts.length
        · exact .inr (.inr ⟨k + 1, 4, 1, by simp [h8], by decide, by omega, by simp [h8], rfl⟩)
        · refine .inl ⟨k + 1, by simp [h8], by omega, by omega, ?_⟩
          simp only [h8, if_true, if_false]
          cases hr : rd (k + 1) with
          | no i => exact .inl ⟨i, rfl, rfl⟩
          | ok x k2 =>
            obtain ⟨h3, h4⟩ := hrd _ _ _ hr
            refine .inr ⟨x, k2, m, rfl, h3, h4, ?_, by omega⟩
            rw [if_neg (hlen x)]

/-- The ending of a reading: a thing and no error; or a value of the same shape and the error's number. -/
def REnds {α : Type} (b : Nat) (A : Option Addr) (c : Nat) (ts : List Tok) (V : Holds α) (Sh : Value → Prop) (w : World) : Out α → Ending → World → Prop
  | .ok x k', e, w' => ∃ v, e = .returned v ∧ V x v w.heap.size w'.heap.size w' ∧ Rd w' b A c ts k' 0 ∧ PFr b w w'
  | .no i, e, w' => ∃ v k', e = .returned v ∧ Sh v ∧ k' ≤ ts.length ∧ Rd w' b A c ts k' (erN i) ∧ PFr b w w'

/-- The row as the loop holds it: its cells lie from block B on. -/
structure RdI {α : Type} (t : TypeId) (sz : Nat) (V : Holds α) (rd : Nat → Out α) (O : Out (List α)) (w : World) (B b : Nat) (A : Option Addr) (c : Nat) (ts : List Tok) (s : Option Addr) (cap : Nat) (wr : World) (m k : Nat) (acc : List α) (vs : List Value) (g : Nat) : Prop where
  out : tailO rd ts m k acc = O
  fuel : acc.length = 0 ∨ ts.length < k + m
  le : k ≤ ts.length
  few : acc.length ≤ k
  val : (acc = [] ∧ s = none ∧ cap = 0) ∨ s = some ⟨g, 0, none⟩
  own : wr.ownsRow B t sz (.slice s acc.length cap) acc.length (vs.flatMap cellsL)
  items : Items V B wr.heap.size g wr acc vs
  base : w.heap.size ≤ B
  base2 : B ≤ wr.heap.size
  rd : Rd wr b A c ts k 0
  fr : PFr b w wr
section
variable {α : Type} {t : TypeId} {sz : Nat} {V : Holds α} {rd : Nat → Out α} {O : Out (List α)} {w : World} {B b : Nat} {A : Option Addr} {c : Nat} {ts : List Tok} {s : Option Addr} {cap : Nat} {wr : World} {m k : Nat} {acc : List α} {vs : List Value} {g : Nat}
theorem RdI.held (h : RdI t sz V rd O w B b A c ts s cap wr m k acc vs g) : ArgsV t sz V acc (.slice s acc.length cap) B wr.heap.size wr := by
  rcases h.val with ⟨rfl, rfl, rfl⟩ | rfl
  · exact .inl ⟨rfl, rfl⟩
  · exact .inr ⟨g, cap, vs, rfl, (h.own.lt g rfl).2, h.own, h.items⟩
theorem RdI.ownB (h : RdI t sz V rd O w B b A c ts s cap wr m k acc vs g) {j : Nat} (hj : (Value.slice s acc.length cap).ownBlock = some j) : B ≤ j ∧ j < wr.heap.size := h.own.lt j hj

/-- Blocks from B on are as they were. -/
structure HiEq (B : Nat) (x y : World) : Prop where
  size : y.heap.size = x.heap.size
  block : ∀ j, B ≤ j → y.heap[j]? = x.heap[j]?
theorem HiEq.put (x : World) {B N : Nat} (h : N < B) (i : Nat) (v : Value) : HiEq B x (x.setCell ⟨N, i, none⟩ v) :=
  ⟨by simp [World.setCell], fun j hj => Below.heap_setCell x _ v j (by show j ≠ N; omega)⟩
theorem own_hi {x y : World} {n : Nat} {v : Value} {xs : List Value} (h : x.ownsRow B t sz v n xs) (hh : HiEq B x y) : y.ownsRow B t sz v n xs := by
  refine ⟨h.1, ?_⟩
  rcases h.2 with h1 | ⟨g1, c1, cur, h1, h2, h3, h4⟩
  · exact .inl h1
  · exact .inr ⟨g1, c1, cur, h1, h2, (hh.block g1 h2).trans h3, h4⟩

/-- Behind an append to the row: the old blocks, the reader. -/
theorem RdI.grow (h : RdI t sz V rd O w B b A c ts s cap wr m k acc vs g) {k0 : Nat} {er0 : Int} (h0 : Rd w b A c ts k0 er0) {w4 w6 : World} {o : Obj} (hf4 : PFr b wr w4) (hg : (w4.alloc o).grownBy w6 (Value.slice s acc.length cap).ownBlock) :
    PFr b w w6 ∧ w4.heap.size ≤ w6.heap.size ∧ (∀ j, j < w4.heap.size → some j ≠ (Value.slice s acc.length cap).ownBlock → w6.heap[j]? = w4.heap[j]?) ∧ (∀ j, j < B → j ≠ b → w6.heap[j]? = wr.heap[j]?) ∧ (∀ k er, Rd w4 b A c ts k er → Rd w6 b A c ts k er) := by
  have hbw := h0.lt
  have hb1 := h.base
  have hb2 := h.base2
  have hs4 := hf4.size
  have hfr : PFr b w w6 := ((h.fr.trans hf4).alloc o).grown hg (fun j hj => Nat.le_trans h.base (h.ownB hj).1)
  have hblk : ∀ j, j < w4.heap.size → some j ≠ (Value.slice s acc.length cap).ownBlock → w6.heap[j]? = w4.heap[j]? := fun j hj hn => (hg.block j (by simp; omega) hn).trans (Below.heap_alloc w4 o j hj)
  refine ⟨hfr, by have := hg.size; simp at this; omega, hblk, fun j hj hn => ?_, fun k er hr => ?_⟩
  · exact (hblk j (by omega) (fun e => by have := (h.ownB e.symm).1; omega)).trans (hf4.block j (by omega) hn)
  · exact h0.move hfr ((hblk b hr.lt (fun e => by have := (h.ownB e.symm).1; omega)).trans hr.blk) hr.near hr.nest0 hr.nest1

theorem RdI.next (h : RdI t sz V rd O w B b A c ts s cap wr m k acc vs g) (hV : Stable V) {k0 : Nat} {er0 : Int} (h0 : Rd w b A c ts k0 er0) {x2 : α} {v2 : Value} {k2 m2 : Nat} {w4 w6 w7 : World} {o : Obj} {lo4 g2 cap2 : Nat}
    (hf4 : PFr b wr w4) (hlo : wr.heap.size ≤ lo4) (hv4 : V x2 v2 lo4 w4.heap.size w4)
    (hown : w6.ownsRow B t sz (.slice (some ⟨g2, 0, none⟩) (acc.length + 1) cap2) (acc.length + 1) (vs.flatMap cellsL ++ cellsL v2)) (hg : (w4.alloc o).grownBy w6 (Value.slice s acc.length cap).ownBlock) (hat : (Value.slice s acc.length cap).ownBlock = some g2 ∨ g2 = (w4.alloc o).heap.size)
    (hout : tailO rd ts m2 k2 (acc ++ [x2]) = O) (hfu : ts.length < k2 + m2) (hk : k < k2) (hk4 : k2 ≤ ts.length) (hh : HiEq B w6 w7) (hf7 : PFr b w w7) (hr7 : Rd w7 b A c ts k2 0) :
    RdI t sz V rd O w B b A c ts (some ⟨g2, 0, none⟩) cap2 w7 m2 k2 (acc ++ [x2]) (vs ++ [v2]) g2 := by
  obtain ⟨hfr, hs6, hblk, _, _⟩ := h.grow h0 hf4 hg
  have hbw := h0.lt
  have hb1 := h.base
  have hb2 := h.base2
  have hs4 := hf4.size
  have hs7 := hh.size
  have hlen : (acc ++ [x2]).length = acc.length + 1 := by simp
  have hfew := h.few
  refine ⟨hout, .inr hfu, hk4, by rw [hlen]; omega, .inr rfl, ?_, ?_, hb1, by omega, hr7, hf7⟩
  · rw [hlen, flat_snoc]
    exact own_hi hown hh
  · have hstep : ∀ {l : List α} {us : List Value}, Items V B w6.heap.size g2 w6 l us → Items V B w7.heap.size g2 w7 l us := fun hi => Items.step hV (fun j j1 _ _ => hh.block j j1) (by omega) (.inl rfl) hi
    refine hstep ?_
    have i1 := Items.fr hV hf4 (by omega) h.items
    rcases h.val with ⟨rfl, rfl, rfl⟩ | rfl
    · match vs, i1 with
      | [], _ =>
        have hg2 : g2 = (w4.alloc o).heap.size := by
          rcases hat with e | e
          · cases e
          · exact e
        refine ⟨⟨lo4, w4.heap.size, by omega, hs6, by rw [hg2]; simp <;> omega, ?_⟩, trivial⟩
        exact hV _ _ _ _ _ _ hv4 (fun j _ hj => hblk j hj (fun e => by cases e))
    · have hg3 := h.ownB (j := g) rfl
      have i2 := Items.snoc (x := x2) (v := v2) ⟨lo4, w4.heap.size, by omega, Nat.le_refl _, by omega, hv4⟩ i1
      exact Items.step hV (fun j _ j2 j3 => hblk j j2 (fun e => j3 (Option.some.inj e))) hs6 (by rcases hat with e | e; exact .inl (Option.some.inj e).symm; exact .inr (by rw [e]; simp)) i2
end

/-- The loop's measure: nothing left once an error stands. -/
def meas (n b : Nat) (w : World) : Nat := if intOf ((w.cell? ⟨b, 2, none⟩).getD undef) = 0 then 1 + (n - (intOf ((w.cell? ⟨b, 1, none⟩).getD undef)).toNat) else 0
theorem meas_on {w : World} {b : Nat} {A : Option Addr} {c : Nat} {ts : List Tok} {k : Nat} (h : Rd w b A c ts k 0) (n : Nat) : meas n b w = 1 + (n - k) := by
  unfold meas
  rw [h.c1, h.c2]
  simp [intOf]
theorem meas_off {w : World} {b : Nat} {A : Option Addr} {c : Nat} {ts : List Tok} {k : Nat} {er : Int} (h : Rd w b A c ts k er) (he : er ≠ 0) (n : Nat) : meas n b w = 0 := by
  unfold meas
  rw [h.c2]
  simp [intOf, he]

end Lx
end Go.Proofs.YtnahhlhkbfdlhaaGreatDoor
