/- The contract of package lex's Lex at every text: its tokens in a new row of cells and no error, or no token and one of the two errors. Conditions: the texts' sizes are at most 2^47; the error variables hold an error; strconv's table of powers of ten holds them. -/
import Derived.Test.YtacgbogedpoojabDoorFirst
import Derived.Test.YtacgbogedpoojabDoorPlainScan
import Derived.Maps.AppendAt
import Derived.RangeFuncBox
namespace Go.Proofs.YtacgbogedpoojabDoor
namespace Lx
open Go Go.RowKit

/-- The cells of tokens in a row. -/
def cellsT (ts : List Tok) : List Value := ts.flatMap fun t => [.int .i64 t.kind, .string (bs t.text), .int .i64 t.num]
theorem cellsT_snoc (ts : List Tok) (t : Tok) : cellsT (ts ++ [t]) = cellsT ts ++ [.int .i64 t.kind, .string (bs t.text), .int .i64 t.num] := by simp [cellsT]

theorem infoTok : (Tryd.prog.info? 66).map (fun i => (i.zero, i.size, i.bytes)) = some (some noTok, 3, 32) := by kernel_rfl

/-- All blocks that lay in w stand as they stood, but for block B and the row that v owned. -/
structure But2 (B : Nat) (v : Value) (w w' : World) : Prop where
  os : w'.os = w.os
  tape : w'.tape = w.tape
  output : w'.output = w.output
  size : w.heap.size ≤ w'.heap.size
  block : ∀ b, b < w.heap.size → b ≠ B → v.ownBlock ≠ some b → w'.heap[b]? = w.heap[b]?

/-- Block B holds a slice that owns the tokens ts. -/
def Held (base : Nat) (w : World) (B : Nat) (v : Value) (ts : List Tok) : Prop :=
  w.heap[B]? = some (.cells #[v] 47 (0, 0)) ∧ base ≤ B ∧ w.ownsRow base 66 3 v ts.length (cellsT ts)

theorem Held.lt {base : Nat} {w : World} {B : Nat} {v : Value} {ts : List Tok} (h : Held base w B v ts) : B < w.heap.size := by
  rcases Nat.lt_or_ge B w.heap.size with hlt | hge
  · exact hlt
  · rw [Held, Array.getElem?_eq_none hge] at h; exact absurd h.1 (by simp)

theorem owns_shape {w : World} {base : Nat} {e : TypeId} {size : Nat} {v : Value} {n : Nat} {xs : List Value} (h : w.ownsRow base e size v n xs) : ∃ A c, v = .slice A n c := by
  rcases h.2 with ⟨rfl, rfl⟩ | ⟨g, cap, cur, rfl, _⟩
  · exact ⟨_, _, rfl⟩
  · exact ⟨_, _, rfl⟩

theorem cells_new (w : World) (cs : Array Value) (e : TypeId) (b : Nat) (hb : b = w.heap.size) : ∀ j u, cs.toList[j]? = some u → (w.alloc (.cells cs e)).cell? ((⟨b, 0, none⟩ : Addr).add j) = some u := by
  subst hb
  intro j u h
  have h1 : (w.alloc (.cells cs e)).heap[w.heap.size]? = some (.cells cs e (0, 0)) := by
    show (w.heap.push _)[w.heap.size]? = _
    simp
  have h2 := cell_of_row (w.alloc (.cells cs e)) w.heap.size j cs e (0, 0) h1
  have h3 : ((⟨w.heap.size, 0, none⟩ : Addr).add j) = ⟨w.heap.size, j, none⟩ := by
    by_cases hj : j = 0
    · subst hj; rfl
    · simp [Addr.add, hj]
  rw [h3, h2]
  simpa using h

theorem owner_ne {w : World} {base : Nat} {e t : TypeId} {size n B : Nat} {v : Value} {xs : List Value} {cs : Array Value} (hne : e ≠ t) (h : w.ownsRow base e size v n xs) (hB : w.heap[B]? = some (.cells cs t (0, 0))) : v.ownBlock ≠ some B := by
  rcases h.2 with ⟨rfl, _⟩ | ⟨g, cap, cur, rfl, _, hg, _⟩
  · simp [Value.ownBlock]
  · intro he
    have : g = B := by simpa [Value.ownBlock] using he
    subst this
    rw [hg] at hB
    injection hB with hB
    injection hB with _ ht
    exact hne ht

theorem setCell_heap_same {w : World} {B : Nat} {t : TypeId} {v u : Value} (hB : w.heap[B]? = some (.cells #[v] t (0, 0))) : (w.setCell ⟨B, 0, none⟩ u).heap[B]? = some (.cells #[u] t (0, 0)) := by
  simp [World.setCell, Array.getElem?_modify, hB]
theorem grownBy_setCell (w : World) (p : Addr) (u : Value) : w.grownBy (w.setCell p u) (some p.block) :=
  ⟨rfl, rfl, rfl, by simp [World.setCell], fun k _ hne => Below.heap_setCell w p u k (fun e => hne (by rw [e]))⟩

theorem held_next {base : Nat} {w w1 : World} {o1 o2 : Obj} {B : Nat} {v v' : Value} {n : Nat} {xs ys : List Value} (hB : w.heap[B]? = some (.cells #[v] 47 (0, 0))) (hlt : B < w.heap.size)
    (hown : w.ownsRow base 66 3 v n xs) (hg : ((w.alloc o1).alloc o2).grownBy w1 v.ownBlock) (hown' : w1.ownsRow base 66 3 v' (n + 1) ys) :
    (w1.cell? ⟨B, 0, none⟩ = some v ∧ w1.frozen? ⟨B, 0, none⟩ = false) ∧ (w1.setCell ⟨B, 0, none⟩ v').heap[B]? = some (.cells #[v'] 47 (0, 0)) ∧ (w1.setCell ⟨B, 0, none⟩ v').ownsRow base 66 3 v' (n + 1) ys ∧ But2 B v w (w1.setCell ⟨B, 0, none⟩ v') := by
  have h1 := owner_ne (by decide) hown hB
  have e1 : ∀ b, b < w.heap.size → ((w.alloc o1).alloc o2).heap[b]? = w.heap[b]? := fun b hb =>
    (Below.heap_alloc _ o2 b (by simp; omega)).trans (Below.heap_alloc w o1 b hb)
  have hB1 : w1.heap[B]? = some (.cells #[v] 47 (0, 0)) := by
    rw [hg.block B (by simp; omega) (fun e => h1 e.symm), e1 B hlt, hB]
  have h2 := owner_ne (by decide) hown' hB1
  refine ⟨⟨by rw [cell_of_row w1 B 0 _ _ _ hB1]; rfl, by simp [World.frozen?, hB1]⟩, setCell_heap_same hB1, hown'.kept (grownBy_setCell w1 _ _) (.inr h2), hg.os, hg.tape, hg.output, ?_, ?_⟩
  · have := hg.size
    simp [World.setCell] at this ⊢
    omega
  · intro b hb hbB hbv
    rw [Below.heap_setCell w1 _ _ b hbB, hg.block b (by simp; omega) (fun e => hbv e.symm), e1 b hb]

theorem yield_any (base : Nat) (w : World) (B : Nat) (v : Value) (ts : List Tok) (t : Tok) (p : Int) (hH : Held base w B v ts) (hn : ts.length ≤ 20000) (hbase : base ≤ w.heap.size) :
    Calls Tryd.prog 36 #[.int .i64 p, .agg #[.int .i64 t.kind, .string (bs t.text), .int .i64 t.num], .pointer (some ⟨B, 0, none⟩)] w fun e w' =>
      e = .returned (.bool true) ∧ But2 B v w w' ∧ ∃ v', Held base w' B v' (ts ++ [t]) := by
  obtain ⟨i0, hi, hz0, hz1, hz2⟩ := info_parts infoTok
  have hlt := hH.lt
  obtain ⟨hB, hbB, hown⟩ := hH
  obtain ⟨A, c, rfl⟩ := owns_shape hown
  have hc : w.cell? ⟨B, 0, none⟩ = some (.slice A ts.length c) := by simp [World.cell?, hB]
  have HB := Lib.hid hB
  have HO := Lib.hid hown
  have HI := Lib.hid hi
  have H0 := Lib.hid hz0
  have H1 := Lib.hid hz1
  have H2 := Lib.hid hz2
  clear hB hown hi hz0 hz1 hz2
  have hcs : Hid (cellsT (ts ++ [t]) = cellsT ts ++ [.int .i64 t.kind, .string (bs t.text), .int .i64 t.num]) := cellsT_snoc ts t
  generalize hx : bs t.text = x at *
  generalize t.kind = k at *
  generalize t.num = m at *
  clear hx
  have HN := Lib.hid hn
  clear hn
  have hq : ∀ u ∈ [Value.int .i64 k, .string x, .int .i64 m], u.oneCell' = true := by simp [Value.oneCell']
  have HQ := Lib.hid hq
  clear hq
  go_enter Tryd.func36, Tryd.ntmps36
  go_wp2_with (at_builtin; go_must (refine wpList_append_own _ rfl _ _ 47 rfl base 66 i0 noTok 3 32 Tryd.underlying47 HI.out H0.out H1.out H2.out rfl (by decide) _ _ _ rfl ((HO.out.alloc _).alloc _) ⟨w.heap.size + 1, 0, none⟩ 1 1 [.int .i64 k, .string x, .int .i64 m] rfl rfl (cells_new _ #[.int .i64 k, .string x, .int .i64 m] _ _ (by simp)) HQ.out ?c3 ?c4 ?c5 ?_); go_must (case c3 => (have := HN.out; unfold maxLen; omega)); go_must (case c4 => (have := HN.out; omega)); go_must (case c5 => (simp; omega)); go_must (intro v' w1 hown' hg _); go_must (obtain ⟨g', cap', rfl⟩ := ownsRow_succ hown'); go_must (have hh := Lib.hid (held_next HB.out hlt HO.out hg hown')); go_must (obtain ⟨hc1, hf1⟩ := hh.out.1))
  go_ret
  exact ⟨rfl, hh.out.2.2.2, _, hh.out.2.1, hbB, by rw [hcs.out, List.length_append]; exact hh.out.2.2.1⟩

theorem But2.below {base B : Nat} {v : Value} {w w' : World} (h : But2 B v w w') (hB : base ≤ B) (hv : ∀ b, v.ownBlock = some b → base ≤ b) (hbase : base ≤ w.heap.size) : Below base w w' :=
  ⟨h.os, h.tape, h.output, h.size, fun k hk => h.block k (by omega) (by omega) (fun e => by have := hv k e; omega)⟩

theorem Held.below {base : Nat} {w w' : World} {B : Nat} {v : Value} {ts : List Tok} (h : Held base w B v ts) (hb : Below w.heap.size w w') : Held base w' B v ts := by
  have hlt := h.lt
  refine ⟨(hb.block B hlt).trans h.1, h.2.1, h.2.2.kept (row := none) ⟨hb.os, hb.tape, hb.output, hb.size, fun k hk _ => hb.block k hk⟩ ?_⟩
  cases v.ownBlock <;> simp

end Lx
end Go.Proofs.YtacgbogedpoojabDoor
