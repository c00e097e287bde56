/- The contract of the reference's reader's Item: what is common to its ways. Conditions: the reader's block is its own; at most 16384 tokens, each of which is one by itself. -/
import Derived.Test.YtnahhlhkbfdlhaaGreatDoorRdc
import Derived.Test.YtnahhlhkbfdlhaaGreatDoorItemC
import Derived.Deep.Cut
namespace Go.Proofs.YtnahhlhkbfdlhaaGreatDoor
set_option linter.unusedSimpArgs false
set_option linter.unusedVariables false
namespace Lx
open Go Go.RowKit

theorem kw_type : KW (ByteArray.mk #[116, 121, 112, 101]).data.toList := ⟨by simp, 1, .inl rfl, rfl⟩
theorem kw_pred : KW (ByteArray.mk #[112, 114, 101, 100]).data.toList := ⟨by simp, 1, .inl rfl, rfl⟩
theorem kw_mode : KW (ByteArray.mk #[109, 111, 100, 101]).data.toList := ⟨by simp, 1, .inl rfl, rfl⟩
theorem kw_bar : KW (ByteArray.mk #[124]).data.toList := ⟨by simp, 4, .inr rfl, rfl⟩
theorem kw_in : KW (ByteArray.mk #[105, 110]).data.toList := ⟨by simp, 1, .inl rfl, rfl⟩
theorem kw_out : KW (ByteArray.mk #[111, 117, 116]).data.toList := ⟨by simp, 1, .inl rfl, rfl⟩
theorem kw_is : KW (ByteArray.mk #[105, 115]).data.toList := ⟨by simp, 1, .inl rfl, rfl⟩
theorem kw_det : KW (ByteArray.mk #[100, 101, 116]).data.toList := ⟨by simp, 1, .inl rfl, rfl⟩
theorem kw_semidet : KW (ByteArray.mk #[115, 101, 109, 105, 100, 101, 116]).data.toList := ⟨by simp, 1, .inl rfl, rfl⟩
theorem kw_multi : KW (ByteArray.mk #[109, 117, 108, 116, 105]).data.toList := ⟨by simp, 1, .inl rfl, rfl⟩
theorem kw_nondet : KW (ByteArray.mk #[110, 111, 110, 100, 101, 116]).data.toList := ⟨by simp, 1, .inl rfl, rfl⟩
theorem kw_arrow : KW (ByteArray.mk #[58, 45]).data.toList := ⟨by simp, 4, .inr rfl, rfl⟩
theorem kw_dot : KW (ByteArray.mk #[46]).data.toList := ⟨by simp, 4, .inr rfl, rfl⟩
def ShIt (v : Value) : Prop := ∃ i1 i2 i3 i4 i5 i6 i7 i8 i9 ia ib ic id ie ig ih ii ij z1 z2 z3 z4 z5 z6 z7 z8 z9 za zb zc zd ze zf zg zh zi zj zk, v = .agg #[.int .i64 i1, .string i2, .slice i3 i4 i5, .slice i6 i7 i8, .slice i9 ia ib, .slice ic id ie, .int .i64 ig, .slice ih ii ij, .int .i64 z1, .int .i64 z2, .string z3, .int .i64 z4, .slice z5 z6 z7, .int .i64 z8, .string z9, .int .i64 za, .slice zb zc zd, .string ze, .slice zf zg zh, .slice zi zj zk]
theorem ItemV.sh : ∀ x v lo hi w, ItemV x v lo hi w → ShIt v := fun _ _ _ _ _ h => ItemV.this h
theorem infoIt20 : (Tryz.prog.info? 67).map (·.size) = some 20 := by kernel_rfl
def zeroIB (w : World) (B : Nat) : Prop := w.heap[B]? = some (.cells #[.int .i64 0, .string ⟨#[]⟩, .slice none 0 0, .slice none 0 0, .slice none 0 0, .slice none 0 0, .int .i64 0, .slice none 0 0, .int .i64 0, .int .i64 0, .string ⟨#[]⟩, .int .i64 0, .slice none 0 0, .int .i64 0, .string ⟨#[]⟩, .int .i64 0, .slice none 0 0, .string ⟨#[]⟩, .slice none 0 0, .slice none 0 0] 67 (0, 0))
/-- The result is written as a whole. -/
theorem rputAll {w w3 : World} {b : Nat} {A : Option Addr} {c : Nat} {ts : List Tok} {k k0 : Nat} {er er0 : Int} (h : Rd w b A c ts k0 er0) (hf : PFr b w w3) (hp : Rd w3 b A c ts k er) {Z C : Array Value} {T : TypeId} (hz : w3.heap[w.heap.size]? = some (.cells Z T (0, 0))) (hC : C.size = Z.size) :
    (w3.setCells w.heap.size 0 C.toList).heap[w.heap.size]? = some (.cells C T (0, 0)) ∧ Rd (w3.setCells w.heap.size 0 C.toList) b A c ts k er ∧ PFr b w (w3.setCells w.heap.size 0 C.toList) ∧ HiEq (w.heap.size + 1) w3 (w3.setCells w.heap.size 0 C.toList) := by
  have hfr : PFr b w (w3.setCells w.heap.size 0 C.toList) :=
    ⟨(sets_os _ _ _ _).1.trans hf.os, (sets_os _ _ _ _).2.1.trans hf.tape, (sets_os _ _ _ _).2.2.trans hf.output, by rw [sets_size]; exact hf.size, fun j hj hn => (sets_else _ _ _ _ j (Nat.ne_of_lt hj)).trans (hf.block j hj hn)⟩
  refine ⟨sets_all C hz hC, h.move hfr ?_ hp.near hp.nest0 hp.nest1, hfr, sets_size _ _ _ _, fun j hj => sets_else _ _ _ _ j (by omega)⟩
  rw [sets_else _ _ _ _ b (Nat.ne_of_lt h.lt)]
  exact hp.blk
theorem sets_goal {w : World} {N : Nat} {T : TypeId} {a0 a1 a2 a3 a4 a5 a6 a7 : Value} {L G : List Value} (h : w.heap[N]? = some (.cells ⟨a0 :: a1 :: a2 :: a3 :: a4 :: a5 :: a6 :: a7 :: L⟩ T (0, 0))) (hL : L.length = 12) (hG : G.length = 12) :
    (w.setCells N 8 G).heap[N]? = some (.cells ⟨a0 :: a1 :: a2 :: a3 :: a4 :: a5 :: a6 :: a7 :: G⟩ T (0, 0)) := by
  obtain ⟨C', h1, h2, h3⟩ := sets_blk N G 8 w _ h (by simp; omega)
  rw [h1]
  congr 2
  apply Array.ext_getElem?
  intro q
  rw [h3 q]
  simp only [List.getElem?_toArray]
  match q with
  | 0 => rw [if_neg (by omega)]; rfl
  | 1 => rw [if_neg (by omega)]; rfl
  | 2 => rw [if_neg (by omega)]; rfl
  | 3 => rw [if_neg (by omega)]; rfl
  | 4 => rw [if_neg (by omega)]; rfl
  | 5 => rw [if_neg (by omega)]; rfl
  | 6 => rw [if_neg (by omega)]; rfl
  | 7 => rw [if_neg (by omega)]; rfl
  | q + 8 =>
    by_cases hq : q < 12
    · rw [if_pos (by omega), show q + 8 - 8 = q by omega]
      rfl
    · rw [if_neg (by omega)]
      show L[q]? = G[q]?
      rw [List.getElem?_eq_none (by omega), List.getElem?_eq_none (by omega)]
theorem there_goal {w : World} {N : Nat} {T : TypeId} {a0 a1 a2 a3 a4 a5 a6 a7 : Value} {L : List Value} (h : w.heap[N]? = some (.cells ⟨a0 :: a1 :: a2 :: a3 :: a4 :: a5 :: a6 :: a7 :: L⟩ T (0, 0))) (hL : L.length = 12) : w.there N 8 12 := fun j hj => by
  refine ⟨?_, Lib.frozen_of_heap h _⟩
  rw [cell_of_row w N (8 + j) _ T (0, 0) h, List.getElem?_toArray, show 8 + j = j + 8 by omega]
  show (L[j]?).isSome = true
  rw [List.getElem?_eq_getElem (by omega)]
  rfl
theorem Rd.sets {w0 X : World} {b : Nat} {A : Option Addr} {c : Nat} {ts : List Tok} {k k0 : Nat} {er er0 : Int} (h0 : Rd w0 b A c ts k0 er0) (hf : PFr b w0 X) (hp : Rd X b A c ts k er) {N : Nat} (hN : w0.heap.size ≤ N) (i : Nat) (l : List Value) : Rd (X.setCells N i l) b A c ts k er ∧ PFr b w0 (X.setCells N i l) := by
  have hfr : PFr b w0 (X.setCells N i l) := ⟨(sets_os _ _ _ _).1.trans hf.os, (sets_os _ _ _ _).2.1.trans hf.tape, (sets_os _ _ _ _).2.2.trans hf.output, by rw [sets_size]; exact hf.size, fun j hj hn => (sets_else _ _ _ _ j (by omega)).trans (hf.block j hj hn)⟩
  refine ⟨h0.move hfr ?_ hp.near hp.nest0 hp.nest1, hfr⟩
  rw [sets_else _ _ _ _ b (by have := h0.lt; omega)]
  exact hp.blk
theorem zero_sets {x : World} {R N i : Nat} {l : List Value} (h : R ≠ N) (hz : zeroIB x R) : zeroIB (x.setCells N i l) R := (sets_else _ _ _ _ _ h).trans hz
theorem zero_pfr {b : Nat} {x y : World} (h : PFr b x y) (R : Nat) (h1 : R < x.heap.size) (h2 : R ≠ b) (hz : zeroIB x R) : zeroIB y R := (h.block R h1 h2).trans hz
theorem zero_put {x : World} {R N i : Nat} {v : Value} (h : R ≠ N) (hz : zeroIB x R) : zeroIB (x.setCell ⟨N, i, none⟩ v) R := (Below.heap_setCell _ _ _ _ h).trans hz
/-- The two new blocks: the result, and the item that is made. -/
theorem item_begin {w : World} {b : Nat} {A : Option Addr} {c : Nat} {ts : List Tok} {k : Nat} {er : Int} {C : Array Value} (h : Rd w b A c ts k er) (hY : ((w.alloc (.cells #[.int .i64 0, .string ⟨#[]⟩, .slice none 0 0, .slice none 0 0, .slice none 0 0, .slice none 0 0, .int .i64 0, .slice none 0 0, .int .i64 0, .int .i64 0, .string ⟨#[]⟩, .int .i64 0, .slice none 0 0, .int .i64 0, .string ⟨#[]⟩, .int .i64 0, .slice none 0 0, .string ⟨#[]⟩, .slice none 0 0, .slice none 0 0] 67)).alloc (.cells #[.int .i64 0, .string ⟨#[]⟩, .slice none 0 0, .slice none 0 0, .slice none 0 0, .slice none 0 0, .int .i64 0, .slice none 0 0, .int .i64 0, .int .i64 0, .string ⟨#[]⟩, .int .i64 0, .slice none 0 0, .int .i64 0, .string ⟨#[]⟩, .int .i64 0, .slice none 0 0, .string ⟨#[]⟩, .slice none 0 0, .slice none 0 0] 67)).heap[w.heap.size + 1]? = some (.cells #[.int .i64 0, .string ⟨#[]⟩, .slice none 0 0, .slice none 0 0, .slice none 0 0, .slice none 0 0, .int .i64 0, .slice none 0 0, .int .i64 0, .int .i64 0, .string ⟨#[]⟩, .int .i64 0, .slice none 0 0, .int .i64 0, .string ⟨#[]⟩, .int .i64 0, .slice none 0 0, .string ⟨#[]⟩, .slice none 0 0, .slice none 0 0] 67 (0, 0))) (hC : C.size = 20) :
    (((w.alloc (.cells #[.int .i64 0, .string ⟨#[]⟩, .slice none 0 0, .slice none 0 0, .slice none 0 0, .slice none 0 0, .int .i64 0, .slice none 0 0, .int .i64 0, .int .i64 0, .string ⟨#[]⟩, .int .i64 0, .slice none 0 0, .int .i64 0, .string ⟨#[]⟩, .int .i64 0, .slice none 0 0, .string ⟨#[]⟩, .slice none 0 0, .slice none 0 0] 67)).alloc (.cells #[.int .i64 0, .string ⟨#[]⟩, .slice none 0 0, .slice none 0 0, .slice none 0 0, .slice none 0 0, .int .i64 0, .slice none 0 0, .int .i64 0, .int .i64 0, .string ⟨#[]⟩, .int .i64 0, .slice none 0 0, .int .i64 0, .string ⟨#[]⟩, .int .i64 0, .slice none 0 0, .string ⟨#[]⟩, .slice none 0 0, .slice none 0 0] 67)).setCells (w.heap.size + 1) 0 C.toList).heap[w.heap.size + 1]? = some (.cells C 67 (0, 0)) ∧ zeroIB (((w.alloc (.cells #[.int .i64 0, .string ⟨#[]⟩, .slice none 0 0, .slice none 0 0, .slice none 0 0, .slice none 0 0, .int .i64 0, .slice none 0 0, .int .i64 0, .int .i64 0, .string ⟨#[]⟩, .int .i64 0, .slice none 0 0, .int .i64 0, .string ⟨#[]⟩, .int .i64 0, .slice none 0 0, .string ⟨#[]⟩, .slice none 0 0, .slice none 0 0] 67)).alloc (.cells #[.int .i64 0, .string ⟨#[]⟩, .slice none 0 0, .slice none 0 0, .slice none 0 0, .slice none 0 0, .int .i64 0, .slice none 0 0, .int .i64 0, .int .i64 0, .string ⟨#[]⟩, .int .i64 0, .slice none 0 0, .int .i64 0, .string ⟨#[]⟩, .int .i64 0, .slice none 0 0, .string ⟨#[]⟩, .slice none 0 0, .slice none 0 0] 67)).setCells (w.heap.size + 1) 0 C.toList) w.heap.size ∧
    Rd (((w.alloc (.cells #[.int .i64 0, .string ⟨#[]⟩, .slice none 0 0, .slice none 0 0, .slice none 0 0, .slice none 0 0, .int .i64 0, .slice none 0 0, .int .i64 0, .int .i64 0, .string ⟨#[]⟩, .int .i64 0, .slice none 0 0, .int .i64 0, .string ⟨#[]⟩, .int .i64 0, .slice none 0 0, .string ⟨#[]⟩, .slice none 0 0, .slice none 0 0] 67)).alloc (.cells #[.int .i64 0, .string ⟨#[]⟩, .slice none 0 0, .slice none 0 0, .slice none 0 0, .slice none 0 0, .int .i64 0, .slice none 0 0, .int .i64 0, .int .i64 0, .string ⟨#[]⟩, .int .i64 0, .slice none 0 0, .int .i64 0, .string ⟨#[]⟩, .int .i64 0, .slice none 0 0, .string ⟨#[]⟩, .slice none 0 0, .slice none 0 0] 67)).setCells (w.heap.size + 1) 0 C.toList) b A c ts k er ∧ PFr b w (((w.alloc (.cells #[.int .i64 0, .string ⟨#[]⟩, .slice none 0 0, .slice none 0 0, .slice none 0 0, .slice none 0 0, .int .i64 0, .slice none 0 0, .int .i64 0, .int .i64 0, .string ⟨#[]⟩, .int .i64 0, .slice none 0 0, .int .i64 0, .string ⟨#[]⟩, .int .i64 0, .slice none 0 0, .string ⟨#[]⟩, .slice none 0 0, .slice none 0 0] 67)).alloc (.cells #[.int .i64 0, .string ⟨#[]⟩, .slice none 0 0, .slice none 0 0, .slice none 0 0, .slice none 0 0, .int .i64 0, .slice none 0 0, .int .i64 0, .int .i64 0, .string ⟨#[]⟩, .int .i64 0, .slice none 0 0, .int .i64 0, .string ⟨#[]⟩, .int .i64 0, .slice none 0 0, .string ⟨#[]⟩, .slice none 0 0, .slice none 0 0] 67)).setCells (w.heap.size + 1) 0 C.toList) ∧ w.heap.size + 2 ≤ (((w.alloc (.cells #[.int .i64 0, .string ⟨#[]⟩, .slice none 0 0, .slice none 0 0, .slice none 0 0, .slice none 0 0, .int .i64 0, .slice none 0 0, .int .i64 0, .int .i64 0, .string ⟨#[]⟩, .int .i64 0, .slice none 0 0, .int .i64 0, .string ⟨#[]⟩, .int .i64 0, .slice none 0 0, .string ⟨#[]⟩, .slice none 0 0, .slice none 0 0] 67)).alloc (.cells #[.int .i64 0, .string ⟨#[]⟩, .slice none 0 0, .slice none 0 0, .slice none 0 0, .slice none 0 0, .int .i64 0, .slice none 0 0, .int .i64 0, .int .i64 0, .string ⟨#[]⟩, .int .i64 0, .slice none 0 0, .int .i64 0, .string ⟨#[]⟩, .int .i64 0, .slice none 0 0, .string ⟨#[]⟩, .slice none 0 0, .slice none 0 0] 67)).setCells (w.heap.size + 1) 0 C.toList).heap.size := by
  have hz : ((w.alloc (.cells #[.int .i64 0, .string ⟨#[]⟩, .slice none 0 0, .slice none 0 0, .slice none 0 0, .slice none 0 0, .int .i64 0, .slice none 0 0, .int .i64 0, .int .i64 0, .string ⟨#[]⟩, .int .i64 0, .slice none 0 0, .int .i64 0, .string ⟨#[]⟩, .int .i64 0, .slice none 0 0, .string ⟨#[]⟩, .slice none 0 0, .slice none 0 0] 67)).alloc (.cells #[.int .i64 0, .string ⟨#[]⟩, .slice none 0 0, .slice none 0 0, .slice none 0 0, .slice none 0 0, .int .i64 0, .slice none 0 0, .int .i64 0, .int .i64 0, .string ⟨#[]⟩, .int .i64 0, .slice none 0 0, .int .i64 0, .string ⟨#[]⟩, .int .i64 0, .slice none 0 0, .string ⟨#[]⟩, .slice none 0 0, .slice none 0 0] 67)).heap[w.heap.size]? = some (.cells #[.int .i64 0, .string ⟨#[]⟩, .slice none 0 0, .slice none 0 0, .slice none 0 0, .slice none 0 0, .int .i64 0, .slice none 0 0, .int .i64 0, .int .i64 0, .string ⟨#[]⟩, .int .i64 0, .slice none 0 0, .int .i64 0, .string ⟨#[]⟩, .int .i64 0, .slice none 0 0, .string ⟨#[]⟩, .slice none 0 0, .slice none 0 0] 67 (0, 0)) := (Below.heap_alloc _ _ _ (by simp)).trans (heap_alloc_new w _)
  have hp := (h.alloc (.cells #[.int .i64 0, .string ⟨#[]⟩, .slice none 0 0, .slice none 0 0, .slice none 0 0, .slice none 0 0, .int .i64 0, .slice none 0 0, .int .i64 0, .int .i64 0, .string ⟨#[]⟩, .int .i64 0, .slice none 0 0, .int .i64 0, .string ⟨#[]⟩, .int .i64 0, .slice none 0 0, .string ⟨#[]⟩, .slice none 0 0, .slice none 0 0] 67)).alloc (.cells #[.int .i64 0, .string ⟨#[]⟩, .slice none 0 0, .slice none 0 0, .slice none 0 0, .slice none 0 0, .int .i64 0, .slice none 0 0, .int .i64 0, .int .i64 0, .string ⟨#[]⟩, .int .i64 0, .slice none 0 0, .int .i64 0, .string ⟨#[]⟩, .int .i64 0, .slice none 0 0, .string ⟨#[]⟩, .slice none 0 0, .slice none 0 0] 67)
  have hf := ((PFr.refl b w).alloc (.cells #[.int .i64 0, .string ⟨#[]⟩, .slice none 0 0, .slice none 0 0, .slice none 0 0, .slice none 0 0, .int .i64 0, .slice none 0 0, .int .i64 0, .int .i64 0, .string ⟨#[]⟩, .int .i64 0, .slice none 0 0, .int .i64 0, .string ⟨#[]⟩, .int .i64 0, .slice none 0 0, .string ⟨#[]⟩, .slice none 0 0, .slice none 0 0] 67)).alloc (.cells #[.int .i64 0, .string ⟨#[]⟩, .slice none 0 0, .slice none 0 0, .slice none 0 0, .slice none 0 0, .int .i64 0, .slice none 0 0, .int .i64 0, .int .i64 0, .string ⟨#[]⟩, .int .i64 0, .slice none 0 0, .int .i64 0, .string ⟨#[]⟩, .int .i64 0, .slice none 0 0, .string ⟨#[]⟩, .slice none 0 0, .slice none 0 0] 67)
  have hs : ((w.alloc (.cells #[.int .i64 0, .string ⟨#[]⟩, .slice none 0 0, .slice none 0 0, .slice none 0 0, .slice none 0 0, .int .i64 0, .slice none 0 0, .int .i64 0, .int .i64 0, .string ⟨#[]⟩, .int .i64 0, .slice none 0 0, .int .i64 0, .string ⟨#[]⟩, .int .i64 0, .slice none 0 0, .string ⟨#[]⟩, .slice none 0 0, .slice none 0 0] 67)).alloc (.cells #[.int .i64 0, .string ⟨#[]⟩, .slice none 0 0, .slice none 0 0, .slice none 0 0, .slice none 0 0, .int .i64 0, .slice none 0 0, .int .i64 0, .int .i64 0, .string ⟨#[]⟩, .int .i64 0, .slice none 0 0, .int .i64 0, .string ⟨#[]⟩, .int .i64 0, .slice none 0 0, .string ⟨#[]⟩, .slice none 0 0, .slice none 0 0] 67)).heap.size = w.heap.size + 2 := by simp
  generalize (w.alloc (.cells #[.int .i64 0, .string ⟨#[]⟩, .slice none 0 0, .slice none 0 0, .slice none 0 0, .slice none 0 0, .int .i64 0, .slice none 0 0, .int .i64 0, .int .i64 0, .string ⟨#[]⟩, .int .i64 0, .slice none 0 0, .int .i64 0, .string ⟨#[]⟩, .int .i64 0, .slice none 0 0, .string ⟨#[]⟩, .slice none 0 0, .slice none 0 0] 67)).alloc (.cells #[.int .i64 0, .string ⟨#[]⟩, .slice none 0 0, .slice none 0 0, .slice none 0 0, .slice none 0 0, .int .i64 0, .slice none 0 0, .int .i64 0, .int .i64 0, .string ⟨#[]⟩, .int .i64 0, .slice none 0 0, .int .i64 0, .string ⟨#[]⟩, .int .i64 0, .slice none 0 0, .string ⟨#[]⟩, .slice none 0 0, .slice none 0 0] 67) = Y at *
  have hfr : PFr b w (Y.setCells (w.heap.size + 1) 0 C.toList) := hf.sets (by omega) C.toList
  refine ⟨sets_all C hY hC, (sets_else _ _ _ _ _ (by omega)).trans hz, h.move hfr ?_ hp.near hp.nest0 hp.nest1, hfr, by rw [sets_size]; omega⟩
  rw [sets_else _ _ _ _ b (by have := h.lt; omega)]
  exact hp.blk
theorem zero_fr2 {b bx : Nat} {x y : World} (h : Fr2 b bx x y) (R : Nat) (h1 : R < x.heap.size) (h2 : R ≠ b) (h3 : R ≠ bx) (hz : zeroIB x R) : zeroIB y R := (h.block R h1 h2 h3).trans hz
def ShS (v : Value) : Prop := ∃ y, v = .string y
theorem strH.sh : ∀ x v lo hi w, strH x v lo hi w → ShS v := fun _ _ _ _ _ h => ⟨_, h⟩
theorem rvar_genc (b : Nat) (A : Option Addr) (c : Nat) (ts : List Tok) : GenC 48 #[.pointer (some ⟨b, 0, none⟩), .int .i64 2] b A c ts strH ShS (varO ts) := by
  intro w k er O hc h hk
  rcases hc with ⟨rfl, rfl⟩ | ⟨i, rfl, rfl⟩
  · refine (rvar_any w b A c ts k h).mono ?_
    intro e w' hq
    cases hn : varO ts k with
    | ok s k' =>
      rw [hn] at hq
      obtain ⟨rfl, hp, hf⟩ := hq
      exact ⟨_, rfl, rfl, hp, hf⟩
    | no i =>
      rw [hn] at hq
      obtain ⟨rfl, hp, hf⟩ := hq
      have hi : i = 2 := by
        unfold varO at hn
        split at hn
        · cases hn
        · injection hn with hn
          exact hn.symm
      subst hi
      exact ⟨_, k, rfl, ⟨_, rfl⟩, hk, hp, hf⟩
  · refine (rword_err w b A c ts k (erN i) 2 h (erN_ne i)).mono ?_
    rintro e w' ⟨rfl, hp, hf⟩
    exact ⟨_, k, rfl, ⟨_, rfl⟩, hk, hp, hf⟩
def typeR (ts : List Tok) (k : Nat) : Out ItemT := bindO (nameO ts k) (fun s k1 => bindO (argsO (varO ts) ts k1) (fun vs k2 => bindO (expO ts k2 [61]) (fun _ k3 => bindO (rowO (ctorO ts 0) ts [124] 16384 k3) (fun cs k4 => .ok ⟨1, s, vs, cs, [], [], 0, [], zeroG⟩ k4))))
theorem typeItemO_eq (ts : List Tok) (k : Nat) : typeItemO ts 0 k = typeR ts k := by
  unfold typeItemO typeR
  cases nameO ts k with
  | no i => rfl
  | ok s k1 =>
    show _ = bindO (argsO (varO ts) ts k1) _
    dsimp only
    cases argsO (varO ts) ts k1 with
    | no i => rfl
    | ok vs k2 =>
      show _ = bindO (expO ts k2 [61]) _
      dsimp only
      cases expO ts k2 [61] with
      | no i => rfl
      | ok u k3 =>
        show _ = bindO (rowO (ctorO ts 0) ts [124] 16384 k3) _
        dsimp only
        cases rowO (ctorO ts 0) ts [124] 16384 k3 <;> rfl
def predR (ts : List Tok) (k : Nat) : Out ItemT := bindO (nameO ts k) (fun s k1 => bindO (argsO (typeO ts 66 0) ts k1) (fun l k2 => .ok ⟨2, s, [], [], l, [], 0, [], zeroG⟩ k2))
theorem predO_eq (ts : List Tok) (k : Nat) : predO ts 0 k = predR ts k := by
  unfold predO predR
  cases nameO ts k with
  | no i => rfl
  | ok s k1 =>
    show _ = bindO (argsO (typeO ts 66 0) ts k1) _
    dsimp only
    cases argsO (typeO ts 66 0) ts k1 <;> rfl
def modeR (ts : List Tok) (k : Nat) : Out ItemT := bindO (nameO ts k) (fun s k1 => bindO (argsO (wayO ts) ts k1) (fun ws k2 => bindO (expO ts k2 [105, 115]) (fun _ k3 => bindO (detO ts k3) (fun d k4 => .ok ⟨3, s, [], [], [], ws, d, [], zeroG⟩ k4))))
theorem modeItemO_eq (ts : List Tok) (k : Nat) : modeItemO ts k = modeR ts k := by
  unfold modeItemO modeR
  cases nameO ts k with
  | no i => rfl
  | ok s k1 =>
    show _ = bindO (argsO (wayO ts) ts k1) _
    dsimp only
    cases argsO (wayO ts) ts k1 with
    | no i => rfl
    | ok vs k2 =>
      show _ = bindO (expO ts k2 [105, 115]) _
      dsimp only
      cases expO ts k2 [105, 115] with
      | no i => rfl
      | ok u k3 =>
        show _ = bindO (detO ts k3) _
        dsimp only
        cases detO ts k3 <;> rfl
def clauseR (ts : List Tok) (k : Nat) : Out ItemT := bindO (nameO ts k) (fun s k1 => bindO (argsO (termO ts 66 0) ts k1) (fun l k2 => if hasT ts k2 [58, 45] = true then bindO (goalO (primO ts 66 0) ts (k2 + 1)) (fun g k3 => .ok ⟨4, s, [], [], [], [], 0, l, g⟩ k3) else .ok ⟨4, s, [], [], [], [], 0, l, trueG⟩ k2))
theorem clauseO_eq (ts : List Tok) (k : Nat) : clauseO ts 0 k = clauseR ts k := by
  unfold clauseO clauseR
  cases nameO ts k with
  | no i => rfl
  | ok s k1 =>
    show _ = bindO (argsO (termO ts 66 0) ts k1) _
    dsimp only
    cases argsO (termO ts 66 0) ts k1 with
    | no i => rfl
    | ok l k2 =>
      show _ = (if _ then _ else _)
      dsimp only
      split
      · cases goalO (primO ts 66 0) ts (k2 + 1) <;> rfl
      · rfl

end Lx
end Go.Proofs.YtnahhlhkbfdlhaaGreatDoor
