/- A row in cells, as a loop holds it; a goal's two rows in the reader's steps. Conditions: the reader's block is its own. -/
import Derived.Test.YtnahhlhkbfdlhaaGreatDoorRdk
import Derived.Test.YtnahhlhkbfdlhaaGreatDoorRowA
namespace Go.Proofs.YtnahhlhkbfdlhaaGreatDoor
set_option linter.unusedSimpArgs false
set_option linter.unusedVariables false
namespace Lx
open Go Go.RowKit

/-- A row of things in cells, its own block from B on. -/
structure RowH {α : Type} (t : TypeId) (sz : Nat) (V : Holds α) (B : Nat) (wr : World) (s : Option Addr) (cap : Nat) (acc : List α) (vs : List Value) (g : Nat) : Prop where
  val : (acc = [] ∧ s = none ∧ cap = 0) ∨ s = some ⟨g, 0, none⟩
  own : wr.ownsRow B t sz (.slice s acc.length cap) acc.length (vs.flatMap cellsL)
  items : Items V B wr.heap.size g wr acc vs
section
variable {α : Type} {t : TypeId} {sz : Nat} {V V' : Holds α} {B b : Nat} {w wr w4 w6 : World} {s : Option Addr} {cap : Nat} {acc : List α} {vs : List Value} {g : Nat}
theorem RowH.fr (h : RowH t sz V B wr s cap acc vs g) (hV : Stable V) (hb : b < B) (hf : PFr b wr w4) : RowH t sz V B w4 s cap acc vs g :=
  ⟨h.val, own_fr h.own hf hb, Items.fr hV hf hb h.items⟩
theorem RowH.imp (h : RowH t sz V B wr s cap acc vs g) (hVV : ∀ x v lo hi w, V x v lo hi w → V' x v lo hi w) : RowH t sz V' B wr s cap acc vs g := ⟨h.val, h.own, h.items.imp hVV⟩
theorem RowH.held (h : RowH t sz V B wr s cap acc vs g) : ArgsV t sz V acc (.slice s acc.length cap) B wr.heap.size wr := by
  rcases h.val with ⟨rfl, rfl, rfl⟩ | rfl
  · exact .inl ⟨rfl, rfl⟩
  · exact .inr ⟨g, cap, vs, rfl, (h.own.lt g rfl).2, h.own, h.items⟩
theorem RowH.ownB (h : RowH t sz V B wr s cap acc vs g) {j : Nat} (hj : (Value.slice s acc.length cap).ownBlock = some j) : B ≤ j ∧ j < wr.heap.size := h.own.lt j hj
/-- Behind an append to the row: all but its own block is as it was. -/
theorem RowH.grow (h : RowH t sz V B wr s cap acc vs g) (hb : b < B) (hB : B ≤ wr.heap.size) (hw : w.heap.size ≤ B) (hf : PFr b w wr) {o : Obj} (hf4 : PFr b wr w4) (hg : (w4.alloc o).grownBy w6 (Value.slice s acc.length cap).ownBlock) :
    PFr b w w6 ∧ w4.heap.size ≤ w6.heap.size ∧ (∀ j, j < w4.heap.size → some j ≠ (Value.slice s acc.length cap).ownBlock → w6.heap[j]? = w4.heap[j]?) ∧ (∀ j, j < B → w6.heap[j]? = w4.heap[j]?) := by
  have hs4 := hf4.size
  have hfr : PFr b w w6 := ((hf.trans hf4).alloc o).grown hg (fun j hj => Nat.le_trans hw (h.ownB hj).1)
  have hblk : ∀ j, j < w4.heap.size → some j ≠ (Value.slice s acc.length cap).ownBlock → w6.heap[j]? = w4.heap[j]? := fun j hj hn => (hg.block j (by simp; omega) hn).trans (Below.heap_alloc w4 o j hj)
  exact ⟨hfr, by have := hg.size; simp at this; omega, hblk, fun j hj => hblk j (by omega) (fun e => by have := (h.ownB e.symm).1; omega)⟩
theorem RowH.snoc (h : RowH t sz V B wr s cap acc vs g) (hV : Stable V) (hb : b < B) (hB : B ≤ wr.heap.size) {x2 : α} {v2 : Value} {o : Obj} {lo4 g2 cap2 : Nat} (hf4 : PFr b wr w4) (hlo : wr.heap.size ≤ lo4) (hv4 : V x2 v2 lo4 w4.heap.size w4)
    (hown : w6.ownsRow B t sz (.slice (some ⟨g2, 0, none⟩) (acc.length + 1) cap2) (acc.length + 1) (vs.flatMap cellsL ++ cellsL v2)) (hg : (w4.alloc o).grownBy w6 (Value.slice s acc.length cap).ownBlock) (hat : (Value.slice s acc.length cap).ownBlock = some g2 ∨ g2 = (w4.alloc o).heap.size) :
    RowH t sz V B w6 (some ⟨g2, 0, none⟩) cap2 (acc ++ [x2]) (vs ++ [v2]) g2 := by
  have hs4 := hf4.size
  have hs6 : w4.heap.size ≤ w6.heap.size := by have := hg.size; simp at this; omega
  have hblk : ∀ j, j < w4.heap.size → some j ≠ (Value.slice s acc.length cap).ownBlock → w6.heap[j]? = w4.heap[j]? := fun j hj hn => (hg.block j (by simp; omega) hn).trans (Below.heap_alloc w4 o j hj)
  have hlen : (acc ++ [x2]).length = acc.length + 1 := by simp
  refine ⟨.inr rfl, by rw [hlen, flat_snoc]; exact hown, ?_⟩
  have i1 := Items.fr hV hf4 hb h.items
  rcases h.val with ⟨rfl, rfl, rfl⟩ | rfl
  · match vs, i1 with
    | [], _ =>
      have hg2 : g2 = (w4.alloc o).heap.size := by
        rcases hat with e | e
        · cases e
        · exact e
      refine ⟨⟨lo4, w4.heap.size, by omega, hs6, by rw [hg2]; simp <;> omega, ?_⟩, trivial⟩
      exact hV _ _ _ _ _ _ hv4 (fun j _ hj => hblk j hj (fun e => by cases e))
  · have hg3 := h.ownB (j := g) rfl
    have i2 := Items.snoc (x := x2) (v := v2) ⟨lo4, w4.heap.size, by omega, Nat.le_refl _, by omega, hv4⟩ i1
    exact Items.step hV (fun j _ j2 j3 => hblk j j2 (fun e => j3 (Option.some.inj e))) hs6 (by rcases hat with e | e; exact .inl (Option.some.inj e).symm; exact .inr (by rw [e]; simp)) i2
/-- A row of one thing, in a new block. -/
theorem RowH.one {x : α} {v : Value} {cs : Array Value} {lo hi : Nat} (hV : Stable V) (hv : V x v lo hi w) (hlo : B ≤ lo) (hB : B ≤ w.heap.size) (hhi : hi ≤ w.heap.size) (hcs : cellsL v = cs.toList) (hsz : cs.size = sz) :
    RowH t sz V B (w.alloc (.cells cs t)) (some ⟨w.heap.size, 0, none⟩) 1 [x] [v] w.heap.size := by
  refine ⟨.inr rfl, ?_, ⟨⟨lo, hi, hlo, by simp; omega, by omega, hV _ _ _ _ _ _ hv (fun j _ hj => Below.heap_alloc w _ j (by omega))⟩, trivial⟩⟩
  have e : [v].flatMap cellsL = cs.toList := by simp [hcs]
  rw [e]
  exact World.ownsRow_lit w cs 1 (by omega) (by unfold maxLen; omega) (by rw [hsz, Nat.one_mul])
end

/-- Goal's shape. -/
def ShGo (v : Value) : Prop := ∃ z1 z2 z3 z4 z5 z6 z7 z8 z9 za zb zc zd ze zf zg zh zi zj zk, v = .agg #[.int .i64 z1, .int .i64 z2, .string z3, .int .i64 z4, .slice z5 z6 z7, .int .i64 z8, .string z9, .int .i64 za, .slice zb zc zd, .string ze, .slice zf zg zh, .slice zi zj zk]
def shGoV : Holds GoalT := fun _ v _ _ _ => ShGo v
theorem shGoV.stable : Stable shGoV := fun _ _ _ _ _ _ h _ => h
theorem GoalV.sh {d : Nat} : ∀ x v lo hi w, GoalV d x v lo hi w → ShGo v := fun _ _ _ _ _ h => GoalV.this d _ _ _ _ _ h

def tailG (rdC : Nat → Out GoalT) (ts : List Tok) (m : Nat) (acc : List GoalT) (k : Nat) : Out GoalT := bindO (rowLoop rdC ts [59] 16384 m k acc) (fun l k' => .ok (joinG 6 l) k')
def headG (rdC : Nat → Out GoalT) (ts : List Tok) (m : Nat) (acc : List GoalT) (k : Nat) : Out GoalT := bindO (rdC k) (fun x k' => tailG rdC ts m (acc ++ [x]) k')
def tailA (rd : Nat → Out GoalT) (ts : List Tok) (T : GoalT → Nat → Out GoalT) (m : Nat) (acc : List GoalT) (k : Nat) : Out GoalT := bindO (rowLoop rd ts [44] 16384 m k acc) (fun l k' => T (joinG 5 l) k')
theorem goalO_eq (rd : Nat → Out GoalT) (ts : List Tok) (k : Nat) : goalO rd ts k = headG (joinO rd ts [44] 5) ts (ts.length + 1) [] k := by
  unfold goalO headG tailG
  rw [joinO]
  unfold rowO
  cases joinO rd ts [44] 5 k with
  | no i => rfl
  | ok x k' =>
    show _ = bindO (rowLoop (joinO rd ts [44] 5) ts [59] 16384 (ts.length + 1) k' [x]) _
    dsimp only
    cases rowLoop (joinO rd ts [44] 5) ts [59] 16384 (ts.length + 1) k' [x] <;> rfl
theorem headG_eq (rd : Nat → Out GoalT) (ts : List Tok) (m : Nat) (acc : List GoalT) (k : Nat) :
    headG (joinO rd ts [44] 5) ts m acc k = bindO (rd k) (fun x k1 => tailA rd ts (fun g k' => tailG (joinO rd ts [44] 5) ts m (acc ++ [g]) k') (ts.length + 1) [x] k1) := by
  unfold headG tailA
  generalize tailG (joinO rd ts [44] 5) ts m = T
  unfold joinO rowO
  cases rd k with
  | no i => rfl
  | ok x k' =>
    show _ = bindO (rowLoop rd ts [44] 16384 (ts.length + 1) k' [x]) _
    dsimp only
    cases rowLoop rd ts [44] 16384 (ts.length + 1) k' [x] <;> rfl
theorem tailG_yes {rdC : Nat → Out GoalT} {ts : List Tok} {m : Nat} {acc : List GoalT} {k : Nat} (h : hasT ts k [59] = true) (hn : acc.length ≤ k) (hfw : ts.length ≤ 16384) : tailG rdC ts (m + 1) acc k = headG rdC ts m acc (k + 1) := by
  unfold tailG headG
  rw [rowLoop, if_pos h, if_neg (by omega)]
  cases rdC (k + 1) <;> rfl
theorem tailG_no {rdC : Nat → Out GoalT} {ts : List Tok} {m : Nat} {acc : List GoalT} {k : Nat} (h : hasT ts k [59] = false) : tailG rdC ts (m + 1) acc k = .ok (joinG 6 acc) k := by
  unfold tailG
  rw [rowLoop, if_neg (by rw [h]; decide)]
  rfl
theorem tailA_yes {rd : Nat → Out GoalT} {ts : List Tok} {T : GoalT → Nat → Out GoalT} {m : Nat} {acc : List GoalT} {k : Nat} (h : hasT ts k [44] = true) (hn : acc.length ≤ k) (hfw : ts.length ≤ 16384) :
    tailA rd ts T (m + 1) acc k = bindO (rd (k + 1)) (fun x k1 => tailA rd ts T m (acc ++ [x]) k1) := by
  unfold tailA
  rw [rowLoop, if_pos h, if_neg (by omega)]
  cases rd (k + 1) <;> rfl
theorem tailA_no {rd : Nat → Out GoalT} {ts : List Tok} {T : GoalT → Nat → Out GoalT} {m : Nat} {acc : List GoalT} {k : Nat} (h : hasT ts k [44] = false) : tailA rd ts T (m + 1) acc k = T (joinG 5 acc) k := by
  unfold tailA
  rw [rowLoop, if_neg (by rw [h]; decide)]
  rfl

end Lx
end Go.Proofs.YtnahhlhkbfdlhaaGreatDoor
