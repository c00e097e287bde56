/- An argument that is a row of tokens: its cells, and the tokens that they hold. No conditions beyond what each theorem names. -/
import Derived.Test.YtdalldhgfdnaeaaDoorFrame
import Derived.Test.YtdalldhgfdnaeaaDoorJoin
import Derived.Test.YtdalldhgfdnaeaaDoorBulk
import Derived.Deep.Slices
import Derived.ChangeSame
namespace Go.Proofs.YtdalldhgfdnaeaaDoor
namespace Lx
open Go Go.ChangeShapes Go.WideShapes Go.Deep Go.RowKit

instance : Inhabited Tok := ⟨⟨0, [], 0⟩⟩
/-- A token's datum. -/
def tokD {H : Type} (t : Tok) : DataW H := .agg [.lit (.int .i64 t.kind), .lit (.string t.text), .lit (.int .i64 t.num)]

theorem cellsTk : Tryd.prog.cellsOf 40 = 3 := by kernel_rfl
theorem cellsInt : Tryd.prog.cellsOf 3 = 1 := by kernel_rfl

theorem len_three {α : Type} : ∀ {l : List α}, l.length = 3 → ∃ a b c, l = [a, b, c]
  | [a, b, c], _ => ⟨a, b, c, rfl⟩

section
variable {H : Type} {enc : TypeId × Value → H} {w : World} {base : Nat} {spare : Nat → Bool} {held : Bool}

theorem open_tok {b : Addr} {n : Nat} {cs : List Value} {d : DataW H} {pl : List MemPlace} (hc : w.cells? base b 3 = some cs) (h : DataW.trod enc Tryd.prog w base spare held n 40 cs = some (d, pl)) :
    ∃ t : Tok, d = tokD t ∧ w.cell? b = some (.int .i64 t.kind) ∧ w.cell? (b.add 1) = some (.string (bs t.text)) ∧ w.cell? (b.add 2) = some (.int .i64 t.num) := by
  obtain ⟨_, hlen, hcell⟩ := World.cells?_some hc
  obtain ⟨xs, k, _, hxy, _, hxl, hf⟩ := DataW.trod_struct Tryd.underlying40 h
  have hxl3 : xs.length = 3 := hxl
  obtain ⟨y0, y1, y2, rfl⟩ := len_three hxl3
  obtain ⟨v0, v1, v2, rfl⟩ := len_three hlen
  have g0 : DataW.trod enc Tryd.prog w base spare held k 3 (([v0, v1, v2].drop 0).take (Tryd.prog.cellsOf 3)) = some y0 := hf 0 _ rfl
  have g1 : DataW.trod enc Tryd.prog w base spare held k 9 (([v0, v1, v2].drop 1).take (Tryd.prog.cellsOf 9)) = some y1 := hf 1 _ rfl
  have g2 : DataW.trod enc Tryd.prog w base spare held k 3 (([v0, v1, v2].drop 2).take (Tryd.prog.cellsOf 3)) = some y2 := hf 2 _ rfl
  rw [cellsInt] at g0 g2
  rw [cellsStr] at g1
  obtain ⟨z0, e0, q0, _⟩ := DataW.trod_int Tryd.underlying3 g0
  obtain ⟨z1, e1, q1, _⟩ := DataW.trod_string Tryd.underlying9 g1
  obtain ⟨z2, e2, q2, _⟩ := DataW.trod_int Tryd.underlying3 g2
  have c0 := hcell 0 (by omega)
  have c1 := hcell 1 (by omega)
  have c2 := hcell 2 (by omega)
  obtain rfl : v0 = _ := (List.cons.inj e0).1
  obtain rfl : v1 = _ := (List.cons.inj e1).1
  obtain rfl : v2 = _ := (List.cons.inj e2).1
  subst q0 q1 q2
  simp only [Prod.mk.injEq] at hxy
  exact ⟨⟨z0, z1.data.toList, z2⟩, hxy.1, by simpa [Addr.add] using c0, c1, c2⟩

theorem open_toks {fuel : Nat} {cs : List Value} {x : DataW H × List MemPlace} (h : DataW.trod enc Tryd.prog w base spare held fuel 23 cs = some x) :
    (cs = [.slice none 0 0] ∧ x = (.nil, [])) ∨
    ∃ (a : Addr) (ls : List Tok) (cap m : Nat) (rest : List (DataW H)) (Pl : List MemPlace), cs = [.slice (some a) ls.length cap] ∧ ls.length ≤ m ∧ x = (.slice (ls.map tokD) rest, MemPlace.row a (m * 3) ++ Pl) ∧
      ∀ i (hi : i < ls.length), w.cell? (a.add (i * 3)) = some (.int .i64 (ls[i]).kind) ∧ w.cell? (a.add (i * 3 + 1)) = some (.string (bs (ls[i]).text)) ∧ w.cell? (a.add (i * 3 + 2)) = some (.int .i64 (ls[i]).num) := by
  rcases open_slice Tryd.underlying23 h with h0 | ⟨a, len, cap, m, n, D, Pl, rfl, hb, hl, hm, hmm, rfl, hx⟩
  · exact .inl h0
  right
  have hlm : len ≤ m := by rw [hmm]; split <;> omega
  rw [cellsTk] at hx
  obtain ⟨q, hq⟩ := choose_lt (n := len) (p := fun i (t : Tok) => D i = tokD t ∧ w.cell? (a.add (i * 3)) = some (.int .i64 t.kind) ∧ w.cell? (a.add (i * 3 + 1)) = some (.string (bs t.text)) ∧ w.cell? (a.add (i * 3 + 2)) = some (.int .i64 t.num)) (fun i hi => by
    obtain ⟨cs', h1, h2⟩ := hx i (by omega)
    obtain ⟨t, p0, p1, p2, p3⟩ := open_tok h1 h2
    rw [add_add] at p2 p3
    exact ⟨t, p0, p1, p2, p3⟩)
  refine ⟨a, (List.range len).map q, cap, m, (List.range (m - len)).map fun j => D (len + j), (List.range m).flatMap Pl, by simp, by simpa using hlm, ?_, fun i hi => ?_⟩
  · rw [cellsTk, List.map_map, List.map_congr_left (fun i hi => (hq i (List.mem_range.1 hi)).1)]
    rfl
  · have hi' : i < len := by simpa using hi
    have e : ((List.range len).map q)[i] = q i := by simp
    rw [e]
    exact (hq i hi').2

theorem bulk_toks : ∀ l : List Tok, (∀ t ∈ l, t.text.length ≤ Rows.uptoBulkAll (H := H) (l.map tokD)) ∧ l.length ≤ Rows.uptoBulkAll (H := H) (l.map tokD)
  | [] => ⟨fun x hx => absurd hx (List.not_mem_nil), Nat.zero_le _⟩
  | y :: l => by
    obtain ⟨h1, h2⟩ := bulk_toks l
    have e : Rows.uptoBulkAll (H := H) ((y :: l).map tokD) = (1 + (y.text.length + 1 + (1 + 0)) + 1) + Rows.uptoBulkAll (H := H) (l.map tokD) := by
      simp only [List.map_cons, tokD, Rows.uptoBulkAll, Rows.uptoBulk]
    rw [e]
    refine ⟨fun x hx => ?_, by rw [List.length_cons]; omega⟩
    rcases List.mem_cons.1 hx with rfl | hx
    · omega
    · have := h1 x hx
      omega

/-- The row of cells, from what stands at each index. -/
theorem rowO_of {a : Addr} {ls : List Tok} (hlt : ls ≠ [] → a.block < w.heap.size) (h : ∀ i (hi : i < ls.length), w.cell? (a.add (i * 3)) = some (.int .i64 (ls[i]).kind) ∧ w.cell? (a.add (i * 3 + 1)) = some (.string (bs (ls[i]).text)) ∧ w.cell? (a.add (i * 3 + 2)) = some (.int .i64 (ls[i]).num)) : RowO w w.heap.size (some a) ls := by
  intro hne
  have h0 : 0 < ls.length := List.length_pos_iff.2 hne
  obtain ⟨b, off, spot⟩ := a
  have hspot : spot = none := by simpa [Addr.add] using World.cell?_spot (h 0 h0).1
  subst hspot
  refine ⟨b, off, rfl, hlt hne, fun j hj => ?_⟩
  have hk : j / 3 < ls.length := by omega
  have ht := cellsT_at ls (j / 3) hk
  have hc := h (j / 3) hk
  simp only [add_at] at hc
  rcases (by omega : j = 3 * (j / 3) ∨ j = 3 * (j / 3) + 1 ∨ j = 3 * (j / 3) + 2) with e | e | e
  · rw [e, ht.1, Nat.mul_comm 3]; exact hc.1
  · rw [e, ht.2.1, Nat.mul_comm 3]; exact hc.2.1
  · rw [e, ht.2.2, Nat.mul_comm 3]; exact hc.2.2
end

/-- From what the row lists: the error of too long a text is a pointer. -/
theorem env_sent {W : World} (hH : laidMetH Tryd.prog laid7 W) : Env W ∧ ∃ a et, Errs W (sentV a) et := by
  obtain ⟨hE, el, et, hR⟩ := env_of hH
  have h := met_of_H hH
  unfold laid7 at h
  obtain ⟨a, ha⟩ := sent_of (tl (tl (tl (tl h)))) gLarge gLargeT
  have e := Option.some.inj (hR.large.symm.trans ha)
  subst e
  exact ⟨hE, a, et, hR⟩

end Lx
end Go.Proofs.YtdalldhgfdnaeaaDoor
