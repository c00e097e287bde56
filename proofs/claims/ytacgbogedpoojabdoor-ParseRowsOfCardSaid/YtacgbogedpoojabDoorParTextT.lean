/- What parse.Term returns at every text: the thing and no error, or no thing and one of the four errors. Conditions: the error variables hold what they should; strconv's table of powers of ten holds them. -/
import Derived.Test.YtacgbogedpoojabDoorParText
import Derived.Test.YtacgbogedpoojabDoorParWholeT
namespace Go.Proofs.YtacgbogedpoojabDoor
namespace Lx
open Go Go.RowKit

theorem wholeTe_any {α : Type} (b : Nat) (s : ByteArray) (w : World) (hE : Env w) (f : Nat → Addr) (hR : Errs w (errP (f 1)) (errP (f 3))) (hP : PErrs w b f) (hb : w.heap[b]? = some (.cells #[.slice none 0 0, .int .i64 0, .int .i64 0] 49 (0, 0))) (V : Holds α) (hV : Stable V) (hW : ∀ x v lo hi lo' hi' w, V x v lo hi w → lo' ≤ lo → hi ≤ hi' → V x v lo' hi' w)
    (hT : ∀ x v lo hi w, V x v lo hi w → ∃ z1 z2 z3 z4 z5 z6, v = .agg #[.int .i64 z1, .string z2, .int .i64 z3, .slice z4 z5 z6]) (rd : List Tok → Out α)
    (HR : Hid (∀ w A c ts, Par w b A c ts 0 0 → PErrs w b f → Calls Tryd.prog 16 #[.pointer (some ⟨b, 0, none⟩)] w fun e w' => EndsV b A c ts 0 f V w (rd ts) e w')) :
    Calls Tryd.prog 15 #[.pointer (some ⟨b, 0, none⟩), .string s, .func (.func 16) #[.pointer (some ⟨b, 0, none⟩)] #[]] w fun e w' => ∃ v er, e = .returned (.tuple #[v, er]) ∧ PFr b w w' ∧ TextR f V (.agg #[.int .i64 0, .string ⟨#[]⟩, .int .i64 0, .slice none 0 0]) w w' v er (textO rd s) := by
  rcases Nat.lt_or_ge 16384 s.size with hs | hs
  · rw [textO_large rd hs]
    refine (wholeTe_bad b s w hE f 1 _ hR hb (Lib.hid (fun w hE hR => (lex_any s w hE _ _ hR).mono (fun e w' h => ?_)))).mono (fun e w' h => ⟨_, _, h.1, h.2, rfl, rfl⟩)
    rcases h with ⟨hb, h | h | h⟩
    · exact ⟨h.2, hb⟩
    · exact absurd hs (by omega)
    · exact absurd hs (by omega)
  · cases hw : whole s.data.toList with
    | false =>
      rw [textO_bad rd hs hw]
      refine (wholeTe_bad b s w hE f 3 _ hR hb (Lib.hid (fun w hE hR => (lex_any s w hE _ _ hR).mono (fun e w' h => ?_)))).mono (fun e w' h => ⟨_, _, h.1, h.2, rfl, rfl⟩)
      rcases h with ⟨hb, h | h | h⟩
      · exact absurd hs (by omega)
      · exact ⟨h.2.2, hb⟩
      · exact absurd (h.2.1.symm.trans hw) (by decide)
    | true =>
      rw [textO_good rd hs hw]
      refine wholeTe_good b s w hE f hR hP hb V hV hW hT rd (toks s.data.toList) (by have := toks_len s.data.toList; have e : s.data.toList.length = s.size := (by simp); omega) HR (Lib.hid (fun w hE hR => (lex_any s w hE _ _ hR).mono (fun e w' h => ?_)))
      rcases h with ⟨hb, h | h | h⟩
      · exact absurd hs (by omega)
      · exact absurd (h.2.1.symm.trans hw) (by decide)
      · obtain ⟨_, _, v, he, ho⟩ := h
        exact ⟨v, he, hb, ho⟩

set_option maxRecDepth 100000 in
set_option maxHeartbeats 2000000 in
theorem textTe_any (s : ByteArray) (w : World) (hE : Env w) (f : Nat → Addr) (h4 : Errs4 w f) :
    Calls Tryd.prog 9 #[.string s] w fun e w' => ∃ v er, e = .returned (.tuple #[v, er]) ∧ Below w.heap.size w w' ∧ TextR f (TermV 66) (.agg #[.int .i64 0, .string ⟨#[]⟩, .int .i64 0, .slice none 0 0]) w w' v er (textO (fun ts => termO ts 66 0 0) s) := by
  have hmf : ∀ (fn : Fn) (first cap : Array Value) (w : World), (Instr.makeFunc fn first cap).run Tryd.prog w = .ok (.func fn first cap) w := fun _ _ _ _ => rfl
  have hw0 : (w.alloc (.cells #[.int .i64 0, .string ⟨#[]⟩, .int .i64 0, .slice none 0 0] 25)).heap.size = w.heap.size + 1 := by simp
  have hW0 : Below w.heap.size w (w.alloc (.cells #[.int .i64 0, .string ⟨#[]⟩, .int .i64 0, .slice none 0 0] 25)) := (Below.refl _ w).alloc (Nat.le_refl _) _
  have hE0 := hE.below hW0
  have h40 := h4.below hW0
  have hW1 : Below (w.alloc (.cells #[.int .i64 0, .string ⟨#[]⟩, .int .i64 0, .slice none 0 0] 25)).heap.size (w.alloc (.cells #[.int .i64 0, .string ⟨#[]⟩, .int .i64 0, .slice none 0 0] 25)) ((w.alloc (.cells #[.int .i64 0, .string ⟨#[]⟩, .int .i64 0, .slice none 0 0] 25)).alloc (.cells #[.slice none 0 0, .int .i64 0, .int .i64 0] 49)) := (Below.refl _ _).alloc (Nat.le_refl _) _
  have hw := wholeTe_any (w.alloc (.cells #[.int .i64 0, .string ⟨#[]⟩, .int .i64 0, .slice none 0 0] 25)).heap.size s _ (hE0.below hW1) f ((h40.below hW1).errs) (h40.perrs _) (heap_alloc_new _ _) (TermV 66) (TermV.stable 66) (TermV.wide 66) (fun x v lo hi w h => TermV.shape h) (fun ts => termO ts 66 0 0) (Lib.hid (fun w2 A c ts h hE => term_any _ A c ts f 65 0 (by decide) (by decide) (by decide) w2 0 h hE (Nat.zero_le _)))
  have hnew := heap_alloc_new w (.cells #[.int .i64 0, .string ⟨#[]⟩, .int .i64 0, .slice none 0 0] 25)
  have HN := Lib.hid hnew
  rw [hw0] at hw
  have HW := Lib.hid hw
  clear hE h4 hW1 hE0 h40 hw hnew
  have HW0 := Lib.hid hW0
  clear hW0
  go_enter Tryd.func9, Tryd.ntmps9
  go_wp2_with fail
  go_at_call 15
  refine HW.out.mono ?_
  rintro e w2 ⟨v, er, rfl, hf, ht⟩
  have hN2 := (hf.block w.heap.size (by simp; omega) (by omega)).trans ((Below.heap_alloc _ _ _ (by simp)).trans HN.out)
  obtain ⟨z1, z2, z3, z4, z5, z6, rfl⟩ : ∃ z1 z2 z3 z4 z5 z6, v = .agg #[.int .i64 z1, .string z2, .int .i64 z3, .slice z4 z5 z6] := by
    cases hq : textO (fun ts => termO ts 66 0 0) s with
    | no i => rw [hq] at ht; exact ⟨_, _, _, _, _, _, ht.1⟩
    | ok x k => rw [hq] at ht; exact TermV.shape ht.2
  have HT := Lib.hid ht
  have HF := Lib.hid hf
  have HN2 := Lib.hid hN2
  have n0 : w2.cell? ⟨w.heap.size, 0, none⟩ = some (.int .i64 0) := (Lib.cell_of_heap hN2 0).trans rfl
  have m0 := Lib.frozen_of_heap hN2 0
  have n1 : w2.cell? ⟨w.heap.size, 1, none⟩ = some (.string ⟨#[]⟩) := (Lib.cell_of_heap hN2 1).trans rfl
  have m1 := Lib.frozen_of_heap hN2 1
  have n2 : w2.cell? ⟨w.heap.size, 2, none⟩ = some (.int .i64 0) := (Lib.cell_of_heap hN2 2).trans rfl
  have m2 := Lib.frozen_of_heap hN2 2
  have n3 : w2.cell? ⟨w.heap.size, 3, none⟩ = some (.slice none 0 0) := (Lib.cell_of_heap hN2 3).trans rfl
  have m3 := Lib.frozen_of_heap hN2 3
  have hlt : w.heap.size < w2.heap.size := (Array.getElem?_eq_some_iff.1 hN2).1
  clear ht hf hN2 HW
  go_wp2_with fail
  have hX := ch4_blk HN2.out rfl (.int .i64 z1) (.string z2) (.int .i64 z3) (.slice z4 z5 z6)
  have hXs := ch4_size w2 w.heap.size (.int .i64 z1) (.string z2) (.int .i64 z3) (.slice z4 z5 z6)
  have hXo := fun j (hj : j ≠ w.heap.size) => ch4_else (w := w2) hj (.int .i64 z1) (.string z2) (.int .i64 z3) (.slice z4 z5 z6)
  have hXw := ch4_os w2 w.heap.size (.int .i64 z1) (.string z2) (.int .i64 z3) (.slice z4 z5 z6)
  refine bodyPost_ret (v := .tuple #[.agg #[.int .i64 z1, .string z2, .int .i64 z3, .slice z4 z5 z6], er]) (results_cell_slot Tryd.results9 _ _ ⟨w.heap.size, 0, none⟩ _ _ rfl rfl (load_term hX)) rfl ⟨_, _, rfl, ?_, ?_⟩
  · refine ⟨hXw.1.trans HF.out.os, hXw.2.1.trans HF.out.tape, hXw.2.2.trans HF.out.output, ?_, fun k hk => (hXo k (Nat.ne_of_lt hk)).trans ((HF.out.block k (by simp; omega) (by omega)).trans ((Below.heap_alloc _ _ k (by simp; omega)).trans (Below.heap_alloc w _ k hk)))⟩
    exact Nat.le_trans (by have := HF.out.size; simp at this; omega) (Nat.le_of_eq hXs.symm)
  · exact HT.out.moved (TermV.stable 66) (TermV.wide 66) (fun j j1 => hXo j (by simp at j1; omega)) (by simp; omega) (Nat.le_of_eq hXs.symm)

end Lx
end Go.Proofs.YtacgbogedpoojabDoor
