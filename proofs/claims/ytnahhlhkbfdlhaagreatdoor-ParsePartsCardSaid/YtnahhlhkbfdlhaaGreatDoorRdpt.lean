/- The contracts of the reference's Term, Goal and Type at every text: the thing and 0, or no thing and the error's number. No conditions. -/
import Derived.Test.YtnahhlhkbfdlhaaGreatDoorRds
import Derived.Test.YtnahhlhkbfdlhaaGreatDoorTextT
import Derived.Test.YtnahhlhkbfdlhaaGreatDoorTextG
import Derived.Test.YtnahhlhkbfdlhaaGreatDoorTextY
namespace Go.Proofs.YtnahhlhkbfdlhaaGreatDoor
set_option linter.unusedSimpArgs false
set_option linter.unusedVariables false
namespace Lx
open Go Go.RowKit

theorem done_cont {α : Type} {ts : List Tok} {OT : Out α} {Q : α → Prop} {x : α} {k0 k : Nat} {er : Int} (hc : Cont OT er (Q x ∧ k0 < k ∧ (if k < ts.length then .no 2 else .ok x k) = OT)) : Cont OT (doneE ts k er) (Q x ∧ .ok x k = OT) := by
  rcases hc with ⟨rfl, g1, _, g2⟩ | ⟨i, rfl, h⟩
  · unfold doneE
    by_cases hk : k < ts.length
    · rw [if_pos ⟨rfl, hk⟩]
      rw [if_pos hk] at g2
      exact .inr ⟨2, rfl, g2.symm⟩
    · rw [if_neg (fun q => hk q.2)]
      rw [if_neg hk] at g2
      exact .inl ⟨rfl, g1, g2⟩
  · unfold doneE
    rw [if_neg (fun q => erN_ne i q.1)]
    exact .inr ⟨i, rfl, h⟩

set_option maxRecDepth 100000 in
set_option maxHeartbeats 4000000 in
theorem refTerm_any (s : ByteArray) (w : World) :
    Calls Tryz.prog 12 #[.string s] w fun e w' => ∃ v n, e = .returned (.tuple #[v, .int .i64 n]) ∧ Below w.heap.size w w' ∧ PartR (TermV 66) (.agg #[.int .i64 0, .string ⟨#[]⟩, .int .i64 0, .slice none 0 0]) w w' v n (textO (fun ts => termO ts 66 0 0) s) := by
  have HL := Lib.hid (rread_any s (w.alloc (.cells #[.int .i64 0, .string ⟨#[]⟩, .int .i64 0, .slice none 0 0] 35)))
  obtain ⟨OT, hOT⟩ : ∃ OT, OT = textO (fun ts => termO ts 66 0 0) s := ⟨_, rfl⟩
  rw [← hOT]
  go_enter Tryz.func12, Tryz.ntmps12
  go_wp2_with fail
  go_at_call 23
  refine HL.out.mono ?_
  rintro e w1 ⟨B, A, c, ts, er, rfl, hB, hp1, hb1, hwf, hc1⟩
  have hc2 := hc1 (fun ts => termO ts 66 0 0)
  rw [← hOT] at hc2
  have hB1 : w.heap.size + 1 ≤ B := by simpa using hB
  have HB : Hid (w.heap.size + 1 ≤ B) := Lib.hid hB1
  have HBL : Hid (B < w1.heap.size) := Lib.hid hp1.lt
  have HC := Lib.hid ((rterm_top B A c ts hwf).cont (termO_fwd ts 66 0) TermV.sh hp1 (Nat.zero_le _) hc2)
  have HZ1 := Lib.hid ((hb1.block w.heap.size (by simp)).trans (heap_alloc_new w (.cells #[.int .i64 0, .string ⟨#[]⟩, .int .i64 0, .slice none 0 0] 35)))
  have HF1 : Hid (PFr w.heap.size w w1) := Lib.hid (PFr.jump rfl ((PFr.refl w.heap.size w).alloc (.cells #[.int .i64 0, .string ⟨#[]⟩, .int .i64 0, .slice none 0 0] 35)) (pfr_of_below hb1) (by simp))
  clear hB hp1 hb1 hwf hc1 hc2 hOT HL hB1
  go_wp2_with fail
  go_at_call 32
  refine HC.out.mono ?_
  rintro e w2 ⟨v2, k2, er2, rfl, ⟨y1, y2, y3, y4, y5, y6, rfl⟩, hk2, hp2, hf2, hc3⟩
  obtain ⟨x2, hc3⟩ := Cont.pull zeroT hc3
  have hc4 := done_cont (ts := ts) (Q := fun x => TermV 66 x (.agg #[.int .i64 y1, .string y2, .int .i64 y3, .slice y4 y5 y6]) w1.heap.size w2.heap.size w2) hc3
  have HC4 := Lib.hid hc4
  have HDN := Lib.hid (rdone_any (w2.alloc (.cells #[.int .i64 y1, .string y2, .int .i64 y3, .slice y4 y5 y6] 35)) B A c ts k2 er2 (hp2.alloc _))
  have HF2 := Lib.hid hf2
  have HS2 : Hid (w1.heap.size ≤ w2.heap.size) := Lib.hid hf2.size
  clear hk2 hp2 hf2 hc3 hc4 HC
  generalize doneE ts k2 er2 = er3 at *
  go_wp2_with fail
  go_at_call 28
  refine HDN.out.mono ?_
  rintro e w3 ⟨rfl, hp3, hf3⟩
  have HS3 : Hid (w2.heap.size + 1 ≤ w3.heap.size) := Lib.hid (by have := hf3.size; simpa using this)
  have hlt : w.heap.size < w3.heap.size := by have := HS3.out; have := HS2.out; have := HB.out; have := HBL.out; omega
  have hnB : ¬ B = w.heap.size := by have := HB.out; omega
  have hnB2 : ¬ w.heap.size = B := by have := HB.out; omega
  have hz := (hf3.block w.heap.size (by have := HS2.out; have := HB.out; have := HBL.out; simp; omega) (by have := HB.out; omega)).trans ((Below.heap_alloc w2 _ w.heap.size (by have := HS2.out; have := HB.out; have := HBL.out; omega)).trans ((HF2.out.block w.heap.size (by have := HB.out; have := HBL.out; omega) (by have := HB.out; omega)).trans HZ1.out))
  have hbx := (hf3.block w2.heap.size (by simp) (by have := HS2.out; have := HBL.out; omega)).trans (heap_alloc_new w2 (.cells #[.int .i64 y1, .string y2, .int .i64 y3, .slice y4 y5 y6] 35))
  have HF3 : Hid (PFr w.heap.size w w3) := Lib.hid (PFr.jump rfl (PFr.jump rfl HF1.out HF2.out (by have := HB.out; omega)) (((PFr.refl B w2).alloc _).trans hf3) (by have := HB.out; omega))
  have HH3 : Hid (∀ j, j < w2.heap.size → j ≠ B → w3.heap[j]? = w2.heap[j]?) := Lib.hid (fun j j1 j2 => (hf3.block j (by simp; omega) j2).trans (Below.heap_alloc w2 _ j j1))
  have cz0 := (Lib.cell_of_heap hz 0).trans rfl
  have fz0 := Lib.frozen_of_heap hz 0
  have cz1 := (Lib.cell_of_heap hz 1).trans rfl
  have fz1 := Lib.frozen_of_heap hz 1
  have cz2 := (Lib.cell_of_heap hz 2).trans rfl
  have fz2 := Lib.frozen_of_heap hz 2
  have cz3 := (Lib.cell_of_heap hz 3).trans rfl
  have fz3 := Lib.frozen_of_heap hz 3
  have cb0 := (Lib.cell_of_heap hbx 0).trans rfl
  have cb1 := (Lib.cell_of_heap hbx 1).trans rfl
  have cb2 := (Lib.cell_of_heap hbx 2).trans rfl
  have cb3 := (Lib.cell_of_heap hbx 3).trans rfl
  have HZ3 := Lib.hid hz
  by_cases hz3 : er3 = 0
  · subst hz3
    clear hz hbx hp3 hf3 HDN
    go_wp2_with fail
    have hX := ch4_blk HZ3.out rfl (.int .i64 y1) (.string y2) (.int .i64 y3) (.slice y4 y5 y6)
    have hXs := ch4_size w3 w.heap.size (.int .i64 y1) (.string y2) (.int .i64 y3) (.slice y4 y5 y6)
    have hXo := fun j (hj : j ≠ w.heap.size) => ch4_else (w := w3) hj (.int .i64 y1) (.string y2) (.int .i64 y3) (.slice y4 y5 y6)
    have hXf := PFr.ch4 HF3.out (Nat.le_refl _) (.int .i64 y1) (.string y2) (.int .i64 y3) (.slice y4 y5 y6)
    refine bodyPost_ret (v := .tuple #[.agg #[.int .i64 y1, .string y2, .int .i64 y3, .slice y4 y5 y6], .int .i64 0]) (results_cell_slot Tryz.results12 _ _ ⟨w.heap.size, 0, none⟩ _ _ rfl rfl (load_term hX)) rfl ⟨_, _, rfl, below_of_pfrN hXf, ?_⟩
    obtain ⟨g1, g2⟩ := HC4.out.ok
    rw [← g2]
    refine ⟨rfl, (TermV.wide 66 _ _ _ _ _ _ _ (TermV.stable 66 _ _ _ _ _ _ g1 (fun j j1 j2 => (hXo j ?_).trans (HH3.out j j2 ?_))) ?_ ?_)⟩
    · have := HB.out; have := HBL.out; omega
    · have := HB.out; have := HBL.out; omega
    · have := HB.out; have := HBL.out; omega
    · rw [hXs]; have := HS3.out; omega
  · have c2 := hp3.c2
    have hne : (er3 != 0) = true := by simpa using hz3
    obtain ⟨i, he, hO⟩ := HC4.out.err hz3
    have HEI := Lib.hid he
    have HOI := Lib.hid hO
    clear hz hbx hp3 hf3 HDN hz3 he hO
    go_wp2_with fail
    go_region
    all_goals go_wp2
    all_goals
      refine bodyPost_ret (v := .tuple #[.agg #[.int .i64 0, .string ⟨#[]⟩, .int .i64 0, .slice none 0 0], .int .i64 er3]) (results_cell_slot Tryz.results12 _ _ ⟨w.heap.size, 0, none⟩ _ _ rfl rfl (load_term (by rw [drew_heap]; exact ch4_blk HZ3.out rfl (.int .i64 0) (.string ⟨#[]⟩) (.int .i64 0) (.slice none 0 0)))) rfl ⟨_, _, rfl, below_of_pfrN (PFr.drew (PFr.ch4 HF3.out (Nat.le_refl _) (.int .i64 0) (.string ⟨#[]⟩) (.int .i64 0) (.slice none 0 0))), ?_⟩
      rw [HOI.out]
      exact ⟨rfl, HEI.out⟩

set_option maxRecDepth 100000 in
set_option maxHeartbeats 4000000 in
theorem refGoal_any (s : ByteArray) (w : World) :
    Calls Tryz.prog 14 #[.string s] w fun e w' => ∃ v n, e = .returned (.tuple #[v, .int .i64 n]) ∧ Below w.heap.size w w' ∧ PartR (GoalV 134) (.agg #[.int .i64 0, .int .i64 0, .string ⟨#[]⟩, .int .i64 0, .slice none 0 0, .int .i64 0, .string ⟨#[]⟩, .int .i64 0, .slice none 0 0, .string ⟨#[]⟩, .slice none 0 0, .slice none 0 0]) w w' v n (textO (fun ts => goalO (primO ts 66 0) ts 0) s) := by
  have HL := Lib.hid (rread_any s (w.alloc (.cells #[.int .i64 0, .int .i64 0, .string ⟨#[]⟩, .int .i64 0, .slice none 0 0, .int .i64 0, .string ⟨#[]⟩, .int .i64 0, .slice none 0 0, .string ⟨#[]⟩, .slice none 0 0, .slice none 0 0] 42)))
  obtain ⟨OT, hOT⟩ : ∃ OT, OT = textO (fun ts => goalO (primO ts 66 0) ts 0) s := ⟨_, rfl⟩
  rw [← hOT]
  go_enter Tryz.func14, Tryz.ntmps14
  go_wp2_with fail
  go_at_call 23
  refine HL.out.mono ?_
  rintro e w1 ⟨B, A, c, ts, er, rfl, hB, hp1, hb1, hwf, hc1⟩
  have hc2 := hc1 (fun ts => goalO (primO ts 66 0) ts 0)
  rw [← hOT] at hc2
  have hB1 : w.heap.size + 1 ≤ B := by simpa using hB
  have HB : Hid (w.heap.size + 1 ≤ B) := Lib.hid hB1
  have HBL : Hid (B < w1.heap.size) := Lib.hid hp1.lt
  have HC := Lib.hid ((rtopgoal_genc B A c ts hwf).cont ((joinO_fwd (joinO_fwd (primO_fwd ts 66 0) [44] 5) [59] 6)) GoalV.sh hp1 (Nat.zero_le _) hc2)
  have HZ1 := Lib.hid ((hb1.block w.heap.size (by simp)).trans (heap_alloc_new w (.cells #[.int .i64 0, .int .i64 0, .string ⟨#[]⟩, .int .i64 0, .slice none 0 0, .int .i64 0, .string ⟨#[]⟩, .int .i64 0, .slice none 0 0, .string ⟨#[]⟩, .slice none 0 0, .slice none 0 0] 42)))
  have HF1 : Hid (PFr w.heap.size w w1) := Lib.hid (PFr.jump rfl ((PFr.refl w.heap.size w).alloc (.cells #[.int .i64 0, .int .i64 0, .string ⟨#[]⟩, .int .i64 0, .slice none 0 0, .int .i64 0, .string ⟨#[]⟩, .int .i64 0, .slice none 0 0, .string ⟨#[]⟩, .slice none 0 0, .slice none 0 0] 42)) (pfr_of_below hb1) (by simp))
  clear hB hp1 hb1 hwf hc1 hc2 hOT HL hB1
  go_wp2_with fail
  go_at_call 35
  refine HC.out.mono ?_
  rintro e w2 ⟨v2, k2, er2, rfl, ⟨p1, p2, p3, p4, p5, p6, p7, p8, p9, pa, pb, pc, pd, pe, pf, pg, ph, pi, pj, pk, rfl⟩, hk2, hp2, hf2, hc3⟩
  obtain ⟨x2, hc3⟩ := Cont.pull zeroG hc3
  have hc4 := done_cont (ts := ts) (Q := fun x => GoalV 134 x (.agg #[.int .i64 p1, .int .i64 p2, .string p3, .int .i64 p4, .slice p5 p6 p7, .int .i64 p8, .string p9, .int .i64 pa, .slice pb pc pd, .string pe, .slice pf pg ph, .slice pi pj pk]) w1.heap.size w2.heap.size w2) hc3
  have HC4 := Lib.hid hc4
  have HDN := Lib.hid (rdone_any (w2.alloc (.cells #[.int .i64 p1, .int .i64 p2, .string p3, .int .i64 p4, .slice p5 p6 p7, .int .i64 p8, .string p9, .int .i64 pa, .slice pb pc pd, .string pe, .slice pf pg ph, .slice pi pj pk] 42)) B A c ts k2 er2 (hp2.alloc _))
  have HF2 := Lib.hid hf2
  have HS2 : Hid (w1.heap.size ≤ w2.heap.size) := Lib.hid hf2.size
  clear hk2 hp2 hf2 hc3 hc4 HC
  generalize doneE ts k2 er2 = er3 at *
  go_wp2_with fail
  go_at_call 28
  refine HDN.out.mono ?_
  rintro e w3 ⟨rfl, hp3, hf3⟩
  have HS3 : Hid (w2.heap.size + 1 ≤ w3.heap.size) := Lib.hid (by have := hf3.size; simpa using this)
  have hlt : w.heap.size < w3.heap.size := by have := HS3.out; have := HS2.out; have := HB.out; have := HBL.out; omega
  have hnB : ¬ B = w.heap.size := by have := HB.out; omega
  have hnB2 : ¬ w.heap.size = B := by have := HB.out; omega
  have hz := (hf3.block w.heap.size (by have := HS2.out; have := HB.out; have := HBL.out; simp; omega) (by have := HB.out; omega)).trans ((Below.heap_alloc w2 _ w.heap.size (by have := HS2.out; have := HB.out; have := HBL.out; omega)).trans ((HF2.out.block w.heap.size (by have := HB.out; have := HBL.out; omega) (by have := HB.out; omega)).trans HZ1.out))
  have hbx := (hf3.block w2.heap.size (by simp) (by have := HS2.out; have := HBL.out; omega)).trans (heap_alloc_new w2 (.cells #[.int .i64 p1, .int .i64 p2, .string p3, .int .i64 p4, .slice p5 p6 p7, .int .i64 p8, .string p9, .int .i64 pa, .slice pb pc pd, .string pe, .slice pf pg ph, .slice pi pj pk] 42))
  have HF3 : Hid (PFr w.heap.size w w3) := Lib.hid (PFr.jump rfl (PFr.jump rfl HF1.out HF2.out (by have := HB.out; omega)) (((PFr.refl B w2).alloc _).trans hf3) (by have := HB.out; omega))
  have HH3 : Hid (∀ j, j < w2.heap.size → j ≠ B → w3.heap[j]? = w2.heap[j]?) := Lib.hid (fun j j1 j2 => (hf3.block j (by simp; omega) j2).trans (Below.heap_alloc w2 _ j j1))
  have cz0 := (Lib.cell_of_heap hz 0).trans rfl
  have fz0 := Lib.frozen_of_heap hz 0
  have cz1 := (Lib.cell_of_heap hz 1).trans rfl
  have fz1 := Lib.frozen_of_heap hz 1
  have cz2 := (Lib.cell_of_heap hz 2).trans rfl
  have fz2 := Lib.frozen_of_heap hz 2
  have cz3 := (Lib.cell_of_heap hz 3).trans rfl
  have fz3 := Lib.frozen_of_heap hz 3
  have cz4 := (Lib.cell_of_heap hz 4).trans rfl
  have fz4 := Lib.frozen_of_heap hz 4
  have cz5 := (Lib.cell_of_heap hz 5).trans rfl
  have fz5 := Lib.frozen_of_heap hz 5
  have cz6 := (Lib.cell_of_heap hz 6).trans rfl
  have fz6 := Lib.frozen_of_heap hz 6
  have cz7 := (Lib.cell_of_heap hz 7).trans rfl
  have fz7 := Lib.frozen_of_heap hz 7
  have cz8 := (Lib.cell_of_heap hz 8).trans rfl
  have fz8 := Lib.frozen_of_heap hz 8
  have cz9 := (Lib.cell_of_heap hz 9).trans rfl
  have fz9 := Lib.frozen_of_heap hz 9
  have cz10 := (Lib.cell_of_heap hz 10).trans rfl
  have fz10 := Lib.frozen_of_heap hz 10
  have cz11 := (Lib.cell_of_heap hz 11).trans rfl
  have fz11 := Lib.frozen_of_heap hz 11
  have cb0 := (Lib.cell_of_heap hbx 0).trans rfl
  have cb1 := (Lib.cell_of_heap hbx 1).trans rfl
  have cb2 := (Lib.cell_of_heap hbx 2).trans rfl
  have cb3 := (Lib.cell_of_heap hbx 3).trans rfl
  have cb4 := (Lib.cell_of_heap hbx 4).trans rfl
  have cb5 := (Lib.cell_of_heap hbx 5).trans rfl
  have cb6 := (Lib.cell_of_heap hbx 6).trans rfl
  have cb7 := (Lib.cell_of_heap hbx 7).trans rfl
  have cb8 := (Lib.cell_of_heap hbx 8).trans rfl
  have cb9 := (Lib.cell_of_heap hbx 9).trans rfl
  have cb10 := (Lib.cell_of_heap hbx 10).trans rfl
  have cb11 := (Lib.cell_of_heap hbx 11).trans rfl
  have HZ3 := Lib.hid hz
  by_cases hz3 : er3 = 0
  · subst hz3
    clear hz hbx hp3 hf3 HDN
    go_wp2_with fail
    have hX := ch12_blk HZ3.out rfl (.int .i64 p1) (.int .i64 p2) (.string p3) (.int .i64 p4) (.slice p5 p6 p7) (.int .i64 p8) (.string p9) (.int .i64 pa) (.slice pb pc pd) (.string pe) (.slice pf pg ph) (.slice pi pj pk)
    have hXs := ch12_size w3 w.heap.size (.int .i64 p1) (.int .i64 p2) (.string p3) (.int .i64 p4) (.slice p5 p6 p7) (.int .i64 p8) (.string p9) (.int .i64 pa) (.slice pb pc pd) (.string pe) (.slice pf pg ph) (.slice pi pj pk)
    have hXo := fun j (hj : j ≠ w.heap.size) => ch12_else (w := w3) hj (.int .i64 p1) (.int .i64 p2) (.string p3) (.int .i64 p4) (.slice p5 p6 p7) (.int .i64 p8) (.string p9) (.int .i64 pa) (.slice pb pc pd) (.string pe) (.slice pf pg ph) (.slice pi pj pk)
    have hXf := PFr.ch12 HF3.out (Nat.le_refl _) (.int .i64 p1) (.int .i64 p2) (.string p3) (.int .i64 p4) (.slice p5 p6 p7) (.int .i64 p8) (.string p9) (.int .i64 pa) (.slice pb pc pd) (.string pe) (.slice pf pg ph) (.slice pi pj pk)
    refine bodyPost_ret (v := .tuple #[.agg #[.int .i64 p1, .int .i64 p2, .string p3, .int .i64 p4, .slice p5 p6 p7, .int .i64 p8, .string p9, .int .i64 pa, .slice pb pc pd, .string pe, .slice pf pg ph, .slice pi pj pk], .int .i64 0]) (results_cell_slot Tryz.results14 _ _ ⟨w.heap.size, 0, none⟩ _ _ rfl rfl (load_goal hX)) rfl ⟨_, _, rfl, below_of_pfrN hXf, ?_⟩
    obtain ⟨g1, g2⟩ := HC4.out.ok
    rw [← g2]
    refine ⟨rfl, (GoalV.wide 134 _ _ _ _ _ _ _ (GoalV.stable 134 _ _ _ _ _ _ g1 (fun j j1 j2 => (hXo j ?_).trans (HH3.out j j2 ?_))) ?_ ?_)⟩
    · have := HB.out; have := HBL.out; omega
    · have := HB.out; have := HBL.out; omega
    · have := HB.out; have := HBL.out; omega
    · rw [hXs]; have := HS3.out; omega
  · have c2 := hp3.c2
    have hne : (er3 != 0) = true := by simpa using hz3
    obtain ⟨i, he, hO⟩ := HC4.out.err hz3
    have HEI := Lib.hid he
    have HOI := Lib.hid hO
    clear hz hbx hp3 hf3 HDN hz3 he hO
    go_wp2_with fail
    go_region
    all_goals go_wp2
    all_goals
      refine bodyPost_ret (v := .tuple #[.agg #[.int .i64 0, .int .i64 0, .string ⟨#[]⟩, .int .i64 0, .slice none 0 0, .int .i64 0, .string ⟨#[]⟩, .int .i64 0, .slice none 0 0, .string ⟨#[]⟩, .slice none 0 0, .slice none 0 0], .int .i64 er3]) (results_cell_slot Tryz.results14 _ _ ⟨w.heap.size, 0, none⟩ _ _ rfl rfl (load_goal (by rw [drew_heap]; exact ch12_blk HZ3.out rfl (.int .i64 0) (.int .i64 0) (.string ⟨#[]⟩) (.int .i64 0) (.slice none 0 0) (.int .i64 0) (.string ⟨#[]⟩) (.int .i64 0) (.slice none 0 0) (.string ⟨#[]⟩) (.slice none 0 0) (.slice none 0 0)))) rfl ⟨_, _, rfl, below_of_pfrN (PFr.drew (PFr.ch12 HF3.out (Nat.le_refl _) (.int .i64 0) (.int .i64 0) (.string ⟨#[]⟩) (.int .i64 0) (.slice none 0 0) (.int .i64 0) (.string ⟨#[]⟩) (.int .i64 0) (.slice none 0 0) (.string ⟨#[]⟩) (.slice none 0 0) (.slice none 0 0))), ?_⟩
      rw [HOI.out]
      exact ⟨rfl, HEI.out⟩

set_option maxRecDepth 100000 in
set_option maxHeartbeats 4000000 in
theorem refType_any (s : ByteArray) (w : World) :
    Calls Tryz.prog 16 #[.string s] w fun e w' => ∃ v n, e = .returned (.tuple #[v, .int .i64 n]) ∧ Below w.heap.size w w' ∧ PartR (TypeV 66) (.agg #[.bool false, .string ⟨#[]⟩, .slice none 0 0]) w w' v n (textO (fun ts => typeO ts 66 0 0) s) := by
  have HL := Lib.hid (rread_any s (w.alloc (.cells #[.bool false, .string ⟨#[]⟩, .slice none 0 0] 49)))
  obtain ⟨OT, hOT⟩ : ∃ OT, OT = textO (fun ts => typeO ts 66 0 0) s := ⟨_, rfl⟩
  rw [← hOT]
  go_enter Tryz.func16, Tryz.ntmps16
  go_wp2_with fail
  go_at_call 23
  refine HL.out.mono ?_
  rintro e w1 ⟨B, A, c, ts, er, rfl, hB, hp1, hb1, hwf, hc1⟩
  have hc2 := hc1 (fun ts => typeO ts 66 0 0)
  rw [← hOT] at hc2
  have hB1 : w.heap.size + 1 ≤ B := by simpa using hB
  have HB : Hid (w.heap.size + 1 ≤ B) := Lib.hid hB1
  have HBL : Hid (B < w1.heap.size) := Lib.hid hp1.lt
  have HC := Lib.hid ((rtype_top B A c ts hwf).cont (typeO_fwd ts 66 0) TypeV.sh hp1 (Nat.zero_le _) hc2)
  have HZ1 := Lib.hid ((hb1.block w.heap.size (by simp)).trans (heap_alloc_new w (.cells #[.bool false, .string ⟨#[]⟩, .slice none 0 0] 49)))
  have HF1 : Hid (PFr w.heap.size w w1) := Lib.hid (PFr.jump rfl ((PFr.refl w.heap.size w).alloc (.cells #[.bool false, .string ⟨#[]⟩, .slice none 0 0] 49)) (pfr_of_below hb1) (by simp))
  clear hB hp1 hb1 hwf hc1 hc2 hOT HL hB1
  go_wp2_with fail
  go_at_call 38
  refine HC.out.mono ?_
  rintro e w2 ⟨v2, k2, er2, rfl, ⟨y1, y2, y4, y5, y6, rfl⟩, hk2, hp2, hf2, hc3⟩
  obtain ⟨x2, hc3⟩ := Cont.pull (.mk false [] []) hc3
  have hc4 := done_cont (ts := ts) (Q := fun x => TypeV 66 x (.agg #[.bool y1, .string y2, .slice y4 y5 y6]) w1.heap.size w2.heap.size w2) hc3
  have HC4 := Lib.hid hc4
  have HDN := Lib.hid (rdone_any (w2.alloc (.cells #[.bool y1, .string y2, .slice y4 y5 y6] 49)) B A c ts k2 er2 (hp2.alloc _))
  have HF2 := Lib.hid hf2
  have HS2 : Hid (w1.heap.size ≤ w2.heap.size) := Lib.hid hf2.size
  clear hk2 hp2 hf2 hc3 hc4 HC
  generalize doneE ts k2 er2 = er3 at *
  go_wp2_with fail
  go_at_call 28
  refine HDN.out.mono ?_
  rintro e w3 ⟨rfl, hp3, hf3⟩
  have HS3 : Hid (w2.heap.size + 1 ≤ w3.heap.size) := Lib.hid (by have := hf3.size; simpa using this)
  have hlt : w.heap.size < w3.heap.size := by have := HS3.out; have := HS2.out; have := HB.out; have := HBL.out; omega
  have hnB : ¬ B = w.heap.size := by have := HB.out; omega
  have hnB2 : ¬ w.heap.size = B := by have := HB.out; omega
  have hz := (hf3.block w.heap.size (by have := HS2.out; have := HB.out; have := HBL.out; simp; omega) (by have := HB.out; omega)).trans ((Below.heap_alloc w2 _ w.heap.size (by have := HS2.out; have := HB.out; have := HBL.out; omega)).trans ((HF2.out.block w.heap.size (by have := HB.out; have := HBL.out; omega) (by have := HB.out; omega)).trans HZ1.out))
  have hbx := (hf3.block w2.heap.size (by simp) (by have := HS2.out; have := HBL.out; omega)).trans (heap_alloc_new w2 (.cells #[.bool y1, .string y2, .slice y4 y5 y6] 49))
  have HF3 : Hid (PFr w.heap.size w w3) := Lib.hid (PFr.jump rfl (PFr.jump rfl HF1.out HF2.out (by have := HB.out; omega)) (((PFr.refl B w2).alloc _).trans hf3) (by have := HB.out; omega))
  have HH3 : Hid (∀ j, j < w2.heap.size → j ≠ B → w3.heap[j]? = w2.heap[j]?) := Lib.hid (fun j j1 j2 => (hf3.block j (by simp; omega) j2).trans (Below.heap_alloc w2 _ j j1))
  have cz0 := (Lib.cell_of_heap hz 0).trans rfl
  have fz0 := Lib.frozen_of_heap hz 0
  have cz1 := (Lib.cell_of_heap hz 1).trans rfl
  have fz1 := Lib.frozen_of_heap hz 1
  have cz2 := (Lib.cell_of_heap hz 2).trans rfl
  have fz2 := Lib.frozen_of_heap hz 2
  have cb0 := (Lib.cell_of_heap hbx 0).trans rfl
  have cb1 := (Lib.cell_of_heap hbx 1).trans rfl
  have cb2 := (Lib.cell_of_heap hbx 2).trans rfl
  have HZ3 := Lib.hid hz
  by_cases hz3 : er3 = 0
  · subst hz3
    clear hz hbx hp3 hf3 HDN
    go_wp2_with fail
    have hX := ch3_blk HZ3.out rfl (.bool y1) (.string y2) (.slice y4 y5 y6)
    have hXs := ch3_size w3 w.heap.size (.bool y1) (.string y2) (.slice y4 y5 y6)
    have hXo := fun j (hj : j ≠ w.heap.size) => ch3_else (w := w3) hj (.bool y1) (.string y2) (.slice y4 y5 y6)
    have hXf := PFr.ch3 HF3.out (Nat.le_refl _) (.bool y1) (.string y2) (.slice y4 y5 y6)
    refine bodyPost_ret (v := .tuple #[.agg #[.bool y1, .string y2, .slice y4 y5 y6], .int .i64 0]) (results_cell_slot Tryz.results16 _ _ ⟨w.heap.size, 0, none⟩ _ _ rfl rfl (load_type hX)) rfl ⟨_, _, rfl, below_of_pfrN hXf, ?_⟩
    obtain ⟨g1, g2⟩ := HC4.out.ok
    rw [← g2]
    refine ⟨rfl, (TypeV.wide 66 _ _ _ _ _ _ _ (TypeV.stable 66 _ _ _ _ _ _ g1 (fun j j1 j2 => (hXo j ?_).trans (HH3.out j j2 ?_))) ?_ ?_)⟩
    · have := HB.out; have := HBL.out; omega
    · have := HB.out; have := HBL.out; omega
    · have := HB.out; have := HBL.out; omega
    · rw [hXs]; have := HS3.out; omega
  · have c2 := hp3.c2
    have hne : (er3 != 0) = true := by simpa using hz3
    obtain ⟨i, he, hO⟩ := HC4.out.err hz3
    have HEI := Lib.hid he
    have HOI := Lib.hid hO
    clear hz hbx hp3 hf3 HDN hz3 he hO
    go_wp2_with fail
    go_region
    all_goals go_wp2
    all_goals
      refine bodyPost_ret (v := .tuple #[.agg #[.bool false, .string ⟨#[]⟩, .slice none 0 0], .int .i64 er3]) (results_cell_slot Tryz.results16 _ _ ⟨w.heap.size, 0, none⟩ _ _ rfl rfl (load_type (by rw [drew_heap]; exact ch3_blk HZ3.out rfl (.bool false) (.string ⟨#[]⟩) (.slice none 0 0)))) rfl ⟨_, _, rfl, below_of_pfrN (PFr.drew (PFr.ch3 HF3.out (Nat.le_refl _) (.bool false) (.string ⟨#[]⟩) (.slice none 0 0))), ?_⟩
      rw [HOI.out]
      exact ⟨rfl, HEI.out⟩

end Lx
end Go.Proofs.YtnahhlhkbfdlhaaGreatDoor
