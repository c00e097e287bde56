/- The contract of package parse's unifyOrCall: a unification or a call. Conditions: the parser's block is its own; at most 16384 tokens. -/
import Derived.Test.YtacgbogedpoojabDoorParPrimB
import Derived.Deep.RegionHeld3
namespace Go.Proofs.YtacgbogedpoojabDoor
namespace Lx
open Go Go.RowKit

set_option maxRecDepth 100000 in
set_option maxHeartbeats 4000000 in
theorem uoc_any (b : Nat) (A : Option Addr) (c : Nat) (ts : List Tok) (f : Nat → Addr) (ne : Int) (h0 : 0 ≤ ne) (h1 : ne ≤ 70000) (w : World) (k : Nat) (h : Par w b A c ts k ne) (hE : PErrs w b f) (hk : k ≤ ts.length) :
    Calls Tryd.prog 49 #[.pointer (some ⟨b, 0, none⟩)] w fun e w' => EndsV b A c ts ne f (GoalV 1) w (uocO (termO ts 66 ne) ts k) e w' := by
  have HP := Lib.hid h
  have HE := Lib.hid hE
  have hfw := h.few
  have hbw := h.lt
  clear h hE
  unfold uocO
  have HQ1 := Lib.hid (fun w h hE => term_any b A c ts f 65 ne (by omega) h0 h1 w k h hE hk)
  cases q1 : termO ts 66 ne k with
  | no i =>
    rw [q1] at HQ1
    go_enter Tryd.func49, Tryd.ntmps49
    go_wp2_with fail
    go_at_call 16
    refine (HQ1.out _ (HP.out.alloc _) (HE.out.move ((PFr.refl b w).alloc _))).mono ?_
    rintro e w1 ⟨rfl, h2, h3⟩
    go_wp2_with fail
    exact ⟨rfl, rfl, h2, ((PFr.refl b w).alloc _).trans h3⟩
  | ok tA k1 =>
    rw [q1] at HQ1
    have hk1 := termO_fwd ts 66 ne _ _ _ q1
    have HA2 := Lib.hid (fun w h => accept_any w b A c ts k1 ne ⟨#[61]⟩ h (by omega))
    rw [hasT_eq, show (ByteArray.mk #[61]).data.toList = [61] from rfl] at HA2
    show Calls _ _ _ _ fun e w' => EndsV b A c ts ne f (GoalV 1) w (if hasT ts k1 [61] = true then match termO ts 66 ne (k1 + 1) with | .no i => .no i | .ok u k2 => .ok (.mk 3 tA u [] [] []) k2 else if tA.kind = 3 then .ok (.mk 4 zeroT zeroT tA.name tA.args []) k1 else .no 2) e w'
    clear q1
    cases q2 : hasT ts k1 [61] with
    | true =>
      have hin : k1 < ts.length := hasT_in q2 (by decide)
      rw [q2] at HA2
      simp only [if_true] at HA2 ⊢
      clear q2
      have HQ3 := Lib.hid (fun w h hE => term_any b A c ts f 65 ne (by omega) h0 h1 w (k1 + 1) h hE (by omega))
      cases q3 : termO ts 66 ne (k1 + 1) with
      | no i =>
        rw [q3] at HQ3
        go_enter Tryd.func49, Tryd.ntmps49
        go_wp2_with fail
        go_at_call 16
        refine (HQ1.out _ (HP.out.alloc _) (HE.out.move ((PFr.refl b w).alloc _))).mono ?_
        rintro e w1 ⟨v1, rfl, hv1, hp1, hf1⟩
        obtain ⟨z1, z2, z3, z4, z5, z6, rfl⟩ := TermV.shape hv1
        have HV1 := Lib.hid hv1
        clear hv1
        go_wp2_with fail
        go_at_call 37
        refine (HA2.out _ (hp1.alloc _)).mono ?_
        rintro e w2 ⟨rfl, hp2, hf2⟩
        have hgb := (hf2.block w1.heap.size (by simp) (by have := hf1.size; simp at this; omega)).trans (heap_alloc_new w1 _)
        have ew20 := (Lib.cell_of_heap hgb 0).trans rfl
        have ew21 := (Lib.cell_of_heap hgb 1).trans rfl
        have ew22 := (Lib.cell_of_heap hgb 2).trans rfl
        have ew23 := (Lib.cell_of_heap hgb 3).trans rfl
        have hsw2 : w1.heap.size < w2.heap.size := (Array.getElem?_eq_some_iff.1 hgb).1
        clear hgb
        go_wp2_with fail
        refine wp_region_held_drew (S := (fun W => W.cell? ⟨w1.heap.size, 0, none⟩ = some (.int .i64 z1) ∧ W.cell? ⟨w1.heap.size, 1, none⟩ = some (.string z2) ∧ W.cell? ⟨w1.heap.size, 2, none⟩ = some (.int .i64 z3) ∧ W.cell? ⟨w1.heap.size, 3, none⟩ = some (.slice z4 z5 z6))) (by kernel_rfl) ⟨ew20, ew21, ew22, ew23⟩ (fun hHeld => ?_)
        refine wpAnyH_take (i := 0) (v := (.agg #[.int .i64 z1, .string z2, .int .i64 z3, .slice z4 z5 z6])) rfl (by kernel_rfl) (by kernel_rfl) (by kernel_rfl) (fun _ _ _ h => h) (Or.inl ⟨by rfl, ?_⟩) hHeld ?_
        · (intro w hSw; (try dsimp only at hSw); go_simp)
        try simp only [Act.put, List.setIfInBounds_toArray, List.set_cons_zero, List.set_cons_succ]
        refine wpAnyH_take (i := 1) (v := (.pointer (some ⟨b, 0, none⟩))) rfl (by kernel_rfl) (by kernel_rfl) (by kernel_rfl) (fun _ _ _ h => h) (Or.inl ⟨by rfl, ?_⟩) hHeld ?_
        · (intro w hSw; go_simp)
        try simp only [Act.put, List.setIfInBounds_toArray, List.set_cons_zero, List.set_cons_succ]
        refine wpAnyH_ready (rs := [2]) (by kernel_rfl) (by simp) ?_
        refine AllReadyH.cons rfl (fun K hK => ?_) AllReadyH.nil
        go_simp
        go_at_call 16
        refine (HQ3.out _ (hp2.drewN 1) ((HE.out.move ((PFr.refl b w).alloc _)).move ((hf1.alloc _).trans (hf2.drewN 1)))).mono ?_
        rintro e w3 ⟨rfl, h2, h3⟩
        exact ⟨rfl, rfl, h2, ((PFr.refl b w).alloc _).trans ((hf1.alloc _).trans ((hf2.drewN 1).trans h3))⟩
      | ok tB k2 =>
        rw [q3] at HQ3
        go_enter Tryd.func49, Tryd.ntmps49
        go_wp2_with fail
        go_at_call 16
        refine (HQ1.out _ (HP.out.alloc _) (HE.out.move ((PFr.refl b w).alloc _))).mono ?_
        rintro e w1 ⟨v1, rfl, hv1, hp1, hf1⟩
        obtain ⟨z1, z2, z3, z4, z5, z6, rfl⟩ := TermV.shape hv1
        have HV1 := Lib.hid hv1
        clear hv1
        go_wp2_with fail
        go_at_call 37
        refine (HA2.out _ (hp1.alloc _)).mono ?_
        rintro e w2 ⟨rfl, hp2, hf2⟩
        have hgb := (hf2.block w1.heap.size (by simp) (by have := hf1.size; simp at this; omega)).trans (heap_alloc_new w1 _)
        have ew20 := (Lib.cell_of_heap hgb 0).trans rfl
        have ew21 := (Lib.cell_of_heap hgb 1).trans rfl
        have ew22 := (Lib.cell_of_heap hgb 2).trans rfl
        have ew23 := (Lib.cell_of_heap hgb 3).trans rfl
        have hsw2 : w1.heap.size < w2.heap.size := (Array.getElem?_eq_some_iff.1 hgb).1
        clear hgb
        have hsn : w.heap.size < w1.heap.size := (by have := hf1.size; simp at this; omega)
        have hsn1 : ¬ w.heap.size = w1.heap.size := Nat.ne_of_lt hsn
        have hsn2 : ¬ w1.heap.size = w.heap.size := Nat.ne_of_gt hsn
        go_wp2_with fail
        refine wp_region_held_drew (S := (fun W => W.cell? ⟨w1.heap.size, 0, none⟩ = some (.int .i64 z1) ∧ W.cell? ⟨w1.heap.size, 1, none⟩ = some (.string z2) ∧ W.cell? ⟨w1.heap.size, 2, none⟩ = some (.int .i64 z3) ∧ W.cell? ⟨w1.heap.size, 3, none⟩ = some (.slice z4 z5 z6))) (by kernel_rfl) ⟨ew20, ew21, ew22, ew23⟩ (fun hHeld => ?_)
        refine wpAnyH_take (i := 0) (v := (.agg #[.int .i64 z1, .string z2, .int .i64 z3, .slice z4 z5 z6])) rfl (by kernel_rfl) (by kernel_rfl) (by kernel_rfl) (fun _ _ _ h => h) (Or.inl ⟨by rfl, ?_⟩) hHeld ?_
        · (intro w hSw; (try dsimp only at hSw); go_simp)
        try simp only [Act.put, List.setIfInBounds_toArray, List.set_cons_zero, List.set_cons_succ]
        refine wpAnyH_take (i := 1) (v := (.pointer (some ⟨b, 0, none⟩))) rfl (by kernel_rfl) (by kernel_rfl) (by kernel_rfl) (fun _ _ _ h => h) (Or.inl ⟨by rfl, ?_⟩) hHeld ?_
        · (intro w hSw; go_simp)
        try simp only [Act.put, List.setIfInBounds_toArray, List.set_cons_zero, List.set_cons_succ]
        refine wpAnyH_ready (rs := [2]) (by kernel_rfl) (by simp) ?_
        refine AllReadyH.cons rfl (fun K hK => ?_) AllReadyH.nil
        go_simp
        go_at_call 16
        refine (HQ3.out _ (hp2.drewN 1) ((HE.out.move ((PFr.refl b w).alloc _)).move ((hf1.alloc _).trans (hf2.drewN 1)))).mono ?_
        rintro e w3 ⟨v3, rfl, hv3, hp3, hf3⟩
        obtain ⟨r1, r2, r3, r4, r5, r6, rfl⟩ := TermV.shape hv3
        have HV3 := Lib.hid hv3
        clear hv3
        have hgb := (((hf2.drewN 1).trans hf3).block w1.heap.size (by simp) (by have := hf1.size; simp at this; omega)).trans (heap_alloc_new w1 _)
        have ew30 := (Lib.cell_of_heap hgb 0).trans rfl
        have ew31 := (Lib.cell_of_heap hgb 1).trans rfl
        have ew32 := (Lib.cell_of_heap hgb 2).trans rfl
        have ew33 := (Lib.cell_of_heap hgb 3).trans rfl
        have hsw3 : w1.heap.size < w3.heap.size := (Array.getElem?_eq_some_iff.1 hgb).1
        clear hgb
        have hb := boxG ((hf1.alloc _).trans ((hf2.drewN 1).trans hf3)) hbw (heap_alloc_new w _)
        have d0 := (Lib.cell_of_heap hb 0).trans rfl
        have g0 := Lib.frozen_of_heap hb 0
        have d1 := (Lib.cell_of_heap hb 1).trans rfl
        have g1 := Lib.frozen_of_heap hb 1
        have d2 := (Lib.cell_of_heap hb 2).trans rfl
        have g2 := Lib.frozen_of_heap hb 2
        have d3 := (Lib.cell_of_heap hb 3).trans rfl
        have g3 := Lib.frozen_of_heap hb 3
        have d4 := (Lib.cell_of_heap hb 4).trans rfl
        have g4 := Lib.frozen_of_heap hb 4
        have d5 := (Lib.cell_of_heap hb 5).trans rfl
        have g5 := Lib.frozen_of_heap hb 5
        have d6 := (Lib.cell_of_heap hb 6).trans rfl
        have g6 := Lib.frozen_of_heap hb 6
        have d7 := (Lib.cell_of_heap hb 7).trans rfl
        have g7 := Lib.frozen_of_heap hb 7
        have d8 := (Lib.cell_of_heap hb 8).trans rfl
        have g8 := Lib.frozen_of_heap hb 8
        have d9 := (Lib.cell_of_heap hb 9).trans rfl
        have g9 := Lib.frozen_of_heap hb 9
        have d10 := (Lib.cell_of_heap hb 10).trans rfl
        have g10 := Lib.frozen_of_heap hb 10
        have d11 := (Lib.cell_of_heap hb 11).trans rfl
        have g11 := Lib.frozen_of_heap hb 11
        have hsz : w.heap.size < w3.heap.size := (Array.getElem?_eq_some_iff.1 hb).1
        have HB := Lib.hid hb
        clear hb
        refine hK.out _ _ ⟨ew30, ew31, ew32, ew33⟩ (fun hHeld => ?_)
        clear hK K
        try simp only [Act.put, List.setIfInBounds_toArray, List.set_cons_zero, List.set_cons_succ]
        refine wpAnyH_take (i := 3) (v := .agg #[.int .i64 3, .int .i64 z1, .string z2, .int .i64 z3, .slice z4 z5 z6, .int .i64 r1, .string r2, .int .i64 r3, .slice r4 r5 r6, .string ⟨#[]⟩, .slice none 0 0, .slice none 0 0]) rfl (by kernel_rfl) (by kernel_rfl) (by kernel_rfl) (fun _ _ _ h => h) (Or.inl ⟨by rfl, ?_⟩) hHeld ?_
        · (intro w hSw; go_simp)
        try simp only [Act.put, List.setIfInBounds_toArray, List.set_cons_zero, List.set_cons_succ]
        refine wpAnyH_ready (rs := [4]) (by kernel_rfl) (by simp) ?_
        refine AllReadyH.cons rfl (fun K hK => ?_) AllReadyH.nil
        go_simp
        refine hK.out _ _ ⟨(far12 hsn2).trans ew30, (far12 hsn2).trans ew31, (far12 hsn2).trans ew32, (far12 hsn2).trans ew33⟩ (fun hHeld => ?_)
        clear hK K
        refine wpAnyH_done (by kernel_rfl) ?_ _
        go_wp2
        have hs23 : w2.heap.size ≤ w3.heap.size := hf3.size
        have hs12 := hsw2
        obtain ⟨t1, t2, t3, t4, t5⟩ := put12 HP.out ((hf1.alloc _).trans ((hf2.drewN 1).trans hf3)) hp3 HB.out (.int .i64 3) (.int .i64 z1) (.string z2) (.int .i64 z3) (.slice z4 z5 z6) (.int .i64 r1) (.string r2) (.int .i64 r3) (.slice r4 r5 r6) (.string ⟨#[]⟩) (.slice none 0 0) (.slice none 0 0)
        have y0 := (Lib.cell_of_heap t1 0).trans rfl
        have y1 := (Lib.cell_of_heap t1 1).trans rfl
        have y2 := (Lib.cell_of_heap t1 2).trans rfl
        have y3 := (Lib.cell_of_heap t1 3).trans rfl
        have y4 := (Lib.cell_of_heap t1 4).trans rfl
        have y5 := (Lib.cell_of_heap t1 5).trans rfl
        have y6 := (Lib.cell_of_heap t1 6).trans rfl
        have y7 := (Lib.cell_of_heap t1 7).trans rfl
        have y8 := (Lib.cell_of_heap t1 8).trans rfl
        have y9 := (Lib.cell_of_heap t1 9).trans rfl
        have y10 := (Lib.cell_of_heap t1 10).trans rfl
        have y11 := (Lib.cell_of_heap t1 11).trans rfl
        refine bodyPost_ret (v := .agg #[.int .i64 3, .int .i64 z1, .string z2, .int .i64 z3, .slice z4 z5 z6, .int .i64 r1, .string r2, .int .i64 r3, .slice r4 r5 r6, .string ⟨#[]⟩, .slice none 0 0, .slice none 0 0]) (by simp [results, Tryd.results49, go_sem, y0, y1, y2, y3, y4, y5, y6, y7, y8, y9, y10, y11]) rfl ⟨_, rfl, ?_, t2, t3⟩
        refine ⟨_, _, _, _, _, _, _, _, _, _, rfl, ?_, ?_, .inl ⟨rfl, rfl⟩, .inl ⟨rfl, rfl⟩⟩
        · refine TermV.wide _ _ _ _ _ _ _ _ (TermV.stable _ _ _ _ _ _ _ (TermV.wide _ _ _ _ _ (w.heap.size + 1) _ _ HV1.out (by simp) (Nat.le_refl _)) (fun j j1 j2 => ?_)) (Nat.le_succ _) (by rw [t5]; omega)
          exact (t4 j (by omega)).trans ((((hf2.drewN 1).trans hf3).block j (by simp; omega) (by omega)).trans (Below.heap_alloc w1 _ j j2))
        · exact TermV.wide _ _ _ _ _ _ _ _ (TermV.stable _ _ _ _ _ _ _ HV3.out (fun j j1 j2 => t4 j (by have : w2.heap.size ≤ j := j1; omega))) (show w.heap.size ≤ w2.heap.size by omega) (by rw [t5]; exact Nat.le_refl _)
    | false =>
      rw [q2] at HA2
      simp only [Bool.false_eq_true, if_false] at HA2 ⊢
      clear q2
      by_cases q3 : tA.kind = 3
      · simp only [q3, if_true]
        go_enter Tryd.func49, Tryd.ntmps49
        go_wp2_with fail
        go_at_call 16
        refine (HQ1.out _ (HP.out.alloc _) (HE.out.move ((PFr.refl b w).alloc _))).mono ?_
        rintro e w1 ⟨v1, rfl, hv1, hp1, hf1⟩
        obtain ⟨z2, z3, z4, z5, z6, rfl⟩ := TermV.kind3 q3 hv1
        have HV1 := Lib.hid hv1
        clear hv1
        go_wp2_with fail
        go_at_call 37
        refine (HA2.out _ (hp1.alloc _)).mono ?_
        rintro e w2 ⟨rfl, hp2, hf2⟩
        have hgb := (hf2.block w1.heap.size (by simp) (by have := hf1.size; simp at this; omega)).trans (heap_alloc_new w1 _)
        have ew20 := (Lib.cell_of_heap hgb 0).trans rfl
        have ew21 := (Lib.cell_of_heap hgb 1).trans rfl
        have ew22 := (Lib.cell_of_heap hgb 2).trans rfl
        have ew23 := (Lib.cell_of_heap hgb 3).trans rfl
        have hsw2 : w1.heap.size < w2.heap.size := (Array.getElem?_eq_some_iff.1 hgb).1
        clear hgb
        have hsn : w.heap.size < w1.heap.size := (by have := hf1.size; simp at this; omega)
        have hsn1 : ¬ w.heap.size = w1.heap.size := Nat.ne_of_lt hsn
        have hsn2 : ¬ w1.heap.size = w.heap.size := Nat.ne_of_gt hsn
        have hb := boxG ((hf1.alloc _).trans hf2) hbw (heap_alloc_new w _)
        have d0 := (Lib.cell_of_heap hb 0).trans rfl
        have g0 := Lib.frozen_of_heap hb 0
        have d1 := (Lib.cell_of_heap hb 1).trans rfl
        have g1 := Lib.frozen_of_heap hb 1
        have d2 := (Lib.cell_of_heap hb 2).trans rfl
        have g2 := Lib.frozen_of_heap hb 2
        have d3 := (Lib.cell_of_heap hb 3).trans rfl
        have g3 := Lib.frozen_of_heap hb 3
        have d4 := (Lib.cell_of_heap hb 4).trans rfl
        have g4 := Lib.frozen_of_heap hb 4
        have d5 := (Lib.cell_of_heap hb 5).trans rfl
        have g5 := Lib.frozen_of_heap hb 5
        have d6 := (Lib.cell_of_heap hb 6).trans rfl
        have g6 := Lib.frozen_of_heap hb 6
        have d7 := (Lib.cell_of_heap hb 7).trans rfl
        have g7 := Lib.frozen_of_heap hb 7
        have d8 := (Lib.cell_of_heap hb 8).trans rfl
        have g8 := Lib.frozen_of_heap hb 8
        have d9 := (Lib.cell_of_heap hb 9).trans rfl
        have g9 := Lib.frozen_of_heap hb 9
        have d10 := (Lib.cell_of_heap hb 10).trans rfl
        have g10 := Lib.frozen_of_heap hb 10
        have d11 := (Lib.cell_of_heap hb 11).trans rfl
        have g11 := Lib.frozen_of_heap hb 11
        have hsz : w.heap.size < w2.heap.size := (Array.getElem?_eq_some_iff.1 hb).1
        have HB := Lib.hid hb
        clear hb
        go_wp2_with fail
        have hs12 := hsw2
        obtain ⟨t1, t2, t3, t4, t5⟩ := put12 HP.out ((hf1.alloc _).trans hf2) hp2 HB.out (.int .i64 4) (.int .i64 0) (.string ⟨#[]⟩) (.int .i64 0) (.slice none 0 0) (.int .i64 0) (.string ⟨#[]⟩) (.int .i64 0) (.slice none 0 0) (.string z2) (.slice z4 z5 z6) (.slice none 0 0)
        have y0 := (Lib.cell_of_heap t1 0).trans rfl
        have y1 := (Lib.cell_of_heap t1 1).trans rfl
        have y2 := (Lib.cell_of_heap t1 2).trans rfl
        have y3 := (Lib.cell_of_heap t1 3).trans rfl
        have y4 := (Lib.cell_of_heap t1 4).trans rfl
        have y5 := (Lib.cell_of_heap t1 5).trans rfl
        have y6 := (Lib.cell_of_heap t1 6).trans rfl
        have y7 := (Lib.cell_of_heap t1 7).trans rfl
        have y8 := (Lib.cell_of_heap t1 8).trans rfl
        have y9 := (Lib.cell_of_heap t1 9).trans rfl
        have y10 := (Lib.cell_of_heap t1 10).trans rfl
        have y11 := (Lib.cell_of_heap t1 11).trans rfl
        refine bodyPost_ret (v := .agg #[.int .i64 4, .int .i64 0, .string ⟨#[]⟩, .int .i64 0, .slice none 0 0, .int .i64 0, .string ⟨#[]⟩, .int .i64 0, .slice none 0 0, .string z2, .slice z4 z5 z6, .slice none 0 0]) (by simp [results, Tryd.results49, go_sem, y0, y1, y2, y3, y4, y5, y6, y7, y8, y9, y10, y11]) rfl ⟨_, rfl, ?_, t2, t3⟩
        obtain ⟨hnm, har⟩ := TermV.parts HV1.out
        subst hnm
        refine ⟨_, _, _, _, _, _, _, _, _, _, rfl, zeroT_holds _ _ _, zeroT_holds _ _ _, ?_, .inl ⟨rfl, rfl⟩⟩
        refine ArgsV.wide (ArgsV.stable _ _ (TermV.stable 66) _ _ _ _ _ _ (ArgsV.imp (fun x v lo hi w h => TermV.succ _ _ _ _ _ _ h) (har.wide (lo' := w.heap.size + 1) (by simp) (Nat.le_refl _))) (fun j j1 j2 => ?_)) (Nat.le_succ _) (by rw [t5]; omega)
        exact (t4 j (by omega)).trans ((hf2.block j (by simp; omega) (by omega)).trans (Below.heap_alloc w1 _ j j2))
      · simp only [q3, if_false]
        go_enter Tryd.func49, Tryd.ntmps49
        go_wp2_with fail
        go_at_call 16
        refine (HQ1.out _ (HP.out.alloc _) (HE.out.move ((PFr.refl b w).alloc _))).mono ?_
        rintro e w1 ⟨v1, rfl, hv1, hp1, hf1⟩
        obtain ⟨z1, z2, z3, z4, z5, z6, hz1, rfl⟩ := TermV.kindn q3 hv1
        have HV1 := Lib.hid hv1
        clear hv1
        go_wp2_with fail
        go_at_call 37
        refine (HA2.out _ (hp1.alloc _)).mono ?_
        rintro e w2 ⟨rfl, hp2, hf2⟩
        have hgb := (hf2.block w1.heap.size (by simp) (by have := hf1.size; simp at this; omega)).trans (heap_alloc_new w1 _)
        have ew20 := (Lib.cell_of_heap hgb 0).trans rfl
        have ew21 := (Lib.cell_of_heap hgb 1).trans rfl
        have ew22 := (Lib.cell_of_heap hgb 2).trans rfl
        have ew23 := (Lib.cell_of_heap hgb 3).trans rfl
        have hsw2 : w1.heap.size < w2.heap.size := (Array.getElem?_eq_some_iff.1 hgb).1
        clear hgb
        have hsn : w.heap.size < w1.heap.size := (by have := hf1.size; simp at this; omega)
        have hsn1 : ¬ w.heap.size = w1.heap.size := Nat.ne_of_lt hsn
        have hsn2 : ¬ w1.heap.size = w.heap.size := Nat.ne_of_gt hsn
        have c1 := ((HE.out.move ((PFr.refl b w).alloc _)).move ((hf1.alloc _).trans hf2)).syn
        have hg := World.block_lt_of_cell? _ _ c1
        go_wp2_with fail
        exact ⟨rfl, rfl, ⟨_, _, hp2, Int.le_refl _⟩, ((PFr.refl b w).alloc _).trans ((hf1.alloc _).trans hf2)⟩

end Lx
end Go.Proofs.YtacgbogedpoojabDoor
