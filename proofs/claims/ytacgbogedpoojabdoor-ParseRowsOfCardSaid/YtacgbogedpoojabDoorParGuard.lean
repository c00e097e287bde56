/- The contract of package parse's guarded: what follows "try". Conditions: the parser's block is its own; at most 16384 tokens. -/
import Derived.Test.YtacgbogedpoojabDoorParPrimB
import Derived.Deep.RegionHeld3
namespace Go.Proofs.YtacgbogedpoojabDoor
namespace Lx
open Go Go.RowKit

set_option maxRecDepth 100000 in
set_option maxHeartbeats 4000000 in
theorem guarded_any (b : Nat) (A : Option Addr) (c : Nat) (ts : List Tok) (ne : Int) (f : Nat → Addr) (d : Nat) (rd : Nat → Out GoalT) (hrd : Fwd ts rd)
    (HR : Hid (∀ w k, Par w b A c ts k ne → PErrs w b f → k ≤ ts.length → Calls Tryd.prog 38 #[.pointer (some ⟨b, 0, none⟩)] w fun e w' => EndsV b A c ts ne f (GoalV d) w (rd k) e w'))
    (w : World) (k : Nat) (h : Par w b A c ts k ne) (hE : PErrs w b f) (hk : k ≤ ts.length) :
    Calls Tryd.prog 48 #[.pointer (some ⟨b, 0, none⟩)] w fun e w' => EndsV b A c ts ne f (GoalV (d + 1)) w (guardO rd ts k) e w' := by
  have HP := Lib.hid h
  have HE := Lib.hid hE
  have hfw := h.few
  have hbw := h.lt
  clear h hE
  unfold guardO
  have HQ1 := Lib.hid (fun w h hE => HR.out w k h hE hk)
  cases q1 : rd k with
  | no i =>
    rw [q1] at HQ1
    go_enter Tryd.func48, Tryd.ntmps48
    go_wp2_with fail
    go_at_call 38
    refine (HQ1.out _ (HP.out.alloc _) (HE.out.move ((PFr.refl b w).alloc _))).mono ?_
    rintro e w1 ⟨rfl, h2, h3⟩
    go_wp2_with fail
    exact ⟨rfl, rfl, h2, ((PFr.refl b w).alloc _).trans h3⟩
  | ok gA k1 =>
    rw [q1] at HQ1
    have hk1 := hrd _ _ _ q1
    have HX2 := Lib.hid (fun w h hE => expect_any w b A c ts k1 ne f ⟨#[99, 97, 116, 99, 104]⟩ h (by omega) hE)
    rw [expO_eq, show (ByteArray.mk #[99, 97, 116, 99, 104]).data.toList = [99, 97, 116, 99, 104] from rfl] at HX2
    show Calls _ _ _ _ fun e w' => EndsV b A c ts ne f (GoalV (d + 1)) w (match expO ts k1 [99, 97, 116, 99, 104] with | .no i => .no i | .ok _ k2 => match varO ts k2 with | .no i => .no i | .ok s k3 => match expO ts k3 [116, 104, 101, 110] with | .no i => .no i | .ok _ k4 => match rd k4 with | .no i => .no i | .ok g2 k5 => .ok (.mk 9 zeroT zeroT s [] [gA, g2]) k5) e w'
    clear q1
    cases q2 : expO ts k1 [99, 97, 116, 99, 104] with
    | no i =>
      rw [q2] at HX2
      go_enter Tryd.func48, Tryd.ntmps48
      go_wp2_with fail
      go_at_call 38
      refine (HQ1.out _ (HP.out.alloc _) (HE.out.move ((PFr.refl b w).alloc _))).mono ?_
      rintro e w1 ⟨v1, rfl, hv1, hp1, hf1⟩
      obtain ⟨z1, z2, z3, z4, z5, z6, z7, z8, z9, za, zb, zc, zd, ze, zf, zg, zh, zi, zj, zk, rfl⟩ := GoalV.this _ _ _ _ _ _ hv1
      have HV1 := Lib.hid hv1
      clear hv1
      go_wp2_with fail
      go_at_call 34
      refine (HX2.out _ (hp1.alloc _) ((HE.out.move ((PFr.refl b w).alloc _)).move (hf1.alloc _))).mono ?_
      rintro e w2 ⟨rfl, h2, h3⟩
      go_wp2_with fail
      exact ⟨rfl, rfl, h2, ((PFr.refl b w).alloc _).trans ((hf1.alloc _).trans h3)⟩
    | ok uA k2 =>
      rw [q2] at HX2
      have hk2 := expO_fwd (ts := ts) (s := [99, 97, 116, 99, 104]) (by decide) _ _ _ q2
      have HX3 := Lib.hid (fun w h hE => variable_any w b A c ts k2 ne f h (by omega) hE)
      show Calls _ _ _ _ fun e w' => EndsV b A c ts ne f (GoalV (d + 1)) w (match varO ts k2 with | .no i => .no i | .ok s k3 => match expO ts k3 [116, 104, 101, 110] with | .no i => .no i | .ok _ k4 => match rd k4 with | .no i => .no i | .ok g2 k5 => .ok (.mk 9 zeroT zeroT s [] [gA, g2]) k5) e w'
      clear q2
      cases q3 : varO ts k2 with
      | no i =>
        rw [q3] at HX3
        go_enter Tryd.func48, Tryd.ntmps48
        go_wp2_with fail
        go_at_call 38
        refine (HQ1.out _ (HP.out.alloc _) (HE.out.move ((PFr.refl b w).alloc _))).mono ?_
        rintro e w1 ⟨v1, rfl, hv1, hp1, hf1⟩
        obtain ⟨z1, z2, z3, z4, z5, z6, z7, z8, z9, za, zb, zc, zd, ze, zf, zg, zh, zi, zj, zk, rfl⟩ := GoalV.this _ _ _ _ _ _ hv1
        have HV1 := Lib.hid hv1
        clear hv1
        go_wp2_with fail
        go_at_call 34
        refine (HX2.out _ (hp1.alloc _) ((HE.out.move ((PFr.refl b w).alloc _)).move (hf1.alloc _))).mono ?_
        rintro e w2 ⟨v2, rfl, rfl, hp2, hf2⟩
        go_wp2_with fail
        go_at_call 51
        refine (HX3.out _ hp2 ((HE.out.move ((PFr.refl b w).alloc _)).move ((hf1.alloc _).trans hf2))).mono ?_
        rintro e w3 ⟨rfl, h2, h3⟩
        go_wp2_with fail
        exact ⟨rfl, rfl, h2, ((PFr.refl b w).alloc _).trans ((hf1.alloc _).trans (hf2.trans h3))⟩
      | ok s k3 =>
        rw [q3] at HX3
        have hk3 := varO_fwd ts _ _ _ q3
        have HX4 := Lib.hid (fun w h hE => expect_any w b A c ts k3 ne f ⟨#[116, 104, 101, 110]⟩ h (by omega) hE)
        rw [expO_eq, show (ByteArray.mk #[116, 104, 101, 110]).data.toList = [116, 104, 101, 110] from rfl] at HX4
        show Calls _ _ _ _ fun e w' => EndsV b A c ts ne f (GoalV (d + 1)) w (match expO ts k3 [116, 104, 101, 110] with | .no i => .no i | .ok _ k4 => match rd k4 with | .no i => .no i | .ok g2 k5 => .ok (.mk 9 zeroT zeroT s [] [gA, g2]) k5) e w'
        clear q3
        cases q4 : expO ts k3 [116, 104, 101, 110] with
        | no i =>
          rw [q4] at HX4
          go_enter Tryd.func48, Tryd.ntmps48
          go_wp2_with fail
          go_at_call 38
          refine (HQ1.out _ (HP.out.alloc _) (HE.out.move ((PFr.refl b w).alloc _))).mono ?_
          rintro e w1 ⟨v1, rfl, hv1, hp1, hf1⟩
          obtain ⟨z1, z2, z3, z4, z5, z6, z7, z8, z9, za, zb, zc, zd, ze, zf, zg, zh, zi, zj, zk, rfl⟩ := GoalV.this _ _ _ _ _ _ hv1
          have HV1 := Lib.hid hv1
          clear hv1
          go_wp2_with fail
          go_at_call 34
          refine (HX2.out _ (hp1.alloc _) ((HE.out.move ((PFr.refl b w).alloc _)).move (hf1.alloc _))).mono ?_
          rintro e w2 ⟨v2, rfl, rfl, hp2, hf2⟩
          go_wp2_with fail
          go_at_call 51
          refine (HX3.out _ hp2 ((HE.out.move ((PFr.refl b w).alloc _)).move ((hf1.alloc _).trans hf2))).mono ?_
          rintro e w3 ⟨v3, rfl, rfl, hp3, hf3⟩
          go_wp2_with fail
          go_at_call 34
          refine (HX4.out _ hp3 ((HE.out.move ((PFr.refl b w).alloc _)).move ((hf1.alloc _).trans (hf2.trans hf3)))).mono ?_
          rintro e w4 ⟨rfl, h2, h3⟩
          go_wp2_with fail
          exact ⟨rfl, rfl, h2, ((PFr.refl b w).alloc _).trans ((hf1.alloc _).trans (hf2.trans (hf3.trans h3)))⟩
        | ok uB k4 =>
          rw [q4] at HX4
          have hk4 := expO_fwd (ts := ts) (s := [116, 104, 101, 110]) (by decide) _ _ _ q4
          have HQ5 := Lib.hid (fun w h hE => HR.out w k4 h hE (by omega))
          show Calls _ _ _ _ fun e w' => EndsV b A c ts ne f (GoalV (d + 1)) w (match rd k4 with | .no i => .no i | .ok g2 k5 => .ok (.mk 9 zeroT zeroT s [] [gA, g2]) k5) e w'
          clear q4
          cases q5 : rd k4 with
          | no i =>
            rw [q5] at HQ5
            go_enter Tryd.func48, Tryd.ntmps48
            go_wp2_with fail
            go_at_call 38
            refine (HQ1.out _ (HP.out.alloc _) (HE.out.move ((PFr.refl b w).alloc _))).mono ?_
            rintro e w1 ⟨v1, rfl, hv1, hp1, hf1⟩
            obtain ⟨z1, z2, z3, z4, z5, z6, z7, z8, z9, za, zb, zc, zd, ze, zf, zg, zh, zi, zj, zk, rfl⟩ := GoalV.this _ _ _ _ _ _ hv1
            have HV1 := Lib.hid hv1
            clear hv1
            go_wp2_with fail
            go_at_call 34
            refine (HX2.out _ (hp1.alloc _) ((HE.out.move ((PFr.refl b w).alloc _)).move (hf1.alloc _))).mono ?_
            rintro e w2 ⟨v2, rfl, rfl, hp2, hf2⟩
            go_wp2_with fail
            go_at_call 51
            refine (HX3.out _ hp2 ((HE.out.move ((PFr.refl b w).alloc _)).move ((hf1.alloc _).trans hf2))).mono ?_
            rintro e w3 ⟨v3, rfl, rfl, hp3, hf3⟩
            go_wp2_with fail
            go_at_call 34
            refine (HX4.out _ hp3 ((HE.out.move ((PFr.refl b w).alloc _)).move ((hf1.alloc _).trans (hf2.trans hf3)))).mono ?_
            rintro e w4 ⟨v4, rfl, rfl, hp4, hf4⟩
            have hgb := ((hf2.trans (hf3.trans hf4)).block w1.heap.size (by simp) (by have := hf1.size; simp at this; omega)).trans (heap_alloc_new w1 _)
            have ew40 := (Lib.cell_of_heap hgb 0).trans rfl
            have ew41 := (Lib.cell_of_heap hgb 1).trans rfl
            have ew42 := (Lib.cell_of_heap hgb 2).trans rfl
            have ew43 := (Lib.cell_of_heap hgb 3).trans rfl
            have ew44 := (Lib.cell_of_heap hgb 4).trans rfl
            have ew45 := (Lib.cell_of_heap hgb 5).trans rfl
            have ew46 := (Lib.cell_of_heap hgb 6).trans rfl
            have ew47 := (Lib.cell_of_heap hgb 7).trans rfl
            have ew48 := (Lib.cell_of_heap hgb 8).trans rfl
            have ew49 := (Lib.cell_of_heap hgb 9).trans rfl
            have ew410 := (Lib.cell_of_heap hgb 10).trans rfl
            have ew411 := (Lib.cell_of_heap hgb 11).trans rfl
            have hsw4 : w1.heap.size < w4.heap.size := (Array.getElem?_eq_some_iff.1 hgb).1
            clear hgb
            go_wp2_with fail
            refine wp_region_held_drew (S := (fun W => W.cell? ⟨w1.heap.size, 0, none⟩ = some (.int .i64 z1) ∧ W.cell? ⟨w1.heap.size, 1, none⟩ = some (.int .i64 z2) ∧ W.cell? ⟨w1.heap.size, 2, none⟩ = some (.string z3) ∧ W.cell? ⟨w1.heap.size, 3, none⟩ = some (.int .i64 z4) ∧ W.cell? ⟨w1.heap.size, 4, none⟩ = some (.slice z5 z6 z7) ∧ W.cell? ⟨w1.heap.size, 5, none⟩ = some (.int .i64 z8) ∧ W.cell? ⟨w1.heap.size, 6, none⟩ = some (.string z9) ∧ W.cell? ⟨w1.heap.size, 7, none⟩ = some (.int .i64 za) ∧ W.cell? ⟨w1.heap.size, 8, none⟩ = some (.slice zb zc zd) ∧ W.cell? ⟨w1.heap.size, 9, none⟩ = some (.string ze) ∧ W.cell? ⟨w1.heap.size, 10, none⟩ = some (.slice zf zg zh) ∧ W.cell? ⟨w1.heap.size, 11, none⟩ = some (.slice zi zj zk))) (by kernel_rfl) ⟨ew40, ew41, ew42, ew43, ew44, ew45, ew46, ew47, ew48, ew49, ew410, ew411⟩ (fun hHeld => ?_)
            refine wpAnyH_take (i := 0) (v := (.string (bs s))) rfl (by kernel_rfl) (by kernel_rfl) (by kernel_rfl) (fun _ _ _ h => h) (Or.inl ⟨by rfl, ?_⟩) hHeld ?_
            · (intro w hSw; go_simp)
            try simp only [Act.put, List.setIfInBounds_toArray, List.set_cons_zero, List.set_cons_succ]
            refine wpAnyH_take (i := 1) (v := (.agg #[.int .i64 z1, .int .i64 z2, .string z3, .int .i64 z4, .slice z5 z6 z7, .int .i64 z8, .string z9, .int .i64 za, .slice zb zc zd, .string ze, .slice zf zg zh, .slice zi zj zk])) rfl (by kernel_rfl) (by kernel_rfl) (by kernel_rfl) (fun _ _ _ h => h) (Or.inl ⟨by rfl, ?_⟩) hHeld ?_
            · (intro w hSw; (try dsimp only at hSw); go_simp)
            try simp only [Act.put, List.setIfInBounds_toArray, List.set_cons_zero, List.set_cons_succ]
            refine wpAnyH_take (i := 2) (v := (.pointer (some ⟨b, 0, none⟩))) rfl (by kernel_rfl) (by kernel_rfl) (by kernel_rfl) (fun _ _ _ h => h) (Or.inl ⟨by rfl, ?_⟩) hHeld ?_
            · (intro w hSw; go_simp)
            try simp only [Act.put, List.setIfInBounds_toArray, List.set_cons_zero, List.set_cons_succ]
            refine wpAnyH_ready (rs := [3]) (by kernel_rfl) (by simp) ?_
            refine AllReadyH.cons rfl (fun K hK => ?_) AllReadyH.nil
            go_simp
            go_at_call 38
            refine (HQ5.out _ (hp4.drewN 1) ((HE.out.move ((PFr.refl b w).alloc _)).move ((hf1.alloc _).trans (hf2.trans (hf3.trans (hf4.drewN 1)))))).mono ?_
            rintro e w5 ⟨rfl, h2, h3⟩
            exact ⟨rfl, rfl, h2, ((PFr.refl b w).alloc _).trans ((hf1.alloc _).trans (hf2.trans (hf3.trans ((hf4.drewN 1).trans h3))))⟩
          | ok gB k5 =>
            rw [q5] at HQ5
            go_enter Tryd.func48, Tryd.ntmps48
            go_wp2_with fail
            go_at_call 38
            refine (HQ1.out _ (HP.out.alloc _) (HE.out.move ((PFr.refl b w).alloc _))).mono ?_
            rintro e w1 ⟨v1, rfl, hv1, hp1, hf1⟩
            obtain ⟨z1, z2, z3, z4, z5, z6, z7, z8, z9, za, zb, zc, zd, ze, zf, zg, zh, zi, zj, zk, rfl⟩ := GoalV.this _ _ _ _ _ _ hv1
            have HV1 := Lib.hid hv1
            clear hv1
            go_wp2_with fail
            go_at_call 34
            refine (HX2.out _ (hp1.alloc _) ((HE.out.move ((PFr.refl b w).alloc _)).move (hf1.alloc _))).mono ?_
            rintro e w2 ⟨v2, rfl, rfl, hp2, hf2⟩
            go_wp2_with fail
            go_at_call 51
            refine (HX3.out _ hp2 ((HE.out.move ((PFr.refl b w).alloc _)).move ((hf1.alloc _).trans hf2))).mono ?_
            rintro e w3 ⟨v3, rfl, rfl, hp3, hf3⟩
            go_wp2_with fail
            go_at_call 34
            refine (HX4.out _ hp3 ((HE.out.move ((PFr.refl b w).alloc _)).move ((hf1.alloc _).trans (hf2.trans hf3)))).mono ?_
            rintro e w4 ⟨v4, rfl, rfl, hp4, hf4⟩
            have hgb := ((hf2.trans (hf3.trans hf4)).block w1.heap.size (by simp) (by have := hf1.size; simp at this; omega)).trans (heap_alloc_new w1 _)
            have ew40 := (Lib.cell_of_heap hgb 0).trans rfl
            have ew41 := (Lib.cell_of_heap hgb 1).trans rfl
            have ew42 := (Lib.cell_of_heap hgb 2).trans rfl
            have ew43 := (Lib.cell_of_heap hgb 3).trans rfl
            have ew44 := (Lib.cell_of_heap hgb 4).trans rfl
            have ew45 := (Lib.cell_of_heap hgb 5).trans rfl
            have ew46 := (Lib.cell_of_heap hgb 6).trans rfl
            have ew47 := (Lib.cell_of_heap hgb 7).trans rfl
            have ew48 := (Lib.cell_of_heap hgb 8).trans rfl
            have ew49 := (Lib.cell_of_heap hgb 9).trans rfl
            have ew410 := (Lib.cell_of_heap hgb 10).trans rfl
            have ew411 := (Lib.cell_of_heap hgb 11).trans rfl
            have hsw4 : w1.heap.size < w4.heap.size := (Array.getElem?_eq_some_iff.1 hgb).1
            clear hgb
            have hsn : w.heap.size < w1.heap.size := (by have := hf1.size; simp at this; omega)
            have hsn1 : ¬ w.heap.size = w1.heap.size := Nat.ne_of_lt hsn
            have hsn2 : ¬ w1.heap.size = w.heap.size := Nat.ne_of_gt hsn
            go_wp2_with fail
            refine wp_region_held_drew (S := (fun W => W.cell? ⟨w1.heap.size, 0, none⟩ = some (.int .i64 z1) ∧ W.cell? ⟨w1.heap.size, 1, none⟩ = some (.int .i64 z2) ∧ W.cell? ⟨w1.heap.size, 2, none⟩ = some (.string z3) ∧ W.cell? ⟨w1.heap.size, 3, none⟩ = some (.int .i64 z4) ∧ W.cell? ⟨w1.heap.size, 4, none⟩ = some (.slice z5 z6 z7) ∧ W.cell? ⟨w1.heap.size, 5, none⟩ = some (.int .i64 z8) ∧ W.cell? ⟨w1.heap.size, 6, none⟩ = some (.string z9) ∧ W.cell? ⟨w1.heap.size, 7, none⟩ = some (.int .i64 za) ∧ W.cell? ⟨w1.heap.size, 8, none⟩ = some (.slice zb zc zd) ∧ W.cell? ⟨w1.heap.size, 9, none⟩ = some (.string ze) ∧ W.cell? ⟨w1.heap.size, 10, none⟩ = some (.slice zf zg zh) ∧ W.cell? ⟨w1.heap.size, 11, none⟩ = some (.slice zi zj zk))) (by kernel_rfl) ⟨ew40, ew41, ew42, ew43, ew44, ew45, ew46, ew47, ew48, ew49, ew410, ew411⟩ (fun hHeld => ?_)
            refine wpAnyH_take (i := 0) (v := (.string (bs s))) rfl (by kernel_rfl) (by kernel_rfl) (by kernel_rfl) (fun _ _ _ h => h) (Or.inl ⟨by rfl, ?_⟩) hHeld ?_
            · (intro w hSw; go_simp)
            try simp only [Act.put, List.setIfInBounds_toArray, List.set_cons_zero, List.set_cons_succ]
            refine wpAnyH_take (i := 1) (v := (.agg #[.int .i64 z1, .int .i64 z2, .string z3, .int .i64 z4, .slice z5 z6 z7, .int .i64 z8, .string z9, .int .i64 za, .slice zb zc zd, .string ze, .slice zf zg zh, .slice zi zj zk])) rfl (by kernel_rfl) (by kernel_rfl) (by kernel_rfl) (fun _ _ _ h => h) (Or.inl ⟨by rfl, ?_⟩) hHeld ?_
            · (intro w hSw; (try dsimp only at hSw); go_simp)
            try simp only [Act.put, List.setIfInBounds_toArray, List.set_cons_zero, List.set_cons_succ]
            refine wpAnyH_take (i := 2) (v := (.pointer (some ⟨b, 0, none⟩))) rfl (by kernel_rfl) (by kernel_rfl) (by kernel_rfl) (fun _ _ _ h => h) (Or.inl ⟨by rfl, ?_⟩) hHeld ?_
            · (intro w hSw; go_simp)
            try simp only [Act.put, List.setIfInBounds_toArray, List.set_cons_zero, List.set_cons_succ]
            refine wpAnyH_ready (rs := [3]) (by kernel_rfl) (by simp) ?_
            refine AllReadyH.cons rfl (fun K hK => ?_) AllReadyH.nil
            go_simp
            go_at_call 38
            refine (HQ5.out _ (hp4.drewN 1) ((HE.out.move ((PFr.refl b w).alloc _)).move ((hf1.alloc _).trans (hf2.trans (hf3.trans (hf4.drewN 1)))))).mono ?_
            rintro e w5 ⟨v5, rfl, hv5, hp5, hf5⟩
            obtain ⟨r1, r2, r3, r4, r5, r6, r7, r8, r9, r10, r11, r12, r13, r14, r15, r16, r17, r18, r19, r20, rfl⟩ := GoalV.this _ _ _ _ _ _ hv5
            have HV5 := Lib.hid hv5
            clear hv5
            have hgb := ((hf2.trans (hf3.trans ((hf4.drewN 1).trans hf5))).block w1.heap.size (by simp) (by have := hf1.size; simp at this; omega)).trans (heap_alloc_new w1 _)
            have ew50 := (Lib.cell_of_heap hgb 0).trans rfl
            have ew51 := (Lib.cell_of_heap hgb 1).trans rfl
            have ew52 := (Lib.cell_of_heap hgb 2).trans rfl
            have ew53 := (Lib.cell_of_heap hgb 3).trans rfl
            have ew54 := (Lib.cell_of_heap hgb 4).trans rfl
            have ew55 := (Lib.cell_of_heap hgb 5).trans rfl
            have ew56 := (Lib.cell_of_heap hgb 6).trans rfl
            have ew57 := (Lib.cell_of_heap hgb 7).trans rfl
            have ew58 := (Lib.cell_of_heap hgb 8).trans rfl
            have ew59 := (Lib.cell_of_heap hgb 9).trans rfl
            have ew510 := (Lib.cell_of_heap hgb 10).trans rfl
            have ew511 := (Lib.cell_of_heap hgb 11).trans rfl
            have hsw5 : w1.heap.size < w5.heap.size := (Array.getElem?_eq_some_iff.1 hgb).1
            clear hgb
            have hb := boxG ((hf1.alloc _).trans (hf2.trans (hf3.trans ((hf4.drewN 1).trans hf5)))) hbw (heap_alloc_new w _)
            have d0 := (Lib.cell_of_heap hb 0).trans rfl
            have g0 := Lib.frozen_of_heap hb 0
            have d1 := (Lib.cell_of_heap hb 1).trans rfl
            have g1 := Lib.frozen_of_heap hb 1
            have d2 := (Lib.cell_of_heap hb 2).trans rfl
            have g2 := Lib.frozen_of_heap hb 2
            have d3 := (Lib.cell_of_heap hb 3).trans rfl
            have g3 := Lib.frozen_of_heap hb 3
            have d4 := (Lib.cell_of_heap hb 4).trans rfl
            have g4 := Lib.frozen_of_heap hb 4
            have d5 := (Lib.cell_of_heap hb 5).trans rfl
            have g5 := Lib.frozen_of_heap hb 5
            have d6 := (Lib.cell_of_heap hb 6).trans rfl
            have g6 := Lib.frozen_of_heap hb 6
            have d7 := (Lib.cell_of_heap hb 7).trans rfl
            have g7 := Lib.frozen_of_heap hb 7
            have d8 := (Lib.cell_of_heap hb 8).trans rfl
            have g8 := Lib.frozen_of_heap hb 8
            have d9 := (Lib.cell_of_heap hb 9).trans rfl
            have g9 := Lib.frozen_of_heap hb 9
            have d10 := (Lib.cell_of_heap hb 10).trans rfl
            have g10 := Lib.frozen_of_heap hb 10
            have d11 := (Lib.cell_of_heap hb 11).trans rfl
            have g11 := Lib.frozen_of_heap hb 11
            have hsz : w.heap.size < w5.heap.size := (Array.getElem?_eq_some_iff.1 hb).1
            have HB := Lib.hid hb
            clear hb
            refine hK.out _ _ ⟨ew50, ew51, ew52, ew53, ew54, ew55, ew56, ew57, ew58, ew59, ew510, ew511⟩ (fun hHeld => ?_)
            clear hK K
            try simp only [Act.put, List.setIfInBounds_toArray, List.set_cons_zero, List.set_cons_succ]
            refine wpAnyH_ready (rs := [4]) (by kernel_rfl) (by simp) ?_
            refine AllReadyH.cons rfl (fun K hK => ?_) AllReadyH.nil
            go_simp
            refine hK.out _ _ ⟨(World.cell?_alloc_lt _ _ _ hsw5).trans ew50, (World.cell?_alloc_lt _ _ _ hsw5).trans ew51, (World.cell?_alloc_lt _ _ _ hsw5).trans ew52, (World.cell?_alloc_lt _ _ _ hsw5).trans ew53, (World.cell?_alloc_lt _ _ _ hsw5).trans ew54, (World.cell?_alloc_lt _ _ _ hsw5).trans ew55, (World.cell?_alloc_lt _ _ _ hsw5).trans ew56, (World.cell?_alloc_lt _ _ _ hsw5).trans ew57, (World.cell?_alloc_lt _ _ _ hsw5).trans ew58, (World.cell?_alloc_lt _ _ _ hsw5).trans ew59, (World.cell?_alloc_lt _ _ _ hsw5).trans ew510, (World.cell?_alloc_lt _ _ _ hsw5).trans ew511⟩ (fun hHeld => ?_)
            clear hK K
            try simp only [Act.put, List.setIfInBounds_toArray, List.set_cons_zero, List.set_cons_succ]
            refine wpAnyH_take (i := 5) (v := .agg #[.int .i64 9, .int .i64 0, .string ⟨#[]⟩, .int .i64 0, .slice none 0 0, .int .i64 0, .string ⟨#[]⟩, .int .i64 0, .slice none 0 0, .string (bs s), .slice none 0 0, .slice (some ⟨w5.heap.size, 0, none⟩) 2 2]) rfl (by kernel_rfl) (by kernel_rfl) (by kernel_rfl) (fun _ _ _ h => h) (Or.inl ⟨by rfl, ?_⟩) hHeld ?_
            · (intro w hSw; go_simp)
            try simp only [Act.put, List.setIfInBounds_toArray, List.set_cons_zero, List.set_cons_succ]
            refine wpAnyH_ready (rs := [6]) (by kernel_rfl) (by simp) ?_
            refine AllReadyH.cons rfl (fun K hK => ?_) AllReadyH.nil
            go_simp
            refine hK.out _ _ ⟨(farA12 hsn2 hsw5).trans ew50, (farA12 hsn2 hsw5).trans ew51, (farA12 hsn2 hsw5).trans ew52, (farA12 hsn2 hsw5).trans ew53, (farA12 hsn2 hsw5).trans ew54, (farA12 hsn2 hsw5).trans ew55, (farA12 hsn2 hsw5).trans ew56, (farA12 hsn2 hsw5).trans ew57, (farA12 hsn2 hsw5).trans ew58, (farA12 hsn2 hsw5).trans ew59, (farA12 hsn2 hsw5).trans ew510, (farA12 hsn2 hsw5).trans ew511⟩ (fun hHeld => ?_)
            clear hK K
            refine wpAnyH_done (by kernel_rfl) ?_ _
            go_wp2
            have hsw1 : w.heap.size < w1.heap.size := (by have := hf1.size; simp at this; omega)
            have hs45 : w4.heap.size ≤ w5.heap.size := hf5.size
            have hs14 : w1.heap.size < w4.heap.size := hsw4
            obtain ⟨t1, t2, t3, t4, t5⟩ := put12 HP.out ((hf1.alloc _).trans (hf2.trans (hf3.trans ((hf4.drewN 1).trans hf5)))) hp5 HB.out (.int .i64 9) (.int .i64 0) (.string ⟨#[]⟩) (.int .i64 0) (.slice none 0 0) (.int .i64 0) (.string ⟨#[]⟩) (.int .i64 0) (.slice none 0 0) (.string (bs s)) (.slice none 0 0) (.slice (some ⟨w5.heap.size, 0, none⟩) 2 2)
            have t6 := (Below.heap_alloc _ (.cells #[.int .i64 z1, .int .i64 z2, .string z3, .int .i64 z4, .slice z5 z6 z7, .int .i64 z8, .string z9, .int .i64 za, .slice zb zc zd, .string ze, .slice zf zg zh, .slice zi zj zk, .int .i64 r1, .int .i64 r2, .string r3, .int .i64 r4, .slice r5 r6 r7, .int .i64 r8, .string r9, .int .i64 r10, .slice r11 r12 r13, .string r14, .slice r15 r16 r17, .slice r18 r19 r20] 28) _ (by rw [t5]; exact hsz)).trans t1
            have y0 := (Lib.cell_of_heap t6 0).trans rfl
            have y1 := (Lib.cell_of_heap t6 1).trans rfl
            have y2 := (Lib.cell_of_heap t6 2).trans rfl
            have y3 := (Lib.cell_of_heap t6 3).trans rfl
            have y4 := (Lib.cell_of_heap t6 4).trans rfl
            have y5 := (Lib.cell_of_heap t6 5).trans rfl
            have y6 := (Lib.cell_of_heap t6 6).trans rfl
            have y7 := (Lib.cell_of_heap t6 7).trans rfl
            have y8 := (Lib.cell_of_heap t6 8).trans rfl
            have y9 := (Lib.cell_of_heap t6 9).trans rfl
            have y10 := (Lib.cell_of_heap t6 10).trans rfl
            have y11 := (Lib.cell_of_heap t6 11).trans rfl
            refine bodyPost_ret (v := .agg #[.int .i64 9, .int .i64 0, .string ⟨#[]⟩, .int .i64 0, .slice none 0 0, .int .i64 0, .string ⟨#[]⟩, .int .i64 0, .slice none 0 0, .string (bs s), .slice none 0 0, .slice (some ⟨w5.heap.size, 0, none⟩) 2 2]) (by simp [results, Tryd.results48, go_sem, y0, y1, y2, y3, y4, y5, y6, y7, y8, y9, y10, y11]) rfl ⟨_, rfl, ?_, t2.alloc _, t3.alloc _⟩
            refine ⟨_, _, _, _, _, _, _, _, _, _, rfl, zeroT_holds _ _ _, zeroT_holds _ _ _, .inl ⟨rfl, rfl⟩, .inr ?_⟩
            refine (rowLit (l := [gA, gB]) (vs := [.agg #[.int .i64 z1, .int .i64 z2, .string z3, .int .i64 z4, .slice z5 z6 z7, .int .i64 z8, .string z9, .int .i64 za, .slice zb zc zd, .string ze, .slice zf zg zh, .slice zi zj zk], .agg #[.int .i64 r1, .int .i64 r2, .string r3, .int .i64 r4, .slice r5 r6 r7, .int .i64 r8, .string r9, .int .i64 r10, .slice r11 r12 r13, .string r14, .slice r15 r16 r17, .slice r18 r19 r20]]) (lo := w.heap.size + 1) t5 (by omega) rfl rfl (show 2 ≤ maxLen by decide) ⟨⟨w.heap.size + 1, w1.heap.size, Nat.le_refl _, by omega, by omega, ?_⟩, ⟨w4.heap.size, w5.heap.size, by omega, Nat.le_refl _, by omega, ?_⟩, trivial⟩).wide (Nat.le_succ _) (by simp [t5])
            · refine GoalV.stable _ _ _ _ _ _ _ (GoalV.wide _ _ _ _ _ (w.heap.size + 1) _ _ HV1.out (by simp) (Nat.le_refl _)) (fun j j1 j2 => ?_)
              exact (Below.heap_alloc _ _ j (by rw [t5]; omega)).trans ((t4 j (by omega)).trans (((hf2.trans (hf3.trans ((hf4.drewN 1).trans hf5))).block j (by simp; omega) (by omega)).trans (Below.heap_alloc w1 _ j j2)))
            · exact GoalV.stable _ _ _ _ _ _ _ HV5.out (fun j j1 hj => (Below.heap_alloc _ _ j (by rw [t5]; exact hj)).trans (t4 j (by have : w4.heap.size ≤ j := j1; omega)))


end Lx
end Go.Proofs.YtacgbogedpoojabDoor
