/- The contract of package parse's joined: the goals of a row as one goal. Conditions: the row holds one goal at least. -/
import Derived.Test.YtacgbogedpoojabDoorParGoal
namespace Go.Proofs.YtacgbogedpoojabDoor
namespace Lx
open Go Go.RowKit

def joinG (kind : Int) : List GoalT → GoalT
  | [g] => g
  | gs => .mk kind zeroT zeroT [] [] gs

set_option maxRecDepth 100000 in
set_option maxHeartbeats 2000000 in
theorem joined_any (d : Nat) (kind : Int) (gs : List GoalT) (v : Value) (lo : Nat) (w : World) (hne : gs ≠ []) (hv : RowV 28 12 (GoalV d) gs v lo w.heap.size w) :
    Calls Tryd.prog 22 #[.int .i64 kind, v] w fun e w' => ∃ v', e = .returned v' ∧ GoalV (d + 1) (joinG kind gs) v' lo w'.heap.size w' ∧ Below w.heap.size w w' := by
  have hv0 := hv
  obtain ⟨g, cap, vs, rfl, hg, hown, hit⟩ := hv
  have HV := Lib.hid hv0
  clear hv0
  match gs, hne with
  | [x], _ =>
    have hvl := hit.length
    match vs, hvl with
    | [v0], _ =>
      obtain ⟨⟨p, q, a1, a2, a3, a4⟩, _⟩ := hit
      have HX := Lib.hid a4
      obtain ⟨z1, z2, z3, z4, z5, z6, z7, z8, z9, za, zb, zc, zd, ze, zf, zg, zh, zi, zj, zk, rfl⟩ := GoalV.this d _ _ _ _ _ a4
      have hc := fun j hj => hown.cellAt (g := g) (cap := cap) j hj
      have c0 := (hc 0 (by show 0 < 12; decide)).trans rfl
      have c1 := (hc 1 (by show 1 < 12; decide)).trans rfl
      have c2 := (hc 2 (by show 2 < 12; decide)).trans rfl
      have c3 := (hc 3 (by show 3 < 12; decide)).trans rfl
      have c4 := (hc 4 (by show 4 < 12; decide)).trans rfl
      have c5 := (hc 5 (by show 5 < 12; decide)).trans rfl
      have c6 := (hc 6 (by show 6 < 12; decide)).trans rfl
      have c7 := (hc 7 (by show 7 < 12; decide)).trans rfl
      have c8 := (hc 8 (by show 8 < 12; decide)).trans rfl
      have c9 := (hc 9 (by show 9 < 12; decide)).trans rfl
      have c10 := (hc 10 (by show 10 < 12; decide)).trans rfl
      have c11 := (hc 11 (by show 11 < 12; decide)).trans rfl
      simp only [cellsL, Value.cells, List.flatMap_cons, List.flatMap_nil, List.append_nil, List.getElem?_cons_zero, List.getElem?_cons_succ] at c0 c1 c2 c3 c4 c5 c6 c7 c8 c9 c10 c11
      have hq : ([x].length : Int) = 1 := rfl
      clear hc a4
      go_enter Tryd.func22, Tryd.ntmps22
      go_wp2_with fail
      refine bodyPost_ret (v := .agg #[.int .i64 z1, .int .i64 z2, .string z3, .int .i64 z4, .slice z5 z6 z7, .int .i64 z8, .string z9, .int .i64 za, .slice zb zc zd, .string ze, .slice zf zg zh, .slice zi zj zk]) (by simp [results, Tryd.results22, go_sem]) rfl ⟨_, rfl, ?_, (Below.refl _ _).alloc (Nat.le_refl _) _⟩
      exact GoalV.succ _ _ _ _ _ _ (GoalV.wide _ _ _ _ _ _ _ _ (GoalV.stable d _ _ _ _ _ _ HX.out (fun j _ hj => Below.heap_alloc w _ j (by omega))) a1 (by simp; omega))
  | x :: y :: r, _ =>
    have hq : (((x :: y :: r).length : Int) == 1) = false := by simp; omega
    have hj : joinG kind (x :: y :: r) = .mk kind zeroT zeroT [] [] (x :: y :: r) := rfl
    rw [hj]
    clear hj
    generalize (x :: y :: r) = gs at *
    go_enter Tryd.func22, Tryd.ntmps22
    go_wp2_with fail
    refine bodyPost_ret (v := .agg #[.int .i64 kind, .int .i64 0, .string ⟨#[]⟩, .int .i64 0, .slice none 0 0, .int .i64 0, .string ⟨#[]⟩, .int .i64 0, .slice none 0 0, .string ⟨#[]⟩, .slice none 0 0, .slice (some ⟨g, 0, none⟩) gs.length cap]) (by simp [results, Tryd.results22, go_sem]) rfl ⟨_, rfl, ?_, (Below.refl _ _).alloc (Nat.le_refl _) _⟩
    exact ⟨_, _, _, _, _, _, _, _, _, _, rfl, zeroT_holds _ _ _, zeroT_holds _ _ _, .inl ⟨rfl, rfl⟩, .inr ((RowV.stable _ _ (GoalV.stable d) _ _ _ _ _ _ HV.out (fun j _ hj => Below.heap_alloc w _ j hj)).wide (Nat.le_refl _) (by simp))⟩

theorem rowLoop_ne {α : Type} {rd : Nat → Out α} {ts : List Tok} (mark : List UInt8) (most : Nat) : ∀ (m k : Nat) (acc l : List α) (k' : Nat), rowLoop rd ts mark most m k acc = .ok l k' → acc ≠ [] → l ≠ []
  | 0, _, _, _, _, h, _ => by simp [rowLoop] at h
  | m + 1, k, acc, l, k', h, hn => by
    rw [rowLoop] at h
    split at h
    · split at h
      · cases h
      · split at h
        · cases h
        · exact rowLoop_ne mark most m _ _ _ _ h (by simp)
    · injection h with h1 _
      subst h1
      exact hn
theorem rowO_ne {α : Type} {rd : Nat → Out α} {ts : List Tok} {mark : List UInt8} {most k : Nat} {l : List α} {k' : Nat} (h : rowO rd ts mark most k = .ok l k') : l ≠ [] := by
  unfold rowO at h
  split at h
  · cases h
  · exact rowLoop_ne mark most _ _ _ _ _ h (by simp)
def joinO (rd : Nat → Out GoalT) (ts : List Tok) (mark : List UInt8) (kind : Int) (k : Nat) : Out GoalT := match rowO rd ts mark 16384 k with
  | .no i => .no i
  | .ok l k' => .ok (joinG kind l) k'
theorem joinO_fwd {rd : Nat → Out GoalT} {ts : List Tok} (hr : Fwd ts rd) (mark : List UInt8) (kind : Int) : Fwd ts (joinO rd ts mark kind) := by
  intro k x k' h
  unfold joinO at h
  split at h
  · cases h
  · rename_i l k2 he
    injection h with _ h2
    subst h2
    exact rowO_fwd hr _ _ _ _ _ he
theorem box12 {w w3 w4 : World} {o : Obj} {b : Nat} {cs : Array Value} (hf : PFr b (w.alloc o) w3) (h4 : Below w3.heap.size w3 w4) (hb : b < w.heap.size) (h : (w.alloc o).heap[w.heap.size]? = some (.cells cs 28 (0, 0))) : w4.heap[w.heap.size]? = some (.cells cs 28 (0, 0)) :=
  (h4.block w.heap.size (by have := hf.size; simp at this; omega)).trans ((hf.block w.heap.size (by simp) (Nat.ne_of_gt hb)).trans h)
theorem PFr.below {b : Nat} {x y z : World} (h : PFr b x y) (hb : Below y.heap.size y z) : PFr b x z :=
  ⟨hb.os.trans h.os, hb.tape.trans h.tape, hb.output.trans h.output, Nat.le_trans h.size hb.size, fun k hk hn => (hb.block k (Nat.lt_of_lt_of_le hk h.size)).trans (h.block k hk hn)⟩
theorem Par.below {w w' : World} {b : Nat} {A : Option Addr} {c : Nat} {ts : List Tok} {k : Nat} {ne : Int} (h : Par w b A c ts k ne) (hb : Below w.heap.size w w') : Par w' b A c ts k ne :=
  h.move ((PFr.refl b w).below hb) ((hb.block b h.lt).trans h.blk) h.near h.nest0 h.nest1

set_option maxRecDepth 100000 in
set_option maxHeartbeats 2000000 in
theorem conj_any (b : Nat) (A : Option Addr) (c : Nat) (ts : List Tok) (ne : Int) (f : Nat → Addr) (d : Nat) (rd : Nat → Out GoalT) (hrd : Fwd ts rd)
    (HR : Hid (∀ w k, Par w b A c ts k ne → PErrs w b f → k ≤ ts.length → Calls Tryd.prog 38 #[.pointer (some ⟨b, 0, none⟩)] w fun e w' => EndsV b A c ts ne f (GoalV d) w (rd k) e w'))
    (w : World) (k : Nat) (h : Par w b A c ts k ne) (hE : PErrs w b f) (hk : k ≤ ts.length) :
    Calls Tryd.prog 24 #[.pointer (some ⟨b, 0, none⟩)] w fun e w' => EndsV b A c ts ne f (GoalV (d + 1)) w (joinO rd ts [44] 5 k) e w' := by
  have HRow := Lib.hid (fun w h hE => rowGo_any b A c ts ne f (GoalV d) (GoalV.stable d) (GoalV.this d) rd hrd ⟨#[44]⟩ 16384 (by decide) HR w k h hE hk)
  rw [show (ByteArray.mk #[44]).data.toList = [44] from rfl] at HRow
  unfold joinO
  have HP := Lib.hid h
  have HE := Lib.hid hE
  have hbw := h.lt
  clear h hE
  cases hr : rowO rd ts [44] 16384 k with
  | no i =>
    rw [hr] at HRow
    go_enter Tryd.func24, Tryd.ntmps24
    go_wp2_with (go_at_call 23; refine (HRow.out _ (HP.out.alloc _) (HE.out.move ((PFr.refl b w).alloc _))).mono ?_; rintro e w3 ⟨rfl, h2, h3⟩)
    exact ⟨rfl, rfl, h2, ((PFr.refl b w).alloc _).trans h3⟩
  | ok l k2 =>
    rw [hr] at HRow
    have hln := rowO_ne hr
    show Calls _ _ _ _ fun e w' => EndsV b A c ts ne f (GoalV (d + 1)) w (.ok (joinG 5 l) k2) e w'
    go_enter Tryd.func24, Tryd.ntmps24
    go_wp2_with (first | (go_at_call 23; refine (HRow.out _ (HP.out.alloc _) (HE.out.move ((PFr.refl b w).alloc _))).mono ?_; rintro e w3 ⟨v3, rfl, hv3, hp3, hf3⟩; have HJ := Lib.hid (joined_any d 5 l v3 _ w3 hln hv3)) | (go_at_call 22; refine HJ.out.mono ?_; rintro e w4 ⟨v4, rfl, hv4, hb4⟩; have hb := box12 hf3 hb4 hbw (heap_alloc_new w _); have d0 := (Lib.cell_of_heap hb 0).trans rfl; have g0 := Lib.frozen_of_heap hb 0; have d1 := (Lib.cell_of_heap hb 1).trans rfl; have g1 := Lib.frozen_of_heap hb 1; have d2 := (Lib.cell_of_heap hb 2).trans rfl; have g2 := Lib.frozen_of_heap hb 2; have d3 := (Lib.cell_of_heap hb 3).trans rfl; have g3 := Lib.frozen_of_heap hb 3; have d4 := (Lib.cell_of_heap hb 4).trans rfl; have g4 := Lib.frozen_of_heap hb 4; have d5 := (Lib.cell_of_heap hb 5).trans rfl; have g5 := Lib.frozen_of_heap hb 5; have d6 := (Lib.cell_of_heap hb 6).trans rfl; have g6 := Lib.frozen_of_heap hb 6; have d7 := (Lib.cell_of_heap hb 7).trans rfl; have g7 := Lib.frozen_of_heap hb 7; have d8 := (Lib.cell_of_heap hb 8).trans rfl; have g8 := Lib.frozen_of_heap hb 8; have d9 := (Lib.cell_of_heap hb 9).trans rfl; have g9 := Lib.frozen_of_heap hb 9; have d10 := (Lib.cell_of_heap hb 10).trans rfl; have g10 := Lib.frozen_of_heap hb 10; have d11 := (Lib.cell_of_heap hb 11).trans rfl; have g11 := Lib.frozen_of_heap hb 11; have HB := Lib.hid hb; clear hb; obtain ⟨z1, z2, z3, z4, z5, z6, z7, z8, z9, za, zb, zc, zd, ze, zf, zg, zh, zi, zj, zk, rfl⟩ := GoalV.this _ _ _ _ _ _ hv4; have HV4 := Lib.hid hv4; have HF4 := Lib.hid (hf3.below hb4); have HP4 := Lib.hid (hp3.below hb4); have HZ3 := Lib.hid hf3.size; clear hv4 hf3 hp3 hb4))
    have hcells := (blk_put _ _ 11 (.slice zi zj zk) (blk_put _ _ 10 (.slice zf zg zh) (blk_put _ _ 9 (.string ze) (blk_put _ _ 8 (.slice zb zc zd) (blk_put _ _ 7 (.int .i64 za) (blk_put _ _ 6 (.string z9) (blk_put _ _ 5 (.int .i64 z8) (blk_put _ _ 4 (.slice z5 z6 z7) (blk_put _ _ 3 (.int .i64 z4) (blk_put _ _ 2 (.string z3) (blk_put _ _ 1 (.int .i64 z2) (blk_put _ _ 0 (.int .i64 z1) HB.out (by show 0 < 12; decide)) (by show 1 < 12; decide)) (by show 2 < 12; decide)) (by show 3 < 12; decide)) (by show 4 < 12; decide)) (by show 5 < 12; decide)) (by show 6 < 12; decide)) (by show 7 < 12; decide)) (by show 8 < 12; decide)) (by show 9 < 12; decide)) (by show 10 < 12; decide)) (by show 11 < 12; decide))
    have hfr := (((((((((((((((PFr.refl b w).alloc _).trans HF4.out).putNew (Nat.le_refl _) 0 (.int .i64 z1)).putNew (Nat.le_refl _) 1 (.int .i64 z2)).putNew (Nat.le_refl _) 2 (.string z3)).putNew (Nat.le_refl _) 3 (.int .i64 z4)).putNew (Nat.le_refl _) 4 (.slice z5 z6 z7)).putNew (Nat.le_refl _) 5 (.int .i64 z8)).putNew (Nat.le_refl _) 6 (.string z9)).putNew (Nat.le_refl _) 7 (.int .i64 za)).putNew (Nat.le_refl _) 8 (.slice zb zc zd)).putNew (Nat.le_refl _) 9 (.string ze)).putNew (Nat.le_refl _) 10 (.slice zf zg zh)).putNew (Nat.le_refl _) 11 (.slice zi zj zk))
    have hn : b ≠ w.heap.size := Nat.ne_of_lt hbw
    have y0 := (Lib.cell_of_heap hcells 0).trans rfl
    have y1 := (Lib.cell_of_heap hcells 1).trans rfl
    have y2 := (Lib.cell_of_heap hcells 2).trans rfl
    have y3 := (Lib.cell_of_heap hcells 3).trans rfl
    have y4 := (Lib.cell_of_heap hcells 4).trans rfl
    have y5 := (Lib.cell_of_heap hcells 5).trans rfl
    have y6 := (Lib.cell_of_heap hcells 6).trans rfl
    have y7 := (Lib.cell_of_heap hcells 7).trans rfl
    have y8 := (Lib.cell_of_heap hcells 8).trans rfl
    have y9 := (Lib.cell_of_heap hcells 9).trans rfl
    have y10 := (Lib.cell_of_heap hcells 10).trans rfl
    have y11 := (Lib.cell_of_heap hcells 11).trans rfl
    refine bodyPost_ret (v := .agg #[.int .i64 z1, .int .i64 z2, .string z3, .int .i64 z4, .slice z5 z6 z7, .int .i64 z8, .string z9, .int .i64 za, .slice zb zc zd, .string ze, .slice zf zg zh, .slice zi zj zk]) (by simp [results, Tryd.results24, go_sem, y0, y1, y2, y3, y4, y5, y6, y7, y8, y9, y10, y11]) rfl ⟨_, rfl, ?_, ?_, hfr⟩
    · refine GoalV.wide _ _ _ _ _ _ _ _ (GoalV.stable (d + 1) _ _ _ _ _ _ HV4.out (fun j j1 _ => ?_)) (by simp) (by simp [World.setCell])
      have hj : j ≠ w.heap.size := by simp at j1; omega
      rw [Below.heap_setCell _ _ _ j hj, Below.heap_setCell _ _ _ j hj, Below.heap_setCell _ _ _ j hj, Below.heap_setCell _ _ _ j hj, Below.heap_setCell _ _ _ j hj, Below.heap_setCell _ _ _ j hj, Below.heap_setCell _ _ _ j hj, Below.heap_setCell _ _ _ j hj, Below.heap_setCell _ _ _ j hj, Below.heap_setCell _ _ _ j hj, Below.heap_setCell _ _ _ j hj, Below.heap_setCell _ _ _ j hj]
    · refine HP.out.move hfr ?_ HP4.out.near HP4.out.nest0 HP4.out.nest1
      rw [Below.heap_setCell _ _ _ b hn, Below.heap_setCell _ _ _ b hn, Below.heap_setCell _ _ _ b hn, Below.heap_setCell _ _ _ b hn, Below.heap_setCell _ _ _ b hn, Below.heap_setCell _ _ _ b hn, Below.heap_setCell _ _ _ b hn, Below.heap_setCell _ _ _ b hn, Below.heap_setCell _ _ _ b hn, Below.heap_setCell _ _ _ b hn, Below.heap_setCell _ _ _ b hn, Below.heap_setCell _ _ _ b hn]
      exact HP4.out.blk

set_option maxRecDepth 100000 in
set_option maxHeartbeats 2000000 in
theorem goal_any (b : Nat) (A : Option Addr) (c : Nat) (ts : List Tok) (ne : Int) (f : Nat → Addr) (d : Nat) (rd : Nat → Out GoalT) (hrd : Fwd ts rd)
    (HR : Hid (∀ w k, Par w b A c ts k ne → PErrs w b f → k ≤ ts.length → Calls Tryd.prog 24 #[.pointer (some ⟨b, 0, none⟩)] w fun e w' => EndsV b A c ts ne f (GoalV d) w (rd k) e w'))
    (w : World) (k : Nat) (h : Par w b A c ts k ne) (hE : PErrs w b f) (hk : k ≤ ts.length) :
    Calls Tryd.prog 12 #[.pointer (some ⟨b, 0, none⟩)] w fun e w' => EndsV b A c ts ne f (GoalV (d + 1)) w (joinO rd ts [59] 6 k) e w' := by
  have HRow := Lib.hid (fun w h hE => rowCo_any b A c ts ne f (GoalV d) (GoalV.stable d) (fun x v lo hi w h => GoalV.this d x v lo hi w h) rd hrd ⟨#[59]⟩ 16384 (by decide) HR w k h hE hk)
  rw [show (ByteArray.mk #[59]).data.toList = [59] from rfl] at HRow
  unfold joinO
  have HP := Lib.hid h
  have HE := Lib.hid hE
  have hbw := h.lt
  clear h hE
  cases hr : rowO rd ts [59] 16384 k with
  | no i =>
    rw [hr] at HRow
    go_enter Tryd.func12, Tryd.ntmps12
    go_wp2_with (go_at_call 23; refine (HRow.out _ (HP.out.alloc _) (HE.out.move ((PFr.refl b w).alloc _))).mono ?_; rintro e w3 ⟨rfl, h2, h3⟩)
    exact ⟨rfl, rfl, h2, ((PFr.refl b w).alloc _).trans h3⟩
  | ok l k2 =>
    rw [hr] at HRow
    have hln := rowO_ne hr
    show Calls _ _ _ _ fun e w' => EndsV b A c ts ne f (GoalV (d + 1)) w (.ok (joinG 6 l) k2) e w'
    go_enter Tryd.func12, Tryd.ntmps12
    go_wp2_with (first | (go_at_call 23; refine (HRow.out _ (HP.out.alloc _) (HE.out.move ((PFr.refl b w).alloc _))).mono ?_; rintro e w3 ⟨v3, rfl, hv3, hp3, hf3⟩; have HJ := Lib.hid (joined_any d 6 l v3 _ w3 hln hv3)) | (go_at_call 22; refine HJ.out.mono ?_; rintro e w4 ⟨v4, rfl, hv4, hb4⟩; have hb := box12 hf3 hb4 hbw (heap_alloc_new w _); have d0 := (Lib.cell_of_heap hb 0).trans rfl; have g0 := Lib.frozen_of_heap hb 0; have d1 := (Lib.cell_of_heap hb 1).trans rfl; have g1 := Lib.frozen_of_heap hb 1; have d2 := (Lib.cell_of_heap hb 2).trans rfl; have g2 := Lib.frozen_of_heap hb 2; have d3 := (Lib.cell_of_heap hb 3).trans rfl; have g3 := Lib.frozen_of_heap hb 3; have d4 := (Lib.cell_of_heap hb 4).trans rfl; have g4 := Lib.frozen_of_heap hb 4; have d5 := (Lib.cell_of_heap hb 5).trans rfl; have g5 := Lib.frozen_of_heap hb 5; have d6 := (Lib.cell_of_heap hb 6).trans rfl; have g6 := Lib.frozen_of_heap hb 6; have d7 := (Lib.cell_of_heap hb 7).trans rfl; have g7 := Lib.frozen_of_heap hb 7; have d8 := (Lib.cell_of_heap hb 8).trans rfl; have g8 := Lib.frozen_of_heap hb 8; have d9 := (Lib.cell_of_heap hb 9).trans rfl; have g9 := Lib.frozen_of_heap hb 9; have d10 := (Lib.cell_of_heap hb 10).trans rfl; have g10 := Lib.frozen_of_heap hb 10; have d11 := (Lib.cell_of_heap hb 11).trans rfl; have g11 := Lib.frozen_of_heap hb 11; have HB := Lib.hid hb; clear hb; obtain ⟨z1, z2, z3, z4, z5, z6, z7, z8, z9, za, zb, zc, zd, ze, zf, zg, zh, zi, zj, zk, rfl⟩ := GoalV.this _ _ _ _ _ _ hv4; have HV4 := Lib.hid hv4; have HF4 := Lib.hid (hf3.below hb4); have HP4 := Lib.hid (hp3.below hb4); have HZ3 := Lib.hid hf3.size; clear hv4 hf3 hp3 hb4))
    have hcells := (blk_put _ _ 11 (.slice zi zj zk) (blk_put _ _ 10 (.slice zf zg zh) (blk_put _ _ 9 (.string ze) (blk_put _ _ 8 (.slice zb zc zd) (blk_put _ _ 7 (.int .i64 za) (blk_put _ _ 6 (.string z9) (blk_put _ _ 5 (.int .i64 z8) (blk_put _ _ 4 (.slice z5 z6 z7) (blk_put _ _ 3 (.int .i64 z4) (blk_put _ _ 2 (.string z3) (blk_put _ _ 1 (.int .i64 z2) (blk_put _ _ 0 (.int .i64 z1) HB.out (by show 0 < 12; decide)) (by show 1 < 12; decide)) (by show 2 < 12; decide)) (by show 3 < 12; decide)) (by show 4 < 12; decide)) (by show 5 < 12; decide)) (by show 6 < 12; decide)) (by show 7 < 12; decide)) (by show 8 < 12; decide)) (by show 9 < 12; decide)) (by show 10 < 12; decide)) (by show 11 < 12; decide))
    have hfr := (((((((((((((((PFr.refl b w).alloc _).trans HF4.out).putNew (Nat.le_refl _) 0 (.int .i64 z1)).putNew (Nat.le_refl _) 1 (.int .i64 z2)).putNew (Nat.le_refl _) 2 (.string z3)).putNew (Nat.le_refl _) 3 (.int .i64 z4)).putNew (Nat.le_refl _) 4 (.slice z5 z6 z7)).putNew (Nat.le_refl _) 5 (.int .i64 z8)).putNew (Nat.le_refl _) 6 (.string z9)).putNew (Nat.le_refl _) 7 (.int .i64 za)).putNew (Nat.le_refl _) 8 (.slice zb zc zd)).putNew (Nat.le_refl _) 9 (.string ze)).putNew (Nat.le_refl _) 10 (.slice zf zg zh)).putNew (Nat.le_refl _) 11 (.slice zi zj zk))
    have hn : b ≠ w.heap.size := Nat.ne_of_lt hbw
    have y0 := (Lib.cell_of_heap hcells 0).trans rfl
    have y1 := (Lib.cell_of_heap hcells 1).trans rfl
    have y2 := (Lib.cell_of_heap hcells 2).trans rfl
    have y3 := (Lib.cell_of_heap hcells 3).trans rfl
    have y4 := (Lib.cell_of_heap hcells 4).trans rfl
    have y5 := (Lib.cell_of_heap hcells 5).trans rfl
    have y6 := (Lib.cell_of_heap hcells 6).trans rfl
    have y7 := (Lib.cell_of_heap hcells 7).trans rfl
    have y8 := (Lib.cell_of_heap hcells 8).trans rfl
    have y9 := (Lib.cell_of_heap hcells 9).trans rfl
    have y10 := (Lib.cell_of_heap hcells 10).trans rfl
    have y11 := (Lib.cell_of_heap hcells 11).trans rfl
    refine bodyPost_ret (v := .agg #[.int .i64 z1, .int .i64 z2, .string z3, .int .i64 z4, .slice z5 z6 z7, .int .i64 z8, .string z9, .int .i64 za, .slice zb zc zd, .string ze, .slice zf zg zh, .slice zi zj zk]) (by simp [results, Tryd.results12, go_sem, y0, y1, y2, y3, y4, y5, y6, y7, y8, y9, y10, y11]) rfl ⟨_, rfl, ?_, ?_, hfr⟩
    · refine GoalV.wide _ _ _ _ _ _ _ _ (GoalV.stable (d + 1) _ _ _ _ _ _ HV4.out (fun j j1 _ => ?_)) (by simp) (by simp [World.setCell])
      have hj : j ≠ w.heap.size := by simp at j1; omega
      rw [Below.heap_setCell _ _ _ j hj, Below.heap_setCell _ _ _ j hj, Below.heap_setCell _ _ _ j hj, Below.heap_setCell _ _ _ j hj, Below.heap_setCell _ _ _ j hj, Below.heap_setCell _ _ _ j hj, Below.heap_setCell _ _ _ j hj, Below.heap_setCell _ _ _ j hj, Below.heap_setCell _ _ _ j hj, Below.heap_setCell _ _ _ j hj, Below.heap_setCell _ _ _ j hj, Below.heap_setCell _ _ _ j hj]
    · refine HP.out.move hfr ?_ HP4.out.near HP4.out.nest0 HP4.out.nest1
      rw [Below.heap_setCell _ _ _ b hn, Below.heap_setCell _ _ _ b hn, Below.heap_setCell _ _ _ b hn, Below.heap_setCell _ _ _ b hn, Below.heap_setCell _ _ _ b hn, Below.heap_setCell _ _ _ b hn, Below.heap_setCell _ _ _ b hn, Below.heap_setCell _ _ _ b hn, Below.heap_setCell _ _ _ b hn, Below.heap_setCell _ _ _ b hn, Below.heap_setCell _ _ _ b hn, Below.heap_setCell _ _ _ b hn]
      exact HP4.out.blk

end Lx
end Go.Proofs.YtacgbogedpoojabDoor
