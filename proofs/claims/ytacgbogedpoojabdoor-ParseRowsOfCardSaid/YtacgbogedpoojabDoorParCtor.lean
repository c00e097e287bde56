/- The contract of package parse's ctor: what a constructor is, held in cells; or the panic. Conditions: the parser's block is its own; at most 16384 tokens. -/
import Derived.Test.YtacgbogedpoojabDoorParType
import Derived.Test.YtacgbogedpoojabDoorParRowCt
namespace Go.Proofs.YtacgbogedpoojabDoor
namespace Lx
open Go Go.RowKit

def CtorV : Holds CtorT := fun x v lo hi w => match x with
  | .mk s l => ∃ va, v = .agg #[.string (bs s), va] ∧ ArgsV 77 3 (TypeV 66) l va lo hi w
theorem CtorV.wide (x : CtorT) (v : Value) (lo hi lo' hi' : Nat) (w : World) (h : CtorV x v lo hi w) (h1 : lo' ≤ lo) (h2 : hi ≤ hi') : CtorV x v lo' hi' w := by
  obtain ⟨s, l⟩ := x
  obtain ⟨va, hv, ha⟩ := h
  exact ⟨va, hv, ha.wide h1 h2⟩
theorem CtorV.stable : Stable CtorV := by
  rintro ⟨s, l⟩ v lo hi w w' ⟨va, hv, ha⟩ h
  exact ⟨va, hv, ArgsV.stable _ _ (TypeV.stable 66) _ _ _ _ _ _ ha h⟩
theorem CtorV.this : ThisCt CtorV := by
  rintro ⟨s, l⟩ v lo hi w ⟨va, rfl, ha⟩
  rcases ha with ⟨_, rfl⟩ | ⟨g, cap, vs, rfl, _⟩
  · exact ⟨_, _, _, _, rfl⟩
  · exact ⟨_, _, _, _, rfl⟩

def ctorO (ts : List Tok) (ne : Int) (k : Nat) : Out CtorT := match nameO ts k with
  | .no i => .no i
  | .ok s k1 => match argsO (typeO ts 66 ne) ts k1 with
    | .no i => .no i
    | .ok l k2 => .ok (.mk s l) k2
theorem ctorO_fwd (ts : List Tok) (ne : Int) : Fwd ts (ctorO ts ne) := by
  intro k x k' h
  unfold ctorO at h
  split at h
  · cases h
  · rename_i s k1 he
    have h1 := nameO_fwd ts _ _ _ he
    split at h
    · cases h
    · rename_i l k2 he2
      injection h with _ h3
      subst h3
      have h2 := argsO_fwd (typeO_fwd ts 66 ne) he2 h1.2
      omega

set_option maxRecDepth 100000 in
set_option maxHeartbeats 2000000 in
theorem ctor_any (b : Nat) (A : Option Addr) (c : Nat) (ts : List Tok) (ne : Int) (f : Nat → Addr) (h0 : 0 ≤ ne) (h1 : ne ≤ 70000) (w : World) (k : Nat) (h : Par w b A c ts k ne) (hE : PErrs w b f) (hk : k ≤ ts.length) :
    Calls Tryd.prog 53 #[.pointer (some ⟨b, 0, none⟩)] w fun e w' => EndsV b A c ts ne f CtorV w (ctorO ts ne k) e w' := by
  have HP := Lib.hid h
  have HE := Lib.hid hE
  have hfw := h.few
  have H3 := Lib.hid (fun w h hE => name_any w b A c ts k ne f h (by omega) hE)
  unfold ctorO
  clear h hE
  cases hno : nameO ts k with
  | no i =>
    rw [hno] at H3
    go_enter Tryd.func53, Tryd.ntmps53
    go_wp2_with (go_at_call 30; refine (H3.out _ (HP.out.alloc _) (HE.out.move ((PFr.refl b w).alloc _))).mono ?_; rintro e w4 ⟨rfl, h2, h3⟩)
    exact ⟨rfl, rfl, h2, ((PFr.refl b w).alloc _).trans h3⟩
  | ok s k1 =>
    have hf := nameO_fwd ts _ _ _ hno
    rw [hno] at H3
    have HARG := Lib.hid (fun w h hE => argsTy_any b A c ts ne f (TypeV 66) (TypeV.stable 66) (TypeV.this 66) (typeO ts 66 ne) (typeO_fwd ts 66 ne) (Lib.hid (fun w k h hE hk => type_any b A c ts f 65 ne (by omega) h0 h1 w k h hE hk)) w k1 h hE hf.2)
    show Calls _ _ _ _ fun e w' => EndsV b A c ts ne f CtorV w (match argsO (typeO ts 66 ne) ts k1 with | .no i => .no i | .ok l k2 => .ok (.mk s l) k2) e w'
    cases ha : argsO (typeO ts 66 ne) ts k1 with
    | no i =>
      rw [ha] at HARG
      go_enter Tryd.func53, Tryd.ntmps53
      go_wp2_with (first | (go_at_call 30; refine (H3.out _ (HP.out.alloc _) (HE.out.move ((PFr.refl b w).alloc _))).mono ?_; rintro e w4 ⟨v, rfl, rfl, hp4, hf4⟩) | (go_at_call 42; refine (HARG.out _ hp4 (HE.out.move (((PFr.refl b w).alloc _).trans hf4))).mono ?_; rintro e w5 ⟨rfl, h2, h3⟩))
      exact ⟨rfl, rfl, h2, (((PFr.refl b w).alloc _).trans hf4).trans h3⟩
    | ok l k2 =>
      rw [ha] at HARG
      go_enter Tryd.func53, Tryd.ntmps53
      go_wp2_with (first | (go_at_call 30; refine (H3.out _ (HP.out.alloc _) (HE.out.move ((PFr.refl b w).alloc _))).mono ?_; rintro e w4 ⟨v, rfl, rfl, hp4, hf4⟩) | (go_at_call 42; refine (HARG.out _ hp4 (HE.out.move (((PFr.refl b w).alloc _).trans hf4))).mono ?_; rintro e w5 ⟨v5, rfl, hv5, hp5, hf5⟩; obtain ⟨s1, s2, s3, rfl⟩ := hv5.slice; have HV5 := Lib.hid hv5; clear hv5; have hb := ((hf4.trans hf5).block w.heap.size (by simp) (Nat.ne_of_gt HP.out.lt)).trans (heap_alloc_new w _); have d0 := (Lib.cell_of_heap hb 0).trans rfl; have d1 := (Lib.cell_of_heap hb 1).trans rfl; have g0 := Lib.frozen_of_heap hb 0; have g1 := Lib.frozen_of_heap hb 1; have HB := Lib.hid hb; clear hb))
      have hfr := (((((PFr.refl b w).alloc (.cells #[.string ⟨#[]⟩, .slice none 0 0] 85)).trans (hf4.trans hf5)).putNew (Nat.le_refl _) 0 (.string (bs s))).putNew (Nat.le_refl _) 1 (.slice s1 s2 s3))
      have hn : b ≠ w.heap.size := Nat.ne_of_lt HP.out.lt
      have hcells := blk_put _ _ 1 (.slice s1 s2 s3) (blk_put w5 _ 0 (.string (bs s)) HB.out (by show 0 < 2; decide)) (by show 1 < 2; decide)
      have z0 := (Lib.cell_of_heap hcells 0).trans rfl
      have z1 := (Lib.cell_of_heap hcells 1).trans rfl
      refine bodyPost_ret (v := .agg #[.string (bs s), .slice s1 s2 s3]) (by simp [results, Tryd.results53, go_sem, z0, z1]) rfl ⟨_, rfl, ⟨_, rfl, ?_⟩, ?_, hfr⟩
      · have hsz : w.heap.size < w4.heap.size := by have := hf4.size; simp at this; omega
        refine ArgsV.wide (ArgsV.stable _ _ (TypeV.stable 66) _ _ _ _ _ _ HV5.out (fun j j1 _ => ?_)) (Nat.le_of_lt hsz) (by simp [World.setCell])
        have hj : j ≠ w.heap.size := by omega
        rw [Below.heap_setCell _ _ _ j hj, Below.heap_setCell _ _ _ j hj]
      · refine HP.out.move hfr ?_ hp5.near hp5.nest0 hp5.nest1
        rw [Below.heap_setCell _ _ _ b hn, Below.heap_setCell _ _ _ b hn]
        exact hp5.blk

end Lx
end Go.Proofs.YtacgbogedpoojabDoor
