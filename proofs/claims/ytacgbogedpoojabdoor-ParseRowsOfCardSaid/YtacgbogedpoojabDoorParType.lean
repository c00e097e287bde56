/- The contract of package parse's typeExpr: what a type is, held in cells; or the panic. Conditions: the parser's block is its own; at most 16384 tokens. -/
import Derived.Test.YtacgbogedpoojabDoorParArgTy
namespace Go.Proofs.YtacgbogedpoojabDoor
namespace Lx
open Go Go.RowKit

/-- A type's cells, its arguments so many rows deep. -/
def TypeV : Nat → Holds TypeT
  | 0 => fun _ _ _ _ _ => False
  | d + 1 => fun x v lo hi w => match x with
    | .mk k s l => ∃ va, v = .agg #[.bool k, .string (bs s), va] ∧ ArgsV 77 3 (TypeV d) l va lo hi w
theorem TypeV.wide : ∀ (d : Nat) (x : TypeT) (v : Value) (lo hi lo' hi' : Nat) (w : World), TypeV d x v lo hi w → lo' ≤ lo → hi ≤ hi' → TypeV d x v lo' hi' w
  | 0, _, _, _, _, _, _, _, h, _, _ => h.elim
  | _ + 1, ⟨_, _, _⟩, _, _, _, _, _, _, ⟨va, hv, ha⟩, h1, h2 => ⟨va, hv, ha.wide h1 h2⟩
theorem TypeV.stable : ∀ d, Stable (TypeV d)
  | 0 => fun _ _ _ _ _ _ h _ => h.elim
  | d + 1 => by
    rintro ⟨k, s, l⟩ v lo hi w w' ⟨va, hv, ha⟩ h
    exact ⟨va, hv, ArgsV.stable _ _ (TypeV.stable d) _ _ _ _ _ _ ha h⟩
theorem TypeV.this : ∀ d, ThisTy (TypeV d)
  | 0 => fun _ _ _ _ _ h => h.elim
  | d + 1 => by
    rintro ⟨k, s, l⟩ v lo hi w ⟨va, rfl, ha⟩
    rcases ha with ⟨_, rfl⟩ | ⟨g, cap, vs, rfl, _⟩
    · exact ⟨_, _, _, _, _, rfl⟩
    · exact ⟨_, _, _, _, _, rfl⟩

def typeO (ts : List Tok) : Nat → Int → Nat → Out TypeT
  | 0, _, _ => .no 2
  | m + 1, ne, k =>
    match enterO ts k ne with
    | .no i => .no i
    | .ok _ _ =>
      if (peekT ts k).kind = 2 then .ok (.mk true (peekT ts k).text []) (k + 1)
      else if hasT ts k [105, 110, 116] = true then .ok (.mk false [105, 110, 116] []) (k + 1)
      else match nameO ts k with
        | .no i => .no i
        | .ok s k1 => match argsO (typeO ts m (ne + 1)) ts k1 with
          | .no i => .no i
          | .ok l k2 => .ok (.mk false s l) k2
theorem typeO_fwd (ts : List Tok) : ∀ (m : Nat) (ne : Int), Fwd ts (typeO ts m ne)
  | 0, _, _, _, _, h => by simp [typeO] at h
  | m + 1, ne, k, x, k', h => by
    rw [typeO] at h
    split at h
    · cases h
    · split at h
      · rename_i hc
        injection h with _ h2
        subst h2
        have := peek_kind (ts := ts) (k := k) (by rw [hc]; decide)
        omega
      · split at h
        · rename_i hc
          injection h with _ h2
          subst h2
          have := hasT_in hc (by decide)
          omega
        · split at h
          · cases h
          · rename_i s k1 he
            have h1 := nameO_fwd ts _ _ _ he
            split at h
            · cases h
            · rename_i l k2 he2
              injection h with _ h3
              subst h3
              have h2 := argsO_fwd (typeO_fwd ts m (ne + 1)) he2 h1.2
              omega

/-- The variable of a type's result, behind the readings. -/
theorem boxTy {w w' : World} {o : Obj} {b : Nat} {cs : Array Value} (hf : PFr b (w.alloc o) w') (hb : b < w.heap.size) (h : (w.alloc o).heap[w.heap.size]? = some (.cells cs 77 (0, 0))) : w'.heap[w.heap.size]? = some (.cells cs 77 (0, 0)) :=
  (hf.block w.heap.size (by simp) (Nat.ne_of_gt hb)).trans h

theorem putTy {w w3 : World} {o : Obj} {b : Nat} {A : Option Addr} {c : Nat} {ts : List Tok} {k k' : Nat} {ne ne' : Int} {y0 y1 y2 : Value} (h : Par w b A c ts k ne) (hf : PFr b (w.alloc o) w3) (hp : Par w3 b A c ts k' ne')
    (hb : w3.heap[w.heap.size]? = some (.cells #[y0, y1, y2] 77 (0, 0))) (x0 x1 x2 : Value) :
    (((w3.setCell ⟨w.heap.size, 0, none⟩ x0).setCell ⟨w.heap.size, 1, none⟩ x1).setCell ⟨w.heap.size, 2, none⟩ x2).heap[w.heap.size]? = some (.cells #[x0, x1, x2] 77 (0, 0)) ∧
    Par (((w3.setCell ⟨w.heap.size, 0, none⟩ x0).setCell ⟨w.heap.size, 1, none⟩ x1).setCell ⟨w.heap.size, 2, none⟩ x2) b A c ts k' ne' ∧
    PFr b w (((w3.setCell ⟨w.heap.size, 0, none⟩ x0).setCell ⟨w.heap.size, 1, none⟩ x1).setCell ⟨w.heap.size, 2, none⟩ x2) := by
  have hfr := ((((((PFr.refl b w).alloc o).trans hf).putNew (Nat.le_refl _) 0 x0).putNew (Nat.le_refl _) 1 x1).putNew (Nat.le_refl _) 2 x2)
  have hn : b ≠ w.heap.size := Nat.ne_of_lt h.lt
  refine ⟨blk_put _ _ 2 x2 (blk_put _ _ 1 x1 (blk_put w3 _ 0 x0 hb (by show 0 < 3; decide)) (by show 1 < 3; decide)) (by show 2 < 3; decide), h.move hfr ?_ hp.near hp.nest0 hp.nest1, hfr⟩
  rw [Below.heap_setCell _ _ _ b hn, Below.heap_setCell _ _ _ b hn, Below.heap_setCell _ _ _ b hn]
  exact hp.blk

/-- The end of a type's reading: the deferred leave, then the result. -/
theorem type_door {b : Nat} {A : Option Addr} {c : Nat} {ts : List Tok} {ne : Int} {f : Nat → Addr} {m : Nat} {w X : World} {k' : Nat} {x : TypeT} {x0 x1 x2 : Value} {tmps : Array Value} (h0 : 0 ≤ ne) (hb : b < w.heap.size)
    (ht : tmps[2]?.getD undef = .pointer (some ⟨w.heap.size, 0, none⟩)) (hX : X.heap[w.heap.size]? = some (.cells #[x0, x1, x2] 77 (0, 0))) (hp : Par X b A c ts k' (ne + 1)) (hf : PFr b w X) (hV : TypeV (m + 1) x (.agg #[x0, x1, x2]) w.heap.size X.heap.size X) :
    bodyPostD Tryd.prog Tryd.f43 (fun e w' => EndsV b A c ts ne f (TypeV (m + 1)) w (.ok x k') e w') Exit.ret { tmps := tmps, defers := [{ target := Target.fn (Fn.func 27) #[], args := #[.pointer (some ⟨b, 0, none⟩)] }] } X := by
  refine leaves_cons (f := 27) (args := #[.pointer (some ⟨b, 0, none⟩)]) (by simp) (by simp [go_sem]) ?_
  refine (leave_any X b A c ts k' (ne + 1) hp .returning (by omega)).mono ?_
  rintro e u' w' ⟨rfl, rfl, hp', hf'⟩
  have hbx := (hf'.block w.heap.size (Array.getElem?_eq_some_iff.1 hX).1 (Nat.ne_of_gt hb)).trans hX
  have d0 := (Lib.cell_of_heap hbx 0).trans rfl
  have d1 := (Lib.cell_of_heap hbx 1).trans rfl
  have d2 := (Lib.cell_of_heap hbx 2).trans rfl
  have e1 : ne + 1 - 1 = ne := by omega
  rw [e1] at hp'
  refine ⟨.agg #[x0, x1, x2], by simp [results, Tryd.results43, go_sem, ht, d0, d1, d2], _, rfl, ?_, hp', hf.trans hf'⟩
  exact TypeV.wide _ _ _ _ _ _ _ _ (TypeV.stable _ _ _ _ _ _ w' hV (fun j j1 j2 => hf'.block j j2 (by omega))) (Nat.le_refl _) hf'.size
theorem type_fall {b : Nat} {A : Option Addr} {c : Nat} {ts : List Tok} {ne : Int} {f : Nat → Addr} {m i : Nat} {w X : World} {tmps : Array Value} (h0 : 0 ≤ ne) (hp : ∃ k' ne', Par X b A c ts k' ne' ∧ ne + 1 ≤ ne') (hf : PFr b w X) :
    bodyPostD Tryd.prog Tryd.f43 (fun e w' => EndsV b A c ts ne f (TypeV (m + 1)) w (.no i) e w') (Exit.panic [{ v := .iface 62 (.agg #[errP (f i)]), recovered := false }]) { tmps := tmps, defers := [{ target := Target.fn (Fn.func 27) #[], args := #[.pointer (some ⟨b, 0, none⟩)] }] } X := by
  obtain ⟨k', ne', hp, hn⟩ := hp
  refine leaves_cons (f := 27) (args := #[.pointer (some ⟨b, 0, none⟩)]) (by simp) (by simp [go_sem]) ?_
  refine (leave_any X b A c ts k' ne' hp (.panicking _) (by omega)).mono ?_
  rintro e u' w' ⟨rfl, rfl, hp', hf'⟩
  exact ⟨rfl, ⟨_, _, hp', by omega⟩, hf.trans hf'⟩

set_option maxRecDepth 100000 in
set_option maxHeartbeats 4000000 in
theorem type_step (b : Nat) (A : Option Addr) (c : Nat) (ts : List Tok) (f : Nat → Addr) (m : Nat) (ne : Int) (h0 : 0 ≤ ne) (h1 : ne ≤ 70000)
    (HR : Hid (ne < 64 → ∀ w k, Par w b A c ts k (ne + 1) → PErrs w b f → k ≤ ts.length → Calls Tryd.prog 43 #[.pointer (some ⟨b, 0, none⟩)] w fun e w' => EndsV b A c ts (ne + 1) f (TypeV m) w (typeO ts m (ne + 1) k) e w'))
    (w : World) (k : Nat) (h : Par w b A c ts k ne) (hE : PErrs w b f) (hk : k ≤ ts.length) :
    Calls Tryd.prog 43 #[.pointer (some ⟨b, 0, none⟩)] w fun e w' => EndsV b A c ts ne f (TypeV (m + 1)) w (typeO ts (m + 1) ne k) e w' := by
  have HP := Lib.hid h
  have HE := Lib.hid hE
  have hfw := h.few
  have H1 := Lib.hid (fun w h hE => enter_any w b A c ts k ne f h (by omega) hE)
  have H2 := Lib.hid (fun w h => peek_any w b A c ts k (ne + 1) h)
  have H3 := Lib.hid (fun w h hE => name_any w b A c ts k (ne + 1) f h (by omega) hE)
  have H4 := Lib.hid (fun w h => next_any w b A c ts k (ne + 1) h (by omega))
  have HA := Lib.hid (fun w h => accept_any w b A c ts k (ne + 1) ⟨#[105, 110, 116]⟩ h (by omega))
  rw [hasT_eq, show (ByteArray.mk #[105, 110, 116]).data.toList = [105, 110, 116] from rfl] at HA
  have HEO := Lib.hid (show 64 < ne + 1 ∧ k < ts.length → enterO ts k ne = .no 0 from fun h => by simp [enterO, h])
  rw [typeO]
  clear h hE
  cases he : enterO ts k ne with
  | no i =>
    rw [he] at H1
    go_enter_defers Tryd.func43, Tryd.ntmps43
    go_wp2_with (go_at_call 26; refine (H1.out _ (HP.out.alloc _) (HE.out.move ((PFr.refl b w).alloc _))).mono ?_; rintro e w1 ⟨rfl, h2, h3⟩)
    obtain ⟨kq, nq, hpq, hnq⟩ := h2
    exact ⟨rfl, ⟨kq, nq, hpq, by omega⟩, ((PFr.refl b w).alloc _).trans h3⟩
  | ok u ku =>
    obtain rfl : ku = k := by
      unfold enterO at he
      split at he
      · cases he
      · injection he with _ h2; exact h2.symm
    rw [he] at H1
    by_cases hx2 : (peekT ts ku).kind = 2
    · simp only [hx2, if_true]
      rw [hx2] at H2 H4
      generalize (peekT ts ku).text = y at *
      generalize (peekT ts ku).num = z at *
      have q0 := tokF0 2 z (bs y)
      have q1 := tokF1 2 z (bs y)
      go_enter_defers Tryd.func43, Tryd.ntmps43
      go_wp2_with (first | (go_at_call 26; refine (H1.out _ (HP.out.alloc _) (HE.out.move ((PFr.refl b w).alloc _))).mono ?_; rintro e w1 ⟨v, rfl, rfl, hp1, hf1⟩) | (go_at_call 28; refine (H2.out _ hp1).mono ?_; rintro e w2 ⟨rfl, hp2, hf2⟩) | (go_at_call 29; refine (H4.out _ hp2).mono ?_; rintro e w3 ⟨rfl, hp3, hf3⟩; have hb := boxTy (hf1.trans (hf2.trans hf3)) HP.out.lt (heap_alloc_new w _); have d0 := (Lib.cell_of_heap hb 0).trans rfl; have d1 := (Lib.cell_of_heap hb 1).trans rfl; have d2 := (Lib.cell_of_heap hb 2).trans rfl; have g0 := Lib.frozen_of_heap hb 0; have g1 := Lib.frozen_of_heap hb 1; have g2 := Lib.frozen_of_heap hb 2; have HB := Lib.hid hb; clear hb))
      obtain ⟨t1, t2, t3⟩ := putTy HP.out (hf1.trans (hf2.trans hf3)) hp3 HB.out (.bool true) (.string (bs y)) (.slice none 0 0)
      exact type_door (x0 := .bool true) (x1 := .string (bs y)) (x2 := .slice none 0 0) h0 HP.out.lt rfl t1 t2 t3 ⟨_, rfl, .inl ⟨rfl, rfl⟩⟩
    · have hs2 : ((peekT ts ku).kind == 2) = false := by simpa using hx2
      have q0 := tokF0 (peekT ts ku).kind (peekT ts ku).num (bs (peekT ts ku).text)
      have hlt : nameO ts ku ≠ .no 2 → ku < ts.length := fun hne => by
        rcases hq : nameO ts ku with ⟨s, k1⟩ | i
        · have := nameO_fwd ts _ _ _ hq; omega
        · unfold nameO at hq hne
          split at hq
          · cases hq
          · rename_i hc; rw [if_neg hc] at hne; exact absurd rfl hne
      simp only [hx2, if_false]
      generalize (peekT ts ku).kind = x at *
      generalize bs (peekT ts ku).text = y at *
      generalize (peekT ts ku).num = z at *
      cases hi : hasT ts ku [105, 110, 116] with
      | true =>
        rw [hi] at HA
        simp only [if_true] at HA ⊢
        clear hx2 hlt
        go_enter_defers Tryd.func43, Tryd.ntmps43
        go_wp2_with (first | (go_at_call 26; refine (H1.out _ (HP.out.alloc _) (HE.out.move ((PFr.refl b w).alloc _))).mono ?_; rintro e w1 ⟨v, rfl, rfl, hp1, hf1⟩) | (go_at_call 28; refine (H2.out _ hp1).mono ?_; rintro e w2 ⟨rfl, hp2, hf2⟩) | (go_at_call 37; refine (HA.out _ hp2).mono ?_; rintro e w3 ⟨rfl, hp3, hf3⟩; have hb := boxTy (hf1.trans (hf2.trans hf3)) HP.out.lt (heap_alloc_new w _); have d0 := (Lib.cell_of_heap hb 0).trans rfl; have d1 := (Lib.cell_of_heap hb 1).trans rfl; have d2 := (Lib.cell_of_heap hb 2).trans rfl; have g0 := Lib.frozen_of_heap hb 0; have g1 := Lib.frozen_of_heap hb 1; have g2 := Lib.frozen_of_heap hb 2; have HB := Lib.hid hb; clear hb))
        obtain ⟨t1, t2, t3⟩ := putTy HP.out (hf1.trans (hf2.trans hf3)) hp3 HB.out (.bool false) (.string ⟨#[105, 110, 116]⟩) (.slice none 0 0)
        exact type_door (x0 := .bool false) (x1 := .string ⟨#[105, 110, 116]⟩) (x2 := .slice none 0 0) h0 HP.out.lt rfl t1 t2 t3 ⟨_, rfl, .inl ⟨rfl, rfl⟩⟩
      | false =>
        rw [hi] at HA
        simp only [Bool.false_eq_true, if_false] at HA ⊢
        cases hno : nameO ts ku with
        | no i =>
          rw [hno] at H3
          clear hx2 hlt hno
          go_enter_defers Tryd.func43, Tryd.ntmps43
          go_wp2_with (first | (go_at_call 26; refine (H1.out _ (HP.out.alloc _) (HE.out.move ((PFr.refl b w).alloc _))).mono ?_; rintro e w1 ⟨v, rfl, rfl, hp1, hf1⟩) | (go_at_call 28; refine (H2.out _ hp1).mono ?_; rintro e w2 ⟨rfl, hp2, hf2⟩) | (go_at_call 37; refine (HA.out _ hp2).mono ?_; rintro e w3 ⟨rfl, hp3, hf3⟩) | (go_at_call 30; refine (H3.out _ hp3 ((HE.out.move ((PFr.refl b w).alloc _)).move (hf1.trans (hf2.trans hf3)))).mono ?_; rintro e w4 ⟨rfl, h2, h3⟩))
          exact type_fall h0 h2 (((PFr.refl b w).alloc _).trans (hf1.trans (hf2.trans (hf3.trans h3))))
        | ok s k1 =>
          have hf := nameO_fwd ts _ _ _ hno
          have hne64 : ne < 64 := by
            rcases Int.lt_or_le ne 64 with h | h
            · exact h
            · have := HEO.out ⟨by omega, by omega⟩
              rw [he] at this
              cases this
          rw [hno] at H3
          have HARG := Lib.hid (fun w h hE => argsTy_any b A c ts (ne + 1) f (TypeV m) (TypeV.stable m) (TypeV.this m) (typeO ts m (ne + 1)) (typeO_fwd ts m (ne + 1)) (Lib.hid (HR.out hne64)) w k1 h hE hf.2)
          show Calls _ _ _ _ fun e w' => EndsV b A c ts ne f (TypeV (m + 1)) w (match argsO (typeO ts m (ne + 1)) ts k1 with | .no i => .no i | .ok l k2 => .ok (.mk false s l) k2) e w'
          clear hx2 hlt hno hne64 hf
          cases ha : argsO (typeO ts m (ne + 1)) ts k1 with
          | no i =>
            rw [ha] at HARG
            go_enter_defers Tryd.func43, Tryd.ntmps43
            go_wp2_with (first | (go_at_call 26; refine (H1.out _ (HP.out.alloc _) (HE.out.move ((PFr.refl b w).alloc _))).mono ?_; rintro e w1 ⟨v, rfl, rfl, hp1, hf1⟩) | (go_at_call 28; refine (H2.out _ hp1).mono ?_; rintro e w2 ⟨rfl, hp2, hf2⟩) | (go_at_call 37; refine (HA.out _ hp2).mono ?_; rintro e w3 ⟨rfl, hp3, hf3⟩) | (go_at_call 30; refine (H3.out _ hp3 ((HE.out.move ((PFr.refl b w).alloc _)).move (hf1.trans (hf2.trans hf3)))).mono ?_; rintro e w4 ⟨v, rfl, rfl, hp4, hf4⟩) | (go_at_call 42; refine (HARG.out _ hp4 ((HE.out.move ((PFr.refl b w).alloc _)).move (hf1.trans (hf2.trans (hf3.trans hf4))))).mono ?_; rintro e w5 ⟨rfl, h2, h3⟩))
            exact type_fall h0 h2 (((PFr.refl b w).alloc _).trans (hf1.trans (hf2.trans (hf3.trans (hf4.trans h3)))))
          | ok l k2 =>
            rw [ha] at HARG
            go_enter_defers Tryd.func43, Tryd.ntmps43
            go_wp2_with (first | (go_at_call 26; refine (H1.out _ (HP.out.alloc _) (HE.out.move ((PFr.refl b w).alloc _))).mono ?_; rintro e w1 ⟨v, rfl, rfl, hp1, hf1⟩) | (go_at_call 28; refine (H2.out _ hp1).mono ?_; rintro e w2 ⟨rfl, hp2, hf2⟩) | (go_at_call 37; refine (HA.out _ hp2).mono ?_; rintro e w3 ⟨rfl, hp3, hf3⟩) | (go_at_call 30; refine (H3.out _ hp3 ((HE.out.move ((PFr.refl b w).alloc _)).move (hf1.trans (hf2.trans hf3)))).mono ?_; rintro e w4 ⟨v, rfl, rfl, hp4, hf4⟩) | (go_at_call 42; refine (HARG.out _ hp4 ((HE.out.move ((PFr.refl b w).alloc _)).move (hf1.trans (hf2.trans (hf3.trans hf4))))).mono ?_; rintro e w5 ⟨v5, rfl, hv5, hp5, hf5⟩; obtain ⟨s1, s2, s3, rfl⟩ := hv5.slice; have HV5 := Lib.hid hv5; clear hv5; have hb := boxTy (hf1.trans (hf2.trans (hf3.trans (hf4.trans hf5)))) HP.out.lt (heap_alloc_new w _); have d0 := (Lib.cell_of_heap hb 0).trans rfl; have d1 := (Lib.cell_of_heap hb 1).trans rfl; have d2 := (Lib.cell_of_heap hb 2).trans rfl; have g0 := Lib.frozen_of_heap hb 0; have g1 := Lib.frozen_of_heap hb 1; have g2 := Lib.frozen_of_heap hb 2; have HB := Lib.hid hb; clear hb))
            obtain ⟨t1, t2, t3⟩ := putTy HP.out (hf1.trans (hf2.trans (hf3.trans (hf4.trans hf5)))) hp5 HB.out (.bool false) (.string (bs s)) (.slice s1 s2 s3)
            refine type_door (x0 := .bool false) (x1 := .string (bs s)) (x2 := .slice s1 s2 s3) h0 HP.out.lt rfl t1 t2 t3 ⟨_, rfl, ?_⟩
            have hsz : w.heap.size < w4.heap.size := by have := (hf1.trans (hf2.trans (hf3.trans hf4))).size; simp at this; omega
            refine ArgsV.wide (ArgsV.stable _ _ (TypeV.stable m) _ _ _ _ _ _ HV5.out (fun j j1 _ => ?_)) (Nat.le_of_lt hsz) (by simp [World.setCell])
            have hj : j ≠ w.heap.size := by omega
            rw [Below.heap_setCell _ _ _ j hj, Below.heap_setCell _ _ _ j hj, Below.heap_setCell _ _ _ j hj]

/-- A type, at whatever nest. -/
theorem type_any (b : Nat) (A : Option Addr) (c : Nat) (ts : List Tok) (f : Nat → Addr) : ∀ (m : Nat) (ne : Int), 65 ≤ ne + m → 0 ≤ ne → ne ≤ 70000 → ∀ (w : World) (k : Nat), Par w b A c ts k ne → PErrs w b f → k ≤ ts.length →
    Calls Tryd.prog 43 #[.pointer (some ⟨b, 0, none⟩)] w fun e w' => EndsV b A c ts ne f (TypeV (m + 1)) w (typeO ts (m + 1) ne k) e w'
  | 0, ne, hm, h0, h1, w, k, h, hE, hk => type_step b A c ts f 0 ne h0 h1 (Lib.hid (fun hn => by omega)) w k h hE hk
  | m + 1, ne, hm, h0, h1, w, k, h, hE, hk =>
    type_step b A c ts f (m + 1) ne h0 h1 (Lib.hid (fun hn => type_any b A c ts f m (ne + 1) (by omega) (by omega) (by omega))) w k h hE hk

end Lx
end Go.Proofs.YtacgbogedpoojabDoor
