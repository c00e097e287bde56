/- The contract of package parse's item: what an item is, held in cells; or the panic. Conditions: the parser's block is its own; at most 16384 tokens. -/
import Derived.Test.YtacgbogedpoojabDoorParItemT
import Derived.Test.YtacgbogedpoojabDoorParItemM
import Derived.Test.YtacgbogedpoojabDoorParItemC
namespace Go.Proofs.YtacgbogedpoojabDoor
namespace Lx
open Go Go.RowKit

theorem ItemV.this {x : ItemT} {v : Value} {lo hi : Nat} {w : World} (h : ItemV x v lo hi w) : ∃ i1 i2 i3 i4 i5 i6 i7 i8 i9 ia ib ic id ie ig ih ii ij z1 z2 z3 z4 z5 z6 z7 z8 z9 za zb zc zd ze zf zg zh zi zj zk, v = .agg #[.int .i64 i1, .string i2, .slice i3 i4 i5, .slice i6 i7 i8, .slice i9 ia ib, .slice ic id ie, .int .i64 ig, .slice ih ii ij, .int .i64 z1, .int .i64 z2, .string z3, .int .i64 z4, .slice z5 z6 z7, .int .i64 z8, .string z9, .int .i64 za, .slice zb zc zd, .string ze, .slice zf zg zh, .slice zi zj zk] := by
  obtain ⟨vv, vc, vt, vi, va, b0, b1, b2, b3, b4, b5, b6, b7, b8, b9, b10, b11, rfl, h1, h2, h3, h4, h5, h6⟩ := h
  obtain ⟨a1, a2, a3, rfl⟩ := h1.slice
  obtain ⟨c1, c2, c3, rfl⟩ := h2.slice
  obtain ⟨d1, d2, d3, rfl⟩ := h3.slice
  obtain ⟨e1, e2, e3, rfl⟩ := h4.slice
  obtain ⟨f1, f2, f3, rfl⟩ := h5.slice
  obtain ⟨z1, z2, z3, z4, z5, z6, z7, z8, z9, za, zb, zc, zd, ze, zf, zg, zh, zi, zj, zk, hz⟩ := GoalV.this _ _ _ _ _ _ h6
  simp only [Value.agg.injEq, Array.mk.injEq, List.cons.injEq, and_true] at hz
  obtain ⟨rfl, rfl, rfl, rfl, rfl, rfl, rfl, rfl, rfl, rfl, rfl, rfl⟩ := hz
  exact ⟨_, _, _, _, _, _, _, _, _, _, _, _, _, _, _, _, _, _, _, _, _, _, _, _, _, _, _, _, _, _, _, _, _, _, _, _, _, _, rfl⟩


set_option maxRecDepth 100000 in
set_option maxHeartbeats 8000000 in
theorem item_any (b : Nat) (A : Option Addr) (c : Nat) (ts : List Tok) (f : Nat → Addr) (ne : Int) (h0 : 0 ≤ ne) (h1 : ne ≤ 50000) (w : World) (k : Nat) (h : Par w b A c ts k ne) (hE : PErrs w b f) (hk : k ≤ ts.length) :
    Calls Tryd.prog 33 #[.pointer (some ⟨b, 0, none⟩)] w fun e w' => EndsV b A c ts ne f ItemV w (itemO ts ne k) e w' := by
  have HP := Lib.hid h
  have HE := Lib.hid hE
  have hfw := h.few
  have hbw := h.lt
  clear h hE
  have HA1 := Lib.hid (fun w h => accept_any w b A c ts k ne ⟨#[116, 121, 112, 101]⟩ h (by omega))
  rw [hasT_eq, show (ByteArray.mk #[116, 121, 112, 101]).data.toList = [116, 121, 112, 101] from rfl] at HA1
  have HA2 := Lib.hid (fun w h => accept_any w b A c ts k ne ⟨#[112, 114, 101, 100]⟩ h (by omega))
  rw [hasT_eq, show (ByteArray.mk #[112, 114, 101, 100]).data.toList = [112, 114, 101, 100] from rfl] at HA2
  have HA3 := Lib.hid (fun w h => accept_any w b A c ts k ne ⟨#[109, 111, 100, 101]⟩ h (by omega))
  rw [hasT_eq, show (ByteArray.mk #[109, 111, 100, 101]).data.toList = [109, 111, 100, 101] from rfl] at HA3
  unfold itemO
  cases q1 : hasT ts k [116, 121, 112, 101] with
  | true =>
    have hin : k < ts.length := hasT_in q1 (by decide)
    rw [q1] at HA1
    simp only [if_true] at HA1 ⊢
    clear q1
    have HQ := Lib.hid (fun w h hE => typeItem_any b A c ts f ne h0 h1 w (k + 1) h hE (by omega))
    cases hq : typeItemO ts ne (k + 1) with
    | no i =>
      rw [hq] at HQ
      go_enter Tryd.func33, Tryd.ntmps33
      go_wp2_with fail
      go_at_call 37
      refine (HA1.out _ (HP.out.alloc _)).mono ?_
      rintro e w1 ⟨rfl, hp1, hf1⟩
      go_wp2_with fail
      go_at_call 41
      refine (HQ.out _ hp1 ((HE.out.move ((PFr.refl b w).alloc _)).move hf1)).mono ?_
      rintro e w9 ⟨rfl, h2, h3⟩
      go_wp2_with fail
      exact ⟨rfl, rfl, h2, ((PFr.refl b w).alloc _).trans (hf1.trans h3)⟩
    | ok x k2 =>
      rw [hq] at HQ
      go_enter Tryd.func33, Tryd.ntmps33
      go_wp2_with fail
      go_at_call 37
      refine (HA1.out _ (HP.out.alloc _)).mono ?_
      rintro e w1 ⟨rfl, hp1, hf1⟩
      go_wp2_with fail
      go_at_call 41
      refine (HQ.out _ hp1 ((HE.out.move ((PFr.refl b w).alloc _)).move hf1)).mono ?_
      rintro e w9 ⟨v9, rfl, hv9, hp9, hf9⟩
      obtain ⟨i1, i2, i3, i4, i5, i6, i7, i8, i9, ia, ib, ic, id, ie, ig, ih, ii, ij, z1, z2, z3, z4, z5, z6, z7, z8, z9, za, zb, zc, zd, ze, zf, zg, zh, zi, zj, zk, rfl⟩ := ItemV.this hv9
      have HV9 := Lib.hid hv9
      clear hv9
      have HB := Lib.hid (boxI (hf1.trans hf9) hbw (heap_alloc_new w _))
      have hsi : w.heap.size < w1.heap.size := (by have := hf1.size; simp at this; omega)
      rename_i hKK
      refine hKK _ _ ?_
      clear hKK
      have hth : w9.there w.heap.size 0 20 := there_all HB.out
      refine wpList_store_mid rfl 46 (.tmp 2) (.tmp 7) rfl w.heap.size 0 #[.int .i64 i1, .string i2, .slice i3 i4 i5, .slice i6 i7 i8, .slice i9 ia ib, .slice ic id ie, .int .i64 ig, .slice ih ii ij, .int .i64 z1, .int .i64 z2, .string z3, .int .i64 z4, .slice z5 z6 z7, .int .i64 z8, .string z9, .int .i64 za, .slice zb zc zd, .string ze, .slice zf zg zh, .slice zi zj zk] rfl rfl hth infoItem (by simp [Value.oneCell']) ?_
      obtain ⟨t1, t2, t3, t4, t5⟩ := putAll (T := 46) HP.out (hf1.trans hf9) hp9 HB.out #[.int .i64 i1, .string i2, .slice i3 i4 i5, .slice i6 i7 i8, .slice i9 ia ib, .slice ic id ie, .int .i64 ig, .slice ih ii ij, .int .i64 z1, .int .i64 z2, .string z3, .int .i64 z4, .slice z5 z6 z7, .int .i64 z8, .string z9, .int .i64 za, .slice zb zc zd, .string ze, .slice zf zg zh, .slice zi zj zk] rfl
      generalize World.setCells _ _ _ _ = X at t1 t2 t3 t4 t5 ⊢
      clear hth
      go_wp2
      refine bodyPost_ret (v := .agg #[.int .i64 i1, .string i2, .slice i3 i4 i5, .slice i6 i7 i8, .slice i9 ia ib, .slice ic id ie, .int .i64 ig, .slice ih ii ij, .int .i64 z1, .int .i64 z2, .string z3, .int .i64 z4, .slice z5 z6 z7, .int .i64 z8, .string z9, .int .i64 za, .slice zb zc zd, .string ze, .slice zf zg zh, .slice zi zj zk]) (results_cell_row Tryd.results33 _ X w.heap.size 46 #[.int .i64 i1, .string i2, .slice i3 i4 i5, .slice i6 i7 i8, .slice i9 ia ib, .slice ic id ie, .int .i64 ig, .slice ih ii ij, .int .i64 z1, .int .i64 z2, .string z3, .int .i64 z4, .slice z5 z6 z7, .int .i64 z8, .string z9, .int .i64 za, .slice zb zc zd, .string ze, .slice zf zg zh, .slice zi zj zk] (0, 0) _ rfl t1 Tryd.underlying46 rfl infoItem) rfl ⟨_, rfl, ?_, t2, t3⟩
      exact ItemV.wide _ _ _ _ _ _ _ (ItemV.stable _ _ _ _ _ _ HV9.out (fun j j1 _ => t4 j (by omega))) (Nat.le_of_lt hsi) (by rw [t5]; exact Nat.le_refl _)
  | false =>
    rw [q1] at HA1
    simp only [Bool.false_eq_true, if_false] at HA1 ⊢
    clear q1
    cases q2 : hasT ts k [112, 114, 101, 100] with
    | true =>
      have hin : k < ts.length := hasT_in q2 (by decide)
      rw [q2] at HA2
      simp only [if_true] at HA2 ⊢
      clear q2
      unfold predO
      have H3 := Lib.hid (fun w h hE => nameV_any w b A c ts (k + 1) ne f h (by omega) hE)
      cases q3 : nameO ts (k + 1) with
      | no i =>
        rw [q3] at H3
        go_enter Tryd.func33, Tryd.ntmps33
        go_wp2_with fail
        go_at_call 37
        refine (HA1.out _ (HP.out.alloc _)).mono ?_
        rintro e w1 ⟨rfl, hp1, hf1⟩
        go_wp2_with fail
        go_at_call 37
        refine (HA2.out _ hp1).mono ?_
        rintro e w2 ⟨rfl, hp2, hf2⟩
        go_wp2_with fail
        go_at_call 30
        refine (H3.out _ hp2 ((HE.out.move ((PFr.refl b w).alloc _)).move (hf1.trans hf2))).mono ?_
        rintro e w3 ⟨rfl, h2, h3⟩
        go_wp2_with fail
        exact ⟨rfl, rfl, h2, ((PFr.refl b w).alloc _).trans (hf1.trans (hf2.trans h3))⟩
      | ok s k1 =>
        rw [q3] at H3
        have hk1 := nameO_fwd ts _ _ _ q3
        clear q3
        have H4 := Lib.hid (fun w h hE => argsTy_any b A c ts ne f (TypeV 66) (TypeV.stable 66) (TypeV.this 66) (typeO ts 66 ne) (typeO_fwd ts 66 ne) (Lib.hid (fun w k h hE hk => type_any b A c ts f 65 ne (by omega) h0 (by omega) w k h hE hk)) w k1 h hE hk1.2)
        show Calls _ _ _ _ fun e w' => EndsV b A c ts ne f ItemV w (match argsO (typeO ts 66 ne) ts k1 with | .no i => .no i | .ok l k2 => .ok ⟨2, s, [], [], l, [], 0, [], zeroG⟩ k2) e w'
        cases q4 : argsO (typeO ts 66 ne) ts k1 with
        | no i =>
          rw [q4] at H4
          go_enter Tryd.func33, Tryd.ntmps33
          go_wp2_with fail
          go_at_call 37
          refine (HA1.out _ (HP.out.alloc _)).mono ?_
          rintro e w1 ⟨rfl, hp1, hf1⟩
          go_wp2_with fail
          go_at_call 37
          refine (HA2.out _ hp1).mono ?_
          rintro e w2 ⟨rfl, hp2, hf2⟩
          go_wp2_with fail
          go_at_call 30
          refine (H3.out _ hp2 ((HE.out.move ((PFr.refl b w).alloc _)).move (hf1.trans hf2))).mono ?_
          rintro e w3 ⟨v3, rfl, rfl, hp3, hf3⟩
          go_wp2_with fail
          go_at_call 42
          refine (H4.out _ hp3 ((HE.out.move ((PFr.refl b w).alloc _)).move (hf1.trans (hf2.trans hf3)))).mono ?_
          rintro e w4 ⟨rfl, h2, h3⟩
          go_wp2_with fail
          exact ⟨rfl, rfl, h2, ((PFr.refl b w).alloc _).trans (hf1.trans (hf2.trans (hf3.trans h3)))⟩
        | ok l k2 =>
          rw [q4] at H4
          go_enter Tryd.func33, Tryd.ntmps33
          go_wp2_with fail
          go_at_call 37
          refine (HA1.out _ (HP.out.alloc _)).mono ?_
          rintro e w1 ⟨rfl, hp1, hf1⟩
          go_wp2_with fail
          go_at_call 37
          refine (HA2.out _ hp1).mono ?_
          rintro e w2 ⟨rfl, hp2, hf2⟩
          go_wp2_with fail
          go_at_call 30
          refine (H3.out _ hp2 ((HE.out.move ((PFr.refl b w).alloc _)).move (hf1.trans hf2))).mono ?_
          rintro e w3 ⟨v3, rfl, rfl, hp3, hf3⟩
          go_wp2_with fail
          go_at_call 42
          refine (H4.out _ hp3 ((HE.out.move ((PFr.refl b w).alloc _)).move (hf1.trans (hf2.trans hf3)))).mono ?_
          rintro e w4 ⟨v4, rfl, hv4, hp4, hf4⟩
          obtain ⟨s1, s2, s3, rfl⟩ := hv4.slice
          have HV4 := Lib.hid hv4
          clear hv4
          have HB := Lib.hid (boxI (hf1.trans (hf2.trans (hf3.trans hf4))) hbw (heap_alloc_new w _))
          have hsi : w.heap.size < w3.heap.size := (by have := (hf1.trans (hf2.trans hf3)).size; simp at this; omega)
          rename_i hKK
          refine hKK _ _ ?_
          clear hKK
          refine wpList_plain rfl fun _ hKK => ?_
          have HKK := Lib.hid hKK
          clear hKK
          go_simp
          refine HKK.out _ _ ?_
          clear HKK
          have hth : w4.there w.heap.size 0 20 := there_all HB.out
          refine wpList_store_mid rfl 46 (.tmp 2) (.tmp 17) rfl w.heap.size 0 #[.int .i64 2, .string (bs s), .slice none 0 0, .slice none 0 0, .slice s1 s2 s3, .slice none 0 0, .int .i64 0, .slice none 0 0, .int .i64 0, .int .i64 0, .string ⟨#[]⟩, .int .i64 0, .slice none 0 0, .int .i64 0, .string ⟨#[]⟩, .int .i64 0, .slice none 0 0, .string ⟨#[]⟩, .slice none 0 0, .slice none 0 0] rfl rfl hth infoItem (by simp [Value.oneCell']) ?_
          obtain ⟨t1, t2, t3, t4, t5⟩ := putAll (T := 46) HP.out (hf1.trans (hf2.trans (hf3.trans hf4))) hp4 HB.out #[.int .i64 2, .string (bs s), .slice none 0 0, .slice none 0 0, .slice s1 s2 s3, .slice none 0 0, .int .i64 0, .slice none 0 0, .int .i64 0, .int .i64 0, .string ⟨#[]⟩, .int .i64 0, .slice none 0 0, .int .i64 0, .string ⟨#[]⟩, .int .i64 0, .slice none 0 0, .string ⟨#[]⟩, .slice none 0 0, .slice none 0 0] rfl
          generalize World.setCells _ _ _ _ = X at t1 t2 t3 t4 t5 ⊢
          clear hth
          go_wp2
          refine bodyPost_ret (v := .agg #[.int .i64 2, .string (bs s), .slice none 0 0, .slice none 0 0, .slice s1 s2 s3, .slice none 0 0, .int .i64 0, .slice none 0 0, .int .i64 0, .int .i64 0, .string ⟨#[]⟩, .int .i64 0, .slice none 0 0, .int .i64 0, .string ⟨#[]⟩, .int .i64 0, .slice none 0 0, .string ⟨#[]⟩, .slice none 0 0, .slice none 0 0]) (results_cell_row Tryd.results33 _ X w.heap.size 46 #[.int .i64 2, .string (bs s), .slice none 0 0, .slice none 0 0, .slice s1 s2 s3, .slice none 0 0, .int .i64 0, .slice none 0 0, .int .i64 0, .int .i64 0, .string ⟨#[]⟩, .int .i64 0, .slice none 0 0, .int .i64 0, .string ⟨#[]⟩, .int .i64 0, .slice none 0 0, .string ⟨#[]⟩, .slice none 0 0, .slice none 0 0] (0, 0) _ rfl t1 Tryd.underlying46 rfl infoItem) rfl ⟨_, rfl, ?_, t2, t3⟩
          refine ⟨_, _, _, _, _, _, _, _, _, _, _, _, _, _, _, _, _, rfl, .inl ⟨rfl, rfl⟩, .inl ⟨rfl, rfl⟩, ?_, .inl ⟨rfl, rfl⟩, .inl ⟨rfl, rfl⟩, zeroG_holds _ _ _⟩
          exact ArgsV.wide (ArgsV.stable _ _ (TypeV.stable 66) _ _ _ _ _ _ HV4.out (fun j j1 j2 => t4 j (by omega))) (Nat.le_of_lt hsi) (by rw [t5]; exact Nat.le_refl _)
    | false =>
      rw [q2] at HA2
      simp only [Bool.false_eq_true, if_false] at HA2 ⊢
      clear q2
      cases q3 : hasT ts k [109, 111, 100, 101] with
      | true =>
        have hin : k < ts.length := hasT_in q3 (by decide)
        rw [q3] at HA3
        simp only [if_true] at HA3 ⊢
        clear q3
        have HQ := Lib.hid (fun w h hE => modeItem_any b A c ts f ne h0 h1 w (k + 1) h hE (by omega))
        cases hq : modeItemO ts (k + 1) with
        | no i =>
          rw [hq] at HQ
          go_enter Tryd.func33, Tryd.ntmps33
          go_wp2_with fail
          go_at_call 37
          refine (HA1.out _ (HP.out.alloc _)).mono ?_
          rintro e w1 ⟨rfl, hp1, hf1⟩
          go_wp2_with fail
          go_at_call 37
          refine (HA2.out _ hp1).mono ?_
          rintro e w2 ⟨rfl, hp2, hf2⟩
          go_wp2_with fail
          go_at_call 37
          refine (HA3.out _ hp2).mono ?_
          rintro e w3 ⟨rfl, hp3, hf3⟩
          go_wp2_with fail
          go_at_call 44
          refine (HQ.out _ hp3 ((HE.out.move ((PFr.refl b w).alloc _)).move (hf1.trans (hf2.trans hf3)))).mono ?_
          rintro e w9 ⟨rfl, h2, h3⟩
          go_wp2_with fail
          exact ⟨rfl, rfl, h2, ((PFr.refl b w).alloc _).trans (hf1.trans (hf2.trans (hf3.trans h3)))⟩
        | ok x k2 =>
          rw [hq] at HQ
          go_enter Tryd.func33, Tryd.ntmps33
          go_wp2_with fail
          go_at_call 37
          refine (HA1.out _ (HP.out.alloc _)).mono ?_
          rintro e w1 ⟨rfl, hp1, hf1⟩
          go_wp2_with fail
          go_at_call 37
          refine (HA2.out _ hp1).mono ?_
          rintro e w2 ⟨rfl, hp2, hf2⟩
          go_wp2_with fail
          go_at_call 37
          refine (HA3.out _ hp2).mono ?_
          rintro e w3 ⟨rfl, hp3, hf3⟩
          go_wp2_with fail
          go_at_call 44
          refine (HQ.out _ hp3 ((HE.out.move ((PFr.refl b w).alloc _)).move (hf1.trans (hf2.trans hf3)))).mono ?_
          rintro e w9 ⟨v9, rfl, hv9, hp9, hf9⟩
          obtain ⟨i1, i2, i3, i4, i5, i6, i7, i8, i9, ia, ib, ic, id, ie, ig, ih, ii, ij, z1, z2, z3, z4, z5, z6, z7, z8, z9, za, zb, zc, zd, ze, zf, zg, zh, zi, zj, zk, rfl⟩ := ItemV.this hv9
          have HV9 := Lib.hid hv9
          clear hv9
          have HB := Lib.hid (boxI (hf1.trans (hf2.trans (hf3.trans hf9))) hbw (heap_alloc_new w _))
          have hsi : w.heap.size < w3.heap.size := (by have := (hf1.trans (hf2.trans hf3)).size; simp at this; omega)
          rename_i hKK
          refine hKK _ _ ?_
          clear hKK
          have hth : w9.there w.heap.size 0 20 := there_all HB.out
          refine wpList_store_mid rfl 46 (.tmp 2) (.tmp 22) rfl w.heap.size 0 #[.int .i64 i1, .string i2, .slice i3 i4 i5, .slice i6 i7 i8, .slice i9 ia ib, .slice ic id ie, .int .i64 ig, .slice ih ii ij, .int .i64 z1, .int .i64 z2, .string z3, .int .i64 z4, .slice z5 z6 z7, .int .i64 z8, .string z9, .int .i64 za, .slice zb zc zd, .string ze, .slice zf zg zh, .slice zi zj zk] rfl rfl hth infoItem (by simp [Value.oneCell']) ?_
          obtain ⟨t1, t2, t3, t4, t5⟩ := putAll (T := 46) HP.out (hf1.trans (hf2.trans (hf3.trans hf9))) hp9 HB.out #[.int .i64 i1, .string i2, .slice i3 i4 i5, .slice i6 i7 i8, .slice i9 ia ib, .slice ic id ie, .int .i64 ig, .slice ih ii ij, .int .i64 z1, .int .i64 z2, .string z3, .int .i64 z4, .slice z5 z6 z7, .int .i64 z8, .string z9, .int .i64 za, .slice zb zc zd, .string ze, .slice zf zg zh, .slice zi zj zk] rfl
          generalize World.setCells _ _ _ _ = X at t1 t2 t3 t4 t5 ⊢
          clear hth
          go_wp2
          refine bodyPost_ret (v := .agg #[.int .i64 i1, .string i2, .slice i3 i4 i5, .slice i6 i7 i8, .slice i9 ia ib, .slice ic id ie, .int .i64 ig, .slice ih ii ij, .int .i64 z1, .int .i64 z2, .string z3, .int .i64 z4, .slice z5 z6 z7, .int .i64 z8, .string z9, .int .i64 za, .slice zb zc zd, .string ze, .slice zf zg zh, .slice zi zj zk]) (results_cell_row Tryd.results33 _ X w.heap.size 46 #[.int .i64 i1, .string i2, .slice i3 i4 i5, .slice i6 i7 i8, .slice i9 ia ib, .slice ic id ie, .int .i64 ig, .slice ih ii ij, .int .i64 z1, .int .i64 z2, .string z3, .int .i64 z4, .slice z5 z6 z7, .int .i64 z8, .string z9, .int .i64 za, .slice zb zc zd, .string ze, .slice zf zg zh, .slice zi zj zk] (0, 0) _ rfl t1 Tryd.underlying46 rfl infoItem) rfl ⟨_, rfl, ?_, t2, t3⟩
          exact ItemV.wide _ _ _ _ _ _ _ (ItemV.stable _ _ _ _ _ _ HV9.out (fun j j1 _ => t4 j (by omega))) (Nat.le_of_lt hsi) (by rw [t5]; exact Nat.le_refl _)
      | false =>
        rw [q3] at HA3
        simp only [Bool.false_eq_true, if_false] at HA3 ⊢
        clear q3
        have HQ := Lib.hid (fun w h hE => clause_any b A c ts f ne h0 h1 w k h hE hk)
        cases hq : clauseO ts ne k with
        | no i =>
          rw [hq] at HQ
          go_enter Tryd.func33, Tryd.ntmps33
          go_wp2_with fail
          go_at_call 37
          refine (HA1.out _ (HP.out.alloc _)).mono ?_
          rintro e w1 ⟨rfl, hp1, hf1⟩
          go_wp2_with fail
          go_at_call 37
          refine (HA2.out _ hp1).mono ?_
          rintro e w2 ⟨rfl, hp2, hf2⟩
          go_wp2_with fail
          go_at_call 37
          refine (HA3.out _ hp2).mono ?_
          rintro e w3 ⟨rfl, hp3, hf3⟩
          go_wp2_with fail
          go_at_call 45
          refine (HQ.out _ hp3 ((HE.out.move ((PFr.refl b w).alloc _)).move (hf1.trans (hf2.trans hf3)))).mono ?_
          rintro e w9 ⟨rfl, h2, h3⟩
          go_wp2_with fail
          exact ⟨rfl, rfl, h2, ((PFr.refl b w).alloc _).trans (hf1.trans (hf2.trans (hf3.trans h3)))⟩
        | ok x k2 =>
          rw [hq] at HQ
          go_enter Tryd.func33, Tryd.ntmps33
          go_wp2_with fail
          go_at_call 37
          refine (HA1.out _ (HP.out.alloc _)).mono ?_
          rintro e w1 ⟨rfl, hp1, hf1⟩
          go_wp2_with fail
          go_at_call 37
          refine (HA2.out _ hp1).mono ?_
          rintro e w2 ⟨rfl, hp2, hf2⟩
          go_wp2_with fail
          go_at_call 37
          refine (HA3.out _ hp2).mono ?_
          rintro e w3 ⟨rfl, hp3, hf3⟩
          go_wp2_with fail
          go_at_call 45
          refine (HQ.out _ hp3 ((HE.out.move ((PFr.refl b w).alloc _)).move (hf1.trans (hf2.trans hf3)))).mono ?_
          rintro e w9 ⟨v9, rfl, hv9, hp9, hf9⟩
          obtain ⟨i1, i2, i3, i4, i5, i6, i7, i8, i9, ia, ib, ic, id, ie, ig, ih, ii, ij, z1, z2, z3, z4, z5, z6, z7, z8, z9, za, zb, zc, zd, ze, zf, zg, zh, zi, zj, zk, rfl⟩ := ItemV.this hv9
          have HV9 := Lib.hid hv9
          clear hv9
          have HB := Lib.hid (boxI (hf1.trans (hf2.trans (hf3.trans hf9))) hbw (heap_alloc_new w _))
          have hsi : w.heap.size < w3.heap.size := (by have := (hf1.trans (hf2.trans hf3)).size; simp at this; omega)
          rename_i hKK
          refine hKK _ _ ?_
          clear hKK
          have hth : w9.there w.heap.size 0 20 := there_all HB.out
          refine wpList_store_mid rfl 46 (.tmp 2) (.tmp 24) rfl w.heap.size 0 #[.int .i64 i1, .string i2, .slice i3 i4 i5, .slice i6 i7 i8, .slice i9 ia ib, .slice ic id ie, .int .i64 ig, .slice ih ii ij, .int .i64 z1, .int .i64 z2, .string z3, .int .i64 z4, .slice z5 z6 z7, .int .i64 z8, .string z9, .int .i64 za, .slice zb zc zd, .string ze, .slice zf zg zh, .slice zi zj zk] rfl rfl hth infoItem (by simp [Value.oneCell']) ?_
          obtain ⟨t1, t2, t3, t4, t5⟩ := putAll (T := 46) HP.out (hf1.trans (hf2.trans (hf3.trans hf9))) hp9 HB.out #[.int .i64 i1, .string i2, .slice i3 i4 i5, .slice i6 i7 i8, .slice i9 ia ib, .slice ic id ie, .int .i64 ig, .slice ih ii ij, .int .i64 z1, .int .i64 z2, .string z3, .int .i64 z4, .slice z5 z6 z7, .int .i64 z8, .string z9, .int .i64 za, .slice zb zc zd, .string ze, .slice zf zg zh, .slice zi zj zk] rfl
          generalize World.setCells _ _ _ _ = X at t1 t2 t3 t4 t5 ⊢
          clear hth
          go_wp2
          refine bodyPost_ret (v := .agg #[.int .i64 i1, .string i2, .slice i3 i4 i5, .slice i6 i7 i8, .slice i9 ia ib, .slice ic id ie, .int .i64 ig, .slice ih ii ij, .int .i64 z1, .int .i64 z2, .string z3, .int .i64 z4, .slice z5 z6 z7, .int .i64 z8, .string z9, .int .i64 za, .slice zb zc zd, .string ze, .slice zf zg zh, .slice zi zj zk]) (results_cell_row Tryd.results33 _ X w.heap.size 46 #[.int .i64 i1, .string i2, .slice i3 i4 i5, .slice i6 i7 i8, .slice i9 ia ib, .slice ic id ie, .int .i64 ig, .slice ih ii ij, .int .i64 z1, .int .i64 z2, .string z3, .int .i64 z4, .slice z5 z6 z7, .int .i64 z8, .string z9, .int .i64 za, .slice zb zc zd, .string ze, .slice zf zg zh, .slice zi zj zk] (0, 0) _ rfl t1 Tryd.underlying46 rfl infoItem) rfl ⟨_, rfl, ?_, t2, t3⟩
          exact ItemV.wide _ _ _ _ _ _ _ (ItemV.stable _ _ _ _ _ _ HV9.out (fun j j1 _ => t4 j (by omega))) (Nat.le_of_lt hsi) (by rw [t5]; exact Nat.le_refl _)

end Lx
end Go.Proofs.YtacgbogedpoojabDoor
