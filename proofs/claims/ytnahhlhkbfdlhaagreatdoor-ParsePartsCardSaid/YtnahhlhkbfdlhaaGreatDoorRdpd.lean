/- The contract of the reference's reader's Prim: try. Conditions: the reader's block is its own; at most 16384 tokens, each of which is one by itself. -/
import Derived.Test.YtnahhlhkbfdlhaaGreatDoorRdpc
namespace Go.Proofs.YtnahhlhkbfdlhaaGreatDoor
set_option linter.unusedSimpArgs false
set_option linter.unusedVariables false
namespace Lx
open Go Go.RowKit

/-- A goal's cells, all at once. -/
theorem goal12 {w : World} {B : Nat} {p1 p2 p4 p8 pa : Int} {p3 p9 pe : ByteArray} {p5 pb pf pi : Option Addr} {p6 p7 pc pd pg ph pj pk : Nat} (h : w.heap[B]? = some (.cells #[.int .i64 p1, .int .i64 p2, .string p3, .int .i64 p4, .slice p5 p6 p7, .int .i64 p8, .string p9, .int .i64 pa, .slice pb pc pd, .string pe, .slice pf pg ph, .slice pi pj pk] 42 (0, 0))) : w.cell? ⟨B, 0, none⟩ = some (.int .i64 p1) ∧ w.cell? ⟨B, 1, none⟩ = some (.int .i64 p2) ∧ w.cell? ⟨B, 2, none⟩ = some (.string p3) ∧ w.cell? ⟨B, 3, none⟩ = some (.int .i64 p4) ∧ w.cell? ⟨B, 4, none⟩ = some (.slice p5 p6 p7) ∧ w.cell? ⟨B, 5, none⟩ = some (.int .i64 p8) ∧ w.cell? ⟨B, 6, none⟩ = some (.string p9) ∧ w.cell? ⟨B, 7, none⟩ = some (.int .i64 pa) ∧ w.cell? ⟨B, 8, none⟩ = some (.slice pb pc pd) ∧ w.cell? ⟨B, 9, none⟩ = some (.string pe) ∧ w.cell? ⟨B, 10, none⟩ = some (.slice pf pg ph) ∧ w.cell? ⟨B, 11, none⟩ = some (.slice pi pj pk) :=
  ⟨(Lib.cell_of_heap h 0).trans rfl, (Lib.cell_of_heap h 1).trans rfl, (Lib.cell_of_heap h 2).trans rfl, (Lib.cell_of_heap h 3).trans rfl, (Lib.cell_of_heap h 4).trans rfl, (Lib.cell_of_heap h 5).trans rfl, (Lib.cell_of_heap h 6).trans rfl, (Lib.cell_of_heap h 7).trans rfl, (Lib.cell_of_heap h 8).trans rfl, (Lib.cell_of_heap h 9).trans rfl, (Lib.cell_of_heap h 10).trans rfl, (Lib.cell_of_heap h 11).trans rfl⟩
theorem Cont.pull2 {α β : Type} {OT : Out β} {er : Int} {Q : Prop} {P : α → Prop} (a : α) (h : Cont OT er (Q ∧ ∃ x, P x)) : ∃ x, Cont OT er (Q ∧ P x) := by
  rcases h with ⟨e, q, x, hx⟩ | h
  · exact ⟨x, .inl ⟨e, q, hx⟩⟩
  · exact ⟨a, .inr h⟩
theorem Rd.beside {w0 X : World} {b : Nat} {A : Option Addr} {c : Nat} {ts : List Tok} {k k0 : Nat} {er er0 : Int} (h0 : Rd w0 b A c ts k0 er0) (hf : PFr b w0 X) (hp : Rd X b A c ts k er) {N : Nat} (hN : w0.heap.size ≤ N) (i : Nat) (v : Value) : Rd (X.setCell ⟨N, i, none⟩ v) b A c ts k er :=
  h0.move (hf.putNew hN i v) ((Below.heap_setCell X ⟨N, i, none⟩ v b (by have := h0.lt; show b ≠ N; omega)).trans hp.blk) hp.near hp.nest0 hp.nest1
set_option maxRecDepth 100000 in
set_option maxHeartbeats 4000000 in
theorem rprim_try (b : Nat) (A : Option Addr) (c : Nat) (ts : List Tok) (hw : WF ts) (d m : Nat) (ne : Int) (h0 : 0 ≤ ne) (h1 : ne ≤ 60000)
    (HR : Hid (GenC 63 #[.pointer (some ⟨b, 0, none⟩), .int .i64 (ne + 1 + 1)] b A c ts (GoalV d) ShGo (primO ts m (ne + 1)))) (w : World) (k : Nat) (er0 : Int) (OT : Out GoalT) (h : Rd w b A c ts k er0) (hk : k ≤ ts.length) (hN : nestE ts k er0 (ne + 1) = 0) (q0 : isB ts k 0 [116, 114, 117, 101] = false) (q1 : isB ts k 0 [102, 97, 105, 108] = false) (q2 : isB ts k 0 [110, 111, 116] = false) (q3 : isB ts k 0 [116, 104, 114, 111, 119] = false) (hy : hasT ts k [116, 114, 121] = true) (hO : bindO (primO ts m (ne + 1) (k + 1)) (fun g k1 => bindO (expO ts k1 [99, 97, 116, 99, 104]) (fun _ k2 => bindO (varO ts k2) (fun s k3 => bindO (expO ts k3 [116, 104, 101, 110]) (fun _ k4 => bindO (primO ts m (ne + 1) k4) (fun g2 k5 => .ok (.mk 9 zeroT zeroT s [] [g, g2]) k5))))) = OT) :
    Calls Tryz.prog 63 #[.pointer (some ⟨b, 0, none⟩), .int .i64 (ne + 1)] w fun e w' => REnds b A c ts (GoalV (d + 2)) ShGo w OT e w' := by
  have HP := Lib.hid h
  have HWF := Lib.hid hw
  have hfw := h.few
  have HBW := Lib.hid h.lt
  have HNE := Lib.hid (rnest_any (w.alloc (.cells #[.int .i64 0, .int .i64 0, .string ⟨#[]⟩, .int .i64 0, .slice none 0 0, .int .i64 0, .string ⟨#[]⟩, .int .i64 0, .slice none 0 0, .string ⟨#[]⟩, .slice none 0 0, .slice none 0 0] 42)) b A c ts k er0 (ne + 1) (h.alloc _))
  rw [hN] at HNE
  have HK := Lib.hid hk
  have Q0 := Lib.hid q0
  have Q1 := Lib.hid q1
  have Q2 := Lib.hid q2
  have Q3 := Lib.hid q3
  clear h hw hN hk q0 q1 q2 q3
  have HY := Lib.hid hy
  have HO := Lib.hid hO
  have HK1 : Hid (k + 1 ≤ ts.length) := Lib.hid (by have := hasT_in hy (by decide); omega)
  clear hy hO
  go_enter Tryz.func63, Tryz.ntmps63
  go_wp2_with fail
  go_at_call 58
  refine HNE.out.mono ?_
  rintro e w1 ⟨rfl, hp1, hf1⟩
  have HP1 := Lib.hid hp1
  have HF1 := Lib.hid hf1
  clear hp1 hf1 HNE
  have HG := Lib.hid (rgot_not HWF.out ⟨#[116, 114, 117, 101]⟩ kw_true HP1.out HK.out Q0.out)
  go_wp2_with fail
  go_at_call 47
  refine HG.out.mono ?_
  rintro e w2 ⟨rfl, hp, hf⟩
  have HP2 := Lib.hid hp
  have HF2 := Lib.hid (HF1.out.trans hf)
  clear hp hf HG HP1 HF1 Q0
  have HG := Lib.hid (rgot_not HWF.out ⟨#[102, 97, 105, 108]⟩ kw_fail HP2.out HK.out Q1.out)
  go_wp2_with fail
  go_at_call 47
  refine HG.out.mono ?_
  rintro e w3 ⟨rfl, hp, hf⟩
  have HP3 := Lib.hid hp
  have HF3 := Lib.hid (HF2.out.trans hf)
  clear hp hf HG HP2 HF2 Q1
  have HG := Lib.hid (rgot_not HWF.out ⟨#[110, 111, 116]⟩ kw_not HP3.out HK.out Q2.out)
  go_wp2_with fail
  go_at_call 47
  refine HG.out.mono ?_
  rintro e w4 ⟨rfl, hp, hf⟩
  have HP4 := Lib.hid hp
  have HF4 := Lib.hid (HF3.out.trans hf)
  clear hp hf HG HP3 HF3 Q2
  have HG := Lib.hid (rgot_not HWF.out ⟨#[116, 104, 114, 111, 119]⟩ kw_throw HP4.out HK.out Q3.out)
  go_wp2_with fail
  go_at_call 47
  refine HG.out.mono ?_
  rintro e w5 ⟨rfl, hp, hf⟩
  have HP5 := Lib.hid hp
  have HF5 := Lib.hid (HF4.out.trans hf)
  clear hp hf HG HP4 HF4 Q3
  have HG := Lib.hid (rgot_yes HWF.out ⟨#[116, 114, 121]⟩ kw_try HP5.out HY.out)
  go_wp2_with fail
  go_at_call 47
  refine HG.out.mono ?_
  rintro e w6 ⟨rfl, hp, hf⟩
  have HP6 := Lib.hid hp
  have HF6 := Lib.hid (HF5.out.trans hf)
  clear hp hf HG HP5 HF5
  have HC := Lib.hid (HR.out.cont (primO_fwd ts m (ne + 1)) GoalV.sh (HP6.out.alloc (.cells #[.int .i64 9, .int .i64 0, .string ⟨#[]⟩, .int .i64 0, .slice none 0 0, .int .i64 0, .string ⟨#[]⟩, .int .i64 0, .slice none 0 0, .string ⟨#[]⟩, .slice none 0 0, .slice none 0 0] 42)) HK1.out (.inl ⟨rfl, HO.out⟩))
  go_wp2_with fail
  go_at_call 63
  refine HC.out.mono ?_
  rintro e w7 ⟨v7, k7, er7, rfl, ⟨p1, p2, p3, p4, p5, p6, p7, p8, p9, pa, pb, pc, pd, pe, pf, pg, ph, pi, pj, pk, rfl⟩, hk7, hp7, hf7, hc7⟩
  obtain ⟨x7, hc7⟩ := Cont.pull (.mk 0 zeroT zeroT [] [] []) hc7
  have HP7 := Lib.hid hp7
  have HF7 := Lib.hid ((HF6.out.alloc _).trans hf7)
  have HC7 := Lib.hid hc7
  have HK7 := Lib.hid hk7
  have HS7 : Hid (w.heap.size + 1 ≤ w6.heap.size ∧ w6.heap.size + 1 ≤ w7.heap.size) := Lib.hid (by have := HF6.out.size; have := hf7.size; simp at *; omega)
  have h5 := (hf7.block w6.heap.size (by simp) (by have := HBW.out; have := HS7.out; omega)).trans (heap_alloc_new w6 (.cells #[.int .i64 9, .int .i64 0, .string ⟨#[]⟩, .int .i64 0, .slice none 0 0, .int .i64 0, .string ⟨#[]⟩, .int .i64 0, .slice none 0 0, .string ⟨#[]⟩, .slice none 0 0, .slice none 0 0] 42))
  have H57 := Lib.hid h5
  clear hp7 hf7 hc7 hk7 HC HO h5
  have HND := Lib.hid (rneed_contQ HWF.out ⟨#[99, 97, 116, 99, 104]⟩ kw_catch (HP7.out.alloc (.cells #[.int .i64 p1, .int .i64 p2, .string p3, .int .i64 p4, .slice p5 p6 p7, .int .i64 p8, .string p9, .int .i64 pa, .slice pb pc pd, .string pe, .slice pf pg ph, .slice pi pj pk] 42)) HK7.out (HC7.out.imp (fun q => (⟨q.1, q.2.2⟩ : _ ∧ _))))
  go_wp2_with fail
  go_at_call 27
  refine HND.out.mono ?_
  rintro e w8 ⟨k8, er8, rfl, hk8, hp8, hf8, hc8⟩
  have HP8 := Lib.hid hp8
  have HF8 := Lib.hid ((HF7.out.alloc _).trans hf8)
  have HC8 := Lib.hid hc8
  have HK8 := Lib.hid hk8
  have H6 := Lib.hid ((hf8.block w7.heap.size (by simp) (by have := HBW.out; have := HS7.out; omega)).trans (heap_alloc_new w7 (.cells #[.int .i64 p1, .int .i64 p2, .string p3, .int .i64 p4, .slice p5 p6 p7, .int .i64 p8, .string p9, .int .i64 pa, .slice pb pc pd, .string pe, .slice pf pg ph, .slice pi pj pk] 42)))
  have HH8 : Hid (∀ j, b < j → j < w7.heap.size → w8.heap[j]? = w7.heap[j]?) := Lib.hid (fun j j1 j2 => (hf8.block j (by simp; omega) (by omega)).trans (Below.heap_alloc w7 _ j j2))
  have HS8 : Hid (w7.heap.size + 1 ≤ w8.heap.size) := Lib.hid (by have := hf8.size; simpa using this)
  clear hp8 hf8 hc8 hk8 HND
  have HVR := Lib.hid (rvar_contQ HP8.out HK8.out (HC8.out.imp (fun q => (⟨q.1, q.2.2⟩ : _ ∧ _))))
  go_wp2_with fail
  go_at_call 48
  refine HVR.out.mono ?_
  rintro e w9 ⟨y9, k9, er9, rfl, hk9, hp9, hf9, hc9⟩
  obtain ⟨s9, hc9⟩ := Cont.pull2 [] hc9
  have HC9 := Lib.hid hc9
  have HK9 := Lib.hid hk9
  have h5 := ((hf9.block w6.heap.size (by have := HS7.out; have := HS8.out; omega) (by have := HBW.out; have := HS7.out; omega)).trans (HH8.out w6.heap.size (by have := HBW.out; have := HS7.out; omega) (by have := HS7.out; omega))).trans H57.out
  have H59 := Lib.hid h5
  have c59 := (Lib.cell_of_heap h5 9).trans rfl
  have f59 := Lib.frozen_of_heap h5 9
  have HF9 := Lib.hid (HF8.out.trans hf9)
  have HP9 := Lib.hid hp9
  have HX9 := Lib.hid (Rd.beside HP.out (((PFr.refl b w).alloc _).trans HF9.out) HP9.out (N := w6.heap.size) (by have := HS7.out; omega) 9 (.string y9))
  have HH9 : Hid (∀ j, j < w8.heap.size → j ≠ b → w9.heap[j]? = w8.heap[j]?) := Lib.hid (fun j j1 j2 => hf9.block j j1 j2)
  have HS9 : Hid (w8.heap.size ≤ w9.heap.size) := Lib.hid hf9.size
  clear h5 hp9 hf9 hc9 hk9 HVR
  have HND := Lib.hid (rneed_contQ HWF.out ⟨#[116, 104, 101, 110]⟩ kw_then HX9.out HK9.out (HC9.out.imp (fun q => (⟨⟨q.1, q.2.1⟩, q.2.2.2⟩ : (_ ∧ _) ∧ _))))
  go_wp2_with fail
  go_at_call 27
  refine HND.out.mono ?_
  rintro e w10 ⟨k10, er10, rfl, hk10, hp10, hf10, hc10⟩
  have hsx : (w9.setCell ⟨w6.heap.size, 9, none⟩ (.string y9)).heap.size = w9.heap.size := by simp [World.setCell]
  have h5 : w10.heap[w6.heap.size]? = some (.cells #[.int .i64 9, .int .i64 0, .string ⟨#[]⟩, .int .i64 0, .slice none 0 0, .int .i64 0, .string ⟨#[]⟩, .int .i64 0, .slice none 0 0, .string y9, .slice none 0 0, .slice none 0 0] 42 (0, 0)) := (hf10.block w6.heap.size (by rw [hsx]; have := HS7.out; have := HS8.out; have := HS9.out; omega) (by have := HBW.out; have := HS7.out; omega)).trans (blk_put w9 w6.heap.size 9 _ H59.out (by show 9 < 12; decide))
  have HH10 : Hid (∀ j, j < w9.heap.size → j ≠ b → j ≠ w6.heap.size → w10.heap[j]? = w9.heap[j]?) := Lib.hid (fun j j1 j2 j3 => (hf10.block j (by rw [hsx]; exact j1) j2).trans (Below.heap_setCell _ _ _ j j3))
  have h6 := (HH10.out w7.heap.size (by have := HS7.out; have := HS8.out; have := HS9.out; omega) (by have := HBW.out; have := HS7.out; omega) (by have := HS7.out; omega)).trans ((HH9.out w7.heap.size (by have := HS8.out; omega) (by have := HBW.out; have := HS7.out; omega)).trans H6.out)
  have HF10 := Lib.hid (((((PFr.refl b w).alloc _).trans HF9.out).putNew (N := w6.heap.size) (by have := HS7.out; omega) 9 (.string y9)).trans hf10)
  have HZ10 : Hid (zeroGB w10 w.heap.size) := Lib.hid ((HH10.out w.heap.size (by have := HS7.out; have := HS8.out; have := HS9.out; omega) (by have := HBW.out; omega) (by have := HS7.out; omega)).trans (box12r HF9.out HBW.out (heap_alloc_new w _)))
  have HS10 : Hid (w9.heap.size ≤ w10.heap.size) := Lib.hid (by have := hf10.size; rw [hsx] at this; exact this)
  have HP10 := Lib.hid hp10
  have HK10 := Lib.hid hk10
  have HC10 := Lib.hid hc10
  have H510 := Lib.hid h5
  have H610 := Lib.hid h6
  obtain ⟨ca0, ca1, ca2, ca3, ca4, ca5, ca6, ca7, ca8, ca9, ca10, ca11⟩ := goal12 h6
  have c5b := (Lib.cell_of_heap h5 11).trans rfl
  have f5b := Lib.frozen_of_heap h5 11
  have HC3 := Lib.hid (fun (W : World) (h : Rd W b A c ts k10 er10) => HR.out.contQ (primO_fwd ts m (ne + 1)) GoalV.sh h HK10.out (HC10.out.imp (fun q => (⟨q.1, q.2.2⟩ : _ ∧ _))))
  have HWR : Hid (IntKind.i64.wrap (ne + 1 + 1) = ne + 1 + 1) := Lib.hid (IntWalk.i64_in _ (by omega))
  clear h5 h6 hp10 hf10 hk10 hc10 HND hsx c59 f59
  go_wp2_with fail
  go_region_law (go_simp; go_at_call 63; rw [HWR.out]; refine (HC3.out _ HP10.out.drew).mono ?_; rintro e w11 ⟨v11, k11, er11, rfl, ⟨z1, z2, z3, z4, z5, z6, z7, z8, z9, za, zb, zc, zd, ze, zf, zg, zh, zi, zj, zk, rfl⟩, hk11, hp11, hf11, hc11⟩; replace hf11 := PFr.ofDrew hf11; have h5 := (hf11.block w6.heap.size (by have := HS7.out; have := HS8.out; have := HS9.out; have := HS10.out; omega) (by have := HBW.out; have := HS7.out; omega)).trans H510.out; have h6 := (hf11.block w7.heap.size (by have := HS7.out; have := HS8.out; have := HS9.out; have := HS10.out; omega) (by have := HBW.out; have := HS7.out; omega)).trans H610.out; obtain ⟨cb0, cb1, cb2, cb3, cb4, cb5, cb6, cb7, cb8, cb9, cb10, cb11⟩ := goal12 h6; have d5b := (Lib.cell_of_heap h5 11).trans rfl; have e5b := Lib.frozen_of_heap h5 11; have hl5 : w6.heap.size < w11.heap.size := (by have := hf11.size; have := HS7.out; have := HS8.out; have := HS9.out; have := HS10.out; omega); have hl6 : ¬ w6.heap.size = w11.heap.size := Nat.ne_of_lt hl5; have hl7 : ¬ w11.heap.size = w6.heap.size := fun e => hl6 e.symm; have H511 := Lib.hid h5; clear h5 h6)
  all_goals
    have HP11 := Lib.hid hp11
    have HF11 := Lib.hid hf11
    have HC11 := Lib.hid hc11
    have HK11 := Lib.hid hk11
    have e1 := HS7.out
    have e2 := HS8.out
    have e3 := HS9.out
    have e4 := HS10.out
    have e5 : w10.heap.size ≤ w11.heap.size := hf11.size
    have e6 := HBW.out
    clear hp11 hf11 hc11 hk11 ca0 ca1 ca2 ca3 ca4 ca5 ca6 ca7 ca8 ca9 ca10 ca11 cb0 cb1 cb2 cb3 cb4 cb5 cb6 cb7 cb8 cb9 cb10 cb11 c5b f5b d5b e5b
    have hsz : (w11.setCell ⟨w6.heap.size, 11, none⟩ (.slice (some ⟨w11.heap.size, 0, none⟩) 2 2)).heap.size = w11.heap.size := by simp [World.setCell]
    have hblk : ∀ j, j < w11.heap.size → j ≠ w6.heap.size → ((w11.setCell ⟨w6.heap.size, 11, none⟩ (.slice (some ⟨w11.heap.size, 0, none⟩) 2 2)).alloc (.cells #[.int .i64 p1, .int .i64 p2, .string p3, .int .i64 p4, .slice p5 p6 p7, .int .i64 p8, .string p9, .int .i64 pa, .slice pb pc pd, .string pe, .slice pf pg ph, .slice pi pj pk, .int .i64 z1, .int .i64 z2, .string z3, .int .i64 z4, .slice z5 z6 z7, .int .i64 z8, .string z9, .int .i64 za, .slice zb zc zd, .string ze, .slice zf zg zh, .slice zi zj zk] 42)).heap[j]? = w11.heap[j]? := fun j j1 j2 => (Below.heap_alloc _ _ j (by rw [hsz]; exact j1)).trans (Below.heap_setCell _ _ _ j j2)
    have h5 : ((w11.setCell ⟨w6.heap.size, 11, none⟩ (.slice (some ⟨w11.heap.size, 0, none⟩) 2 2)).alloc (.cells #[.int .i64 p1, .int .i64 p2, .string p3, .int .i64 p4, .slice p5 p6 p7, .int .i64 p8, .string p9, .int .i64 pa, .slice pb pc pd, .string pe, .slice pf pg ph, .slice pi pj pk, .int .i64 z1, .int .i64 z2, .string z3, .int .i64 z4, .slice z5 z6 z7, .int .i64 z8, .string z9, .int .i64 za, .slice zb zc zd, .string ze, .slice zf zg zh, .slice zi zj zk] 42)).heap[w6.heap.size]? = some (.cells #[.int .i64 9, .int .i64 0, .string ⟨#[]⟩, .int .i64 0, .slice none 0 0, .int .i64 0, .string ⟨#[]⟩, .int .i64 0, .slice none 0 0, .string y9, .slice none 0 0, .slice (some ⟨w11.heap.size, 0, none⟩) 2 2] 42 (0, 0)) := (Below.heap_alloc _ _ _ (by rw [hsz]; exact hl5)).trans (blk_put w11 w6.heap.size 11 _ H511.out (by show 11 < 12; decide))
    have hz : zeroGB ((w11.setCell ⟨w6.heap.size, 11, none⟩ (.slice (some ⟨w11.heap.size, 0, none⟩) 2 2)).alloc (.cells #[.int .i64 p1, .int .i64 p2, .string p3, .int .i64 p4, .slice p5 p6 p7, .int .i64 p8, .string p9, .int .i64 pa, .slice pb pc pd, .string pe, .slice pf pg ph, .slice pi pj pk, .int .i64 z1, .int .i64 z2, .string z3, .int .i64 z4, .slice z5 z6 z7, .int .i64 z8, .string z9, .int .i64 za, .slice zb zc zd, .string ze, .slice zf zg zh, .slice zi zj zk] 42)) w.heap.size := (hblk w.heap.size (by omega) (by omega)).trans ((HF11.out.block w.heap.size (by omega) (by omega)).trans HZ10.out)
    have hrd := (Rd.beside HP.out (HF10.out.trans HF11.out) HP11.out (N := w6.heap.size) (by omega) 11 (.slice (some ⟨w11.heap.size, 0, none⟩) 2 2)).alloc (.cells #[.int .i64 p1, .int .i64 p2, .string p3, .int .i64 p4, .slice p5 p6 p7, .int .i64 p8, .string p9, .int .i64 pa, .slice pb pc pd, .string pe, .slice pf pg ph, .slice pi pj pk, .int .i64 z1, .int .i64 z2, .string z3, .int .i64 z4, .slice z5 z6 z7, .int .i64 z8, .string z9, .int .i64 za, .slice zb zc zd, .string ze, .slice zf zg zh, .slice zi zj zk] 42)
    have hfr := ((HF10.out.trans HF11.out).putNew (N := w6.heap.size) (by omega) 11 (.slice (some ⟨w11.heap.size, 0, none⟩) 2 2)).alloc (.cells #[.int .i64 p1, .int .i64 p2, .string p3, .int .i64 p4, .slice p5 p6 p7, .int .i64 p8, .string p9, .int .i64 pa, .slice pb pc pd, .string pe, .slice pf pg ph, .slice pi pj pk, .int .i64 z1, .int .i64 z2, .string z3, .int .i64 z4, .slice z5 z6 z7, .int .i64 z8, .string z9, .int .i64 za, .slice zb zc zd, .string ze, .slice zf zg zh, .slice zi zj zk] 42)
    have hys : ((w11.setCell ⟨w6.heap.size, 11, none⟩ (.slice (some ⟨w11.heap.size, 0, none⟩) 2 2)).alloc (.cells #[.int .i64 p1, .int .i64 p2, .string p3, .int .i64 p4, .slice p5 p6 p7, .int .i64 p8, .string p9, .int .i64 pa, .slice pb pc pd, .string pe, .slice pf pg ph, .slice pi pj pk, .int .i64 z1, .int .i64 z2, .string z3, .int .i64 z4, .slice z5 z6 z7, .int .i64 z8, .string z9, .int .i64 za, .slice zb zc zd, .string ze, .slice zf zg zh, .slice zi zj zk] 42)).heap.size = w11.heap.size + 1 := by rw [show ∀ (x : World) (o : Obj), (x.alloc o).heap.size = x.heap.size + 1 from fun x o => by simp, hsz]
    have hrow : Cont OT er11 ((∃ q : _ , ArgsV 42 12 (GoalV d) [x7, q] (.slice (some ⟨w11.heap.size, 0, none⟩) 2 2) (w.heap.size + 1) (w11.heap.size + 1) ((w11.setCell ⟨w6.heap.size, 11, none⟩ (.slice (some ⟨w11.heap.size, 0, none⟩) 2 2)).alloc (.cells #[.int .i64 p1, .int .i64 p2, .string p3, .int .i64 p4, .slice p5 p6 p7, .int .i64 p8, .string p9, .int .i64 pa, .slice pb pc pd, .string pe, .slice pf pg ph, .slice pi pj pk, .int .i64 z1, .int .i64 z2, .string z3, .int .i64 z4, .slice z5 z6 z7, .int .i64 z8, .string z9, .int .i64 za, .slice zb zc zd, .string ze, .slice zf zg zh, .slice zi zj zk] 42)) ∧ .ok (.mk 9 zeroT zeroT s9 [] [x7, q]) k11 = OT) ∧ y9 = bs s9) := HC11.out.imp (fun q => by
      obtain ⟨⟨q1, q2⟩, x11, q3, _, q4⟩ := q
      refine ⟨⟨x11, .inr (rowLit (l := [x7, x11]) (vs := [.agg #[.int .i64 p1, .int .i64 p2, .string p3, .int .i64 p4, .slice p5 p6 p7, .int .i64 p8, .string p9, .int .i64 pa, .slice pb pc pd, .string pe, .slice pf pg ph, .slice pi pj pk], .agg #[.int .i64 z1, .int .i64 z2, .string z3, .int .i64 z4, .slice z5 z6 z7, .int .i64 z8, .string z9, .int .i64 za, .slice zb zc zd, .string ze, .slice zf zg zh, .slice zi zj zk]]) (V := GoalV d) (sz := 12) hsz (by omega) rfl rfl (by show 2 ≤ maxLen; decide) ⟨⟨w6.heap.size + 1, w7.heap.size, by omega, by omega, by omega, ?_⟩, ⟨w10.heap.size, w11.heap.size, by omega, Nat.le_refl _, by omega, ?_⟩, trivial⟩), q4⟩, q2⟩
      · have q5 := GoalV.wide _ _ _ _ _ (w6.heap.size + 1) w7.heap.size _ q1 (by simp) (Nat.le_refl _)
        exact GoalV.stable d _ _ _ _ _ _ q5 (fun j j1 j2 => (hblk j (by omega) (by omega)).trans ((HF11.out.block j (by omega) (by omega)).trans ((HH10.out j (by omega) (by omega) (by omega)).trans ((HH9.out j (by omega) (by omega)).trans (HH8.out j (by omega) j2)))))
      · exact GoalV.stable d _ _ _ _ _ _ q3 (fun j j1 j2 => hblk j j2 (by have j3 : w10.heap.size ≤ j := j1; omega)))
    generalize (w11.setCell ⟨w6.heap.size, 11, none⟩ (.slice (some ⟨w11.heap.size, 0, none⟩) 2 2)).alloc (.cells #[.int .i64 p1, .int .i64 p2, .string p3, .int .i64 p4, .slice p5 p6 p7, .int .i64 p8, .string p9, .int .i64 pa, .slice pb pc pd, .string pe, .slice pf pg ph, .slice pi pj pk, .int .i64 z1, .int .i64 z2, .string z3, .int .i64 z4, .slice z5 z6 z7, .int .i64 z8, .string z9, .int .i64 za, .slice zb zc zd, .string ze, .slice zf zg zh, .slice zi zj zk] 42) = Y at hblk h5 hz hrd hfr hys hrow ⊢
    have HRD := Lib.hid hrd
    have HFR := Lib.hid hfr
    have HROW := Lib.hid hrow
    have HZY := Lib.hid hz
    have HYS := Lib.hid hys
    have HK12 := Lib.hid HK11.out
    obtain ⟨ca0, ca1, ca2, ca3, ca4, ca5, ca6, ca7, ca8, ca9, ca10, ca11⟩ := goal12 h5
    obtain ⟨cz0, cz1, cz2, cz3, cz4, cz5, cz6, cz7, cz8, cz9, cz10, cz11, fz0, fz1, fz2, fz3, fz4, fz5, fz6, fz7, fz8, fz9, fz10, fz11⟩ := zero12 hz
    clear hblk h5 hz hrd hfr hrow hys hsz hl5 hl6 hl7 e1 e2 e3 e4 e5 e6 HC11 HC3
    go_wp2_with fail
    obtain ⟨t0, t1, t2, t3⟩ := rput12 HP.out HFR.out HRD.out HZY.out (.int .i64 9) (.int .i64 0) (.string ⟨#[]⟩) (.int .i64 0) (.slice none 0 0) (.int .i64 0) (.string ⟨#[]⟩) (.int .i64 0) (.slice none 0 0) (.string y9) (.slice none 0 0) (.slice (some ⟨w11.heap.size, 0, none⟩) 2 2)
    generalize ((((((((((((Y.setCell ⟨w.heap.size, 0, none⟩ (.int .i64 9)).setCell ⟨w.heap.size, 1, none⟩ (.int .i64 0)).setCell ⟨w.heap.size, 2, none⟩ (.string ⟨#[]⟩)).setCell ⟨w.heap.size, 3, none⟩ (.int .i64 0)).setCell ⟨w.heap.size, 4, none⟩ (.slice none 0 0)).setCell ⟨w.heap.size, 5, none⟩ (.int .i64 0)).setCell ⟨w.heap.size, 6, none⟩ (.string ⟨#[]⟩)).setCell ⟨w.heap.size, 7, none⟩ (.int .i64 0)).setCell ⟨w.heap.size, 8, none⟩ (.slice none 0 0)).setCell ⟨w.heap.size, 9, none⟩ (.string y9)).setCell ⟨w.heap.size, 10, none⟩ (.slice none 0 0)).setCell ⟨w.heap.size, 11, none⟩ (.slice (some ⟨w11.heap.size, 0, none⟩) 2 2)) = X at t0 t1 t2 t3 ⊢
    refine bodyPost_ret (v := .agg #[.int .i64 9, .int .i64 0, .string ⟨#[]⟩, .int .i64 0, .slice none 0 0, .int .i64 0, .string ⟨#[]⟩, .int .i64 0, .slice none 0 0, .string y9, .slice none 0 0, .slice (some ⟨w11.heap.size, 0, none⟩) 2 2]) (results_cell_row Tryz.results63 _ _ w.heap.size 42 #[.int .i64 9, .int .i64 0, .string ⟨#[]⟩, .int .i64 0, .slice none 0 0, .int .i64 0, .string ⟨#[]⟩, .int .i64 0, .slice none 0 0, .string y9, .slice none 0 0, .slice (some ⟨w11.heap.size, 0, none⟩) 2 2] (0, 0) _ rfl t0 Tryz.underlying42 rfl infoGo12) rfl (rends_of HK12.out ⟨_, _, _, _, _, _, _, _, _, _, _, _, _, _, _, _, _, _, _, _, rfl⟩ t1 t2 (HROW.out.imp (fun q => ?_)))
    obtain ⟨⟨x11, q1, q2⟩, q3⟩ := q
    refine ⟨_, ?_, q2⟩
    rw [q3]
    have q4 := (hi_row (GoalV.stable d) q1 (Nat.le_refl _) t3).wide (lo' := w.heap.size) (hi' := X.heap.size) (by omega) (by rw [t3.size, HYS.out]; exact Nat.le_refl _)
    exact GoalV.succ _ _ _ _ _ _ ⟨_, _, _, _, _, _, _, _, _, _, rfl, zeroT_holds _ _ _, zeroT_holds _ _ _, .inl ⟨rfl, rfl⟩, q4⟩

end Lx
end Go.Proofs.YtnahhlhkbfdlhaaGreatDoor
