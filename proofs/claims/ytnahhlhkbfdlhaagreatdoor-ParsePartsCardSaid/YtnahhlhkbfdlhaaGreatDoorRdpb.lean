/- The contract of the reference's reader's Prim: a goal in brackets. Conditions: the reader's block is its own; at most 16384 tokens, each of which is one by itself. -/
import Derived.Test.YtnahhlhkbfdlhaaGreatDoorRdpa
namespace Go.Proofs.YtnahhlhkbfdlhaaGreatDoor
set_option linter.unusedSimpArgs false
set_option linter.unusedVariables false
namespace Lx
open Go Go.RowKit

set_option maxRecDepth 100000 in
set_option maxHeartbeats 4000000 in
theorem rprim_open (b : Nat) (A : Option Addr) (c : Nat) (ts : List Tok) (hw : WF ts) (d m : Nat) (ne : Int) (h0 : 0 ≤ ne) (h1 : ne ≤ 60000)
    (HR : Hid (GenC 63 #[.pointer (some ⟨b, 0, none⟩), .int .i64 (ne + 1 + 1)] b A c ts (GoalV d) ShGo (primO ts m (ne + 1)))) (w : World) (k : Nat) (er0 : Int) (OT : Out GoalT) (h : Rd w b A c ts k er0) (hk : k ≤ ts.length) (hN : nestE ts k er0 (ne + 1) = 0) (q0 : isB ts k 0 [116, 114, 117, 101] = false) (q1 : isB ts k 0 [102, 97, 105, 108] = false) (q2 : isB ts k 0 [110, 111, 116] = false) (q3 : isB ts k 0 [116, 104, 114, 111, 119] = false) (q4 : isB ts k 0 [116, 114, 121] = false) (hy : hasT ts k [40] = true) (hO : bindO (goalO (primO ts m (ne + 1)) ts (k + 1)) (fun g k' => bindO (expO ts k' [41]) (fun _ k2 => .ok g k2)) = OT) :
    Calls Tryz.prog 63 #[.pointer (some ⟨b, 0, none⟩), .int .i64 (ne + 1)] w fun e w' => REnds b A c ts (GoalV (d + 2)) ShGo w OT e w' := by
  have HP := Lib.hid h
  have HWF := Lib.hid hw
  have hfw := h.few
  have HBW := Lib.hid h.lt
  have HNE := Lib.hid (rnest_any (w.alloc (.cells #[.int .i64 0, .int .i64 0, .string ⟨#[]⟩, .int .i64 0, .slice none 0 0, .int .i64 0, .string ⟨#[]⟩, .int .i64 0, .slice none 0 0, .string ⟨#[]⟩, .slice none 0 0, .slice none 0 0] 42)) b A c ts k er0 (ne + 1) (h.alloc _))
  rw [hN] at HNE
  have HK := Lib.hid hk
  have Q0 := Lib.hid q0
  have Q1 := Lib.hid q1
  have Q2 := Lib.hid q2
  have Q3 := Lib.hid q3
  have Q4 := Lib.hid q4
  clear h hw hN hk q0 q1 q2 q3 q4
  have HY := Lib.hid hy
  have HO := Lib.hid hO
  have HK1 : Hid (k + 1 ≤ ts.length) := Lib.hid (by have := hasT_in hy (by decide); omega)
  have HGG := Lib.hid (rgoal_genc b A c ts HWF.out (ne + 1 + 1) d (primO ts m (ne + 1)) (primO_fwd ts m (ne + 1)) HR)
  clear hy hO HR
  go_enter Tryz.func63, Tryz.ntmps63
  go_wp2_with fail
  go_at_call 58
  refine HNE.out.mono ?_
  rintro e w1 ⟨rfl, hp1, hf1⟩
  have HP1 := Lib.hid hp1
  have HF1 := Lib.hid hf1
  clear hp1 hf1 HNE
  have HG := Lib.hid (rgot_not HWF.out ⟨#[116, 114, 117, 101]⟩ kw_true HP1.out HK.out Q0.out)
  go_wp2_with fail
  go_at_call 47
  refine HG.out.mono ?_
  rintro e w2 ⟨rfl, hp, hf⟩
  have HP2 := Lib.hid hp
  have HF2 := Lib.hid (HF1.out.trans hf)
  clear hp hf HG HP1 HF1 Q0
  have HG := Lib.hid (rgot_not HWF.out ⟨#[102, 97, 105, 108]⟩ kw_fail HP2.out HK.out Q1.out)
  go_wp2_with fail
  go_at_call 47
  refine HG.out.mono ?_
  rintro e w3 ⟨rfl, hp, hf⟩
  have HP3 := Lib.hid hp
  have HF3 := Lib.hid (HF2.out.trans hf)
  clear hp hf HG HP2 HF2 Q1
  have HG := Lib.hid (rgot_not HWF.out ⟨#[110, 111, 116]⟩ kw_not HP3.out HK.out Q2.out)
  go_wp2_with fail
  go_at_call 47
  refine HG.out.mono ?_
  rintro e w4 ⟨rfl, hp, hf⟩
  have HP4 := Lib.hid hp
  have HF4 := Lib.hid (HF3.out.trans hf)
  clear hp hf HG HP3 HF3 Q2
  have HG := Lib.hid (rgot_not HWF.out ⟨#[116, 104, 114, 111, 119]⟩ kw_throw HP4.out HK.out Q3.out)
  go_wp2_with fail
  go_at_call 47
  refine HG.out.mono ?_
  rintro e w5 ⟨rfl, hp, hf⟩
  have HP5 := Lib.hid hp
  have HF5 := Lib.hid (HF4.out.trans hf)
  clear hp hf HG HP4 HF4 Q3
  have HG := Lib.hid (rgot_not HWF.out ⟨#[116, 114, 121]⟩ kw_try HP5.out HK.out Q4.out)
  go_wp2_with fail
  go_at_call 47
  refine HG.out.mono ?_
  rintro e w6 ⟨rfl, hp, hf⟩
  have HP6 := Lib.hid hp
  have HF6 := Lib.hid (HF5.out.trans hf)
  clear hp hf HG HP5 HF5 Q4
  have HG := Lib.hid (rgot_yes HWF.out ⟨#[40]⟩ kw_open HP6.out HY.out)
  go_wp2_with fail
  go_at_call 47
  refine HG.out.mono ?_
  rintro e w7 ⟨rfl, hp, hf⟩
  have HP7 := Lib.hid hp
  have HF7 := Lib.hid (HF6.out.trans hf)
  clear hp hf HG HP6 HF6
  have HC := Lib.hid (HGG.out.cont (joinO_fwd (joinO_fwd (primO_fwd ts m (ne + 1)) [44] 5) [59] 6) GoalV.sh HP7.out HK1.out (.inl ⟨rfl, HO.out⟩))
  go_wp2_with fail
  go_at_call 35
  refine HC.out.mono ?_
  rintro e w9 ⟨v9, k9, er9, rfl, ⟨p1, p2, p3, p4, p5, p6, p7, p8, p9, pa, pb, pc, pd, pe, pf, pg, ph, pi, pj, pk, rfl⟩, hk9, hp9, hf9, hc9⟩
  obtain ⟨x9, hc9⟩ := Cont.pull (.mk 0 zeroT zeroT [] [] []) hc9
  have HP9 := Lib.hid hp9
  have HF9 := Lib.hid (HF7.out.trans hf9)
  have HC9 := Lib.hid hc9
  have HK9 := Lib.hid hk9
  have HS9 : Hid (w.heap.size + 1 ≤ w7.heap.size ∧ w7.heap.size ≤ w9.heap.size) := Lib.hid (by have := HF7.out.size; have := hf9.size; simp at *; omega)
  clear hp9 hf9 hc9 hk9 HC HGG HO
  have HND := Lib.hid (rneed_contQ HWF.out ⟨#[41]⟩ kw_close (HP9.out.alloc (.cells #[.int .i64 p1, .int .i64 p2, .string p3, .int .i64 p4, .slice p5 p6 p7, .int .i64 p8, .string p9, .int .i64 pa, .slice pb pc pd, .string pe, .slice pf pg ph, .slice pi pj pk] 42)) HK9.out (HC9.out.imp (fun q => (⟨q.1, q.2.2⟩ : _ ∧ _))))
  go_wp2_with fail
  go_at_call 27
  refine HND.out.mono ?_
  rintro e w10 ⟨k10, er10, rfl, hk10, hp10, hf10, hc10⟩
  have HP10 := Lib.hid hp10
  have HF10 := Lib.hid ((HF9.out.alloc _).trans hf10)
  have HC10 := Lib.hid hc10
  have HK10 := Lib.hid hk10
  have hb9 : b < w9.heap.size := by have := HBW.out; have := HS9.out; omega
  have hbx := (hf10.block w9.heap.size (by simp) (by omega)).trans (heap_alloc_new w9 (.cells #[.int .i64 p1, .int .i64 p2, .string p3, .int .i64 p4, .slice p5 p6 p7, .int .i64 p8, .string p9, .int .i64 pa, .slice pb pc pd, .string pe, .slice pf pg ph, .slice pi pj pk] 42))
  have HH10 : Hid (∀ j, b < j → j < w9.heap.size → w10.heap[j]? = w9.heap[j]?) := Lib.hid (fun j j1 j2 => (hf10.block j (by simp; omega) (by omega)).trans (Below.heap_alloc w9 _ j j2))
  have HS10 : Hid (w9.heap.size + 1 ≤ w10.heap.size) := Lib.hid (by have := hf10.size; simpa using this)
  clear hp10 hf10 hc10 hk10 HND hb9
  have hz := box12r HF10.out HBW.out (heap_alloc_new w _)
  have cz0 := (Lib.cell_of_heap hz 0).trans rfl
  have cz1 := (Lib.cell_of_heap hz 1).trans rfl
  have cz2 := (Lib.cell_of_heap hz 2).trans rfl
  have cz3 := (Lib.cell_of_heap hz 3).trans rfl
  have cz4 := (Lib.cell_of_heap hz 4).trans rfl
  have cz5 := (Lib.cell_of_heap hz 5).trans rfl
  have cz6 := (Lib.cell_of_heap hz 6).trans rfl
  have cz7 := (Lib.cell_of_heap hz 7).trans rfl
  have cz8 := (Lib.cell_of_heap hz 8).trans rfl
  have cz9 := (Lib.cell_of_heap hz 9).trans rfl
  have cz10 := (Lib.cell_of_heap hz 10).trans rfl
  have cz11 := (Lib.cell_of_heap hz 11).trans rfl
  have fz0 := Lib.frozen_of_heap hz 0
  have fz1 := Lib.frozen_of_heap hz 1
  have fz2 := Lib.frozen_of_heap hz 2
  have fz3 := Lib.frozen_of_heap hz 3
  have fz4 := Lib.frozen_of_heap hz 4
  have fz5 := Lib.frozen_of_heap hz 5
  have fz6 := Lib.frozen_of_heap hz 6
  have fz7 := Lib.frozen_of_heap hz 7
  have fz8 := Lib.frozen_of_heap hz 8
  have fz9 := Lib.frozen_of_heap hz 9
  have fz10 := Lib.frozen_of_heap hz 10
  have fz11 := Lib.frozen_of_heap hz 11
  have cb0 := (Lib.cell_of_heap hbx 0).trans rfl
  have cb1 := (Lib.cell_of_heap hbx 1).trans rfl
  have cb2 := (Lib.cell_of_heap hbx 2).trans rfl
  have cb3 := (Lib.cell_of_heap hbx 3).trans rfl
  have cb4 := (Lib.cell_of_heap hbx 4).trans rfl
  have cb5 := (Lib.cell_of_heap hbx 5).trans rfl
  have cb6 := (Lib.cell_of_heap hbx 6).trans rfl
  have cb7 := (Lib.cell_of_heap hbx 7).trans rfl
  have cb8 := (Lib.cell_of_heap hbx 8).trans rfl
  have cb9 := (Lib.cell_of_heap hbx 9).trans rfl
  have cb10 := (Lib.cell_of_heap hbx 10).trans rfl
  have cb11 := (Lib.cell_of_heap hbx 11).trans rfl
  have HZB : Hid (zeroGB w10 w.heap.size) := Lib.hid hz
  clear hz hbx
  go_wp2_with fail
  obtain ⟨t0, t1, t2, t3⟩ := rput12 HP.out (((PFr.refl b w).alloc _).trans HF10.out) HP10.out HZB.out (.int .i64 p1) (.int .i64 p2) (.string p3) (.int .i64 p4) (.slice p5 p6 p7) (.int .i64 p8) (.string p9) (.int .i64 pa) (.slice pb pc pd) (.string pe) (.slice pf pg ph) (.slice pi pj pk)
  refine bodyPost_ret (v := .agg #[.int .i64 p1, .int .i64 p2, .string p3, .int .i64 p4, .slice p5 p6 p7, .int .i64 p8, .string p9, .int .i64 pa, .slice pb pc pd, .string pe, .slice pf pg ph, .slice pi pj pk]) (results_cell_row Tryz.results63 _ _ w.heap.size 42 #[.int .i64 p1, .int .i64 p2, .string p3, .int .i64 p4, .slice p5 p6 p7, .int .i64 p8, .string p9, .int .i64 pa, .slice pb pc pd, .string pe, .slice pf pg ph, .slice pi pj pk] (0, 0) _ rfl t0 Tryz.underlying42 rfl infoGo12) rfl (rends_of HK10.out ⟨_, _, _, _, _, _, _, _, _, _, _, _, _, _, _, _, _, _, _, _, rfl⟩ t1 t2 (HC10.out.imp (fun q => ?_)))
  obtain ⟨g1, _, g2⟩ := q
  refine ⟨_, ?_, g2⟩
  have g3 := GoalV.stable _ _ _ _ _ _ w10 g1 (fun j j1 j2 => HH10.out j (by have := HBW.out; have := HS9.out; omega) j2)
  have g4 := hi_goal g3 HS9.out.1 t3
  exact GoalV.wide _ _ _ _ _ _ _ _ g4 (by have := HS9.out; omega) (by rw [t3.size]; have := HS10.out; omega)

end Lx
end Go.Proofs.YtnahhlhkbfdlhaaGreatDoor
