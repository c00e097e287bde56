/- The contract of the reference's reader's Prim: true, fail, throw, not. Conditions: the reader's block is its own; at most 16384 tokens, each of which is one by itself. -/
import Derived.Test.YtnahhlhkbfdlhaaGreatDoorRdq
namespace Go.Proofs.YtnahhlhkbfdlhaaGreatDoor
set_option linter.unusedSimpArgs false
set_option linter.unusedVariables false
namespace Lx
open Go Go.RowKit

theorem kw_true : KW (ByteArray.mk #[116, 114, 117, 101]).data.toList := ⟨by simp, 1, .inl rfl, rfl⟩
theorem kw_fail : KW (ByteArray.mk #[102, 97, 105, 108]).data.toList := ⟨by simp, 1, .inl rfl, rfl⟩
theorem kw_not : KW (ByteArray.mk #[110, 111, 116]).data.toList := ⟨by simp, 1, .inl rfl, rfl⟩
theorem kw_throw : KW (ByteArray.mk #[116, 104, 114, 111, 119]).data.toList := ⟨by simp, 1, .inl rfl, rfl⟩
theorem kw_try : KW (ByteArray.mk #[116, 114, 121]).data.toList := ⟨by simp, 1, .inl rfl, rfl⟩
theorem kw_catch : KW (ByteArray.mk #[99, 97, 116, 99, 104]).data.toList := ⟨by simp, 1, .inl rfl, rfl⟩
theorem kw_then : KW (ByteArray.mk #[116, 104, 101, 110]).data.toList := ⟨by simp, 1, .inl rfl, rfl⟩
theorem kw_eq : KW (ByteArray.mk #[61]).data.toList := ⟨by simp, 4, .inr rfl, rfl⟩
set_option maxRecDepth 100000 in
set_option maxHeartbeats 4000000 in
theorem rprim_true (b : Nat) (A : Option Addr) (c : Nat) (ts : List Tok) (hw : WF ts) (d m : Nat) (ne : Int) (h0 : 0 ≤ ne) (h1 : ne ≤ 60000) (w : World) (k : Nat) (er0 : Int) (OT : Out GoalT) (h : Rd w b A c ts k er0) (hk : k ≤ ts.length) (hN : nestE ts k er0 (ne + 1) = 0) (hy : hasT ts k [116, 114, 117, 101] = true) :
    Calls Tryz.prog 63 #[.pointer (some ⟨b, 0, none⟩), .int .i64 (ne + 1)] w fun e w' => REnds b A c ts (GoalV (d + 2)) ShGo w (.ok (.mk 1 zeroT zeroT [] [] []) (k + 1)) e w' := by
  have HP := Lib.hid h
  have HWF := Lib.hid hw
  have hfw := h.few
  have HBW := Lib.hid h.lt
  have HNE := Lib.hid (rnest_any (w.alloc (.cells #[.int .i64 0, .int .i64 0, .string ⟨#[]⟩, .int .i64 0, .slice none 0 0, .int .i64 0, .string ⟨#[]⟩, .int .i64 0, .slice none 0 0, .string ⟨#[]⟩, .slice none 0 0, .slice none 0 0] 42)) b A c ts k er0 (ne + 1) (h.alloc _))
  rw [hN] at HNE
  have HK := Lib.hid hk
  clear h hw hN hk
  have HY := Lib.hid hy
  have HK1 : Hid (k + 1 ≤ ts.length) := Lib.hid (by have := hasT_in hy (by decide); omega)
  clear hy OT
  go_enter Tryz.func63, Tryz.ntmps63
  go_wp2_with fail
  go_at_call 58
  refine HNE.out.mono ?_
  rintro e w1 ⟨rfl, hp1, hf1⟩
  have HP1 := Lib.hid hp1
  have HF1 := Lib.hid hf1
  clear hp1 hf1 HNE
  have HG := Lib.hid (rgot_yes HWF.out ⟨#[116, 114, 117, 101]⟩ kw_true HP1.out HY.out)
  go_wp2_with fail
  go_at_call 47
  refine HG.out.mono ?_
  rintro e w2 ⟨rfl, hp, hf⟩
  have HP2 := Lib.hid hp
  have HF2 := Lib.hid (HF1.out.trans hf)
  clear hp hf HG HP1 HF1
  have hz := box12r HF2.out HBW.out (heap_alloc_new w _)
  have cz0 := (Lib.cell_of_heap hz 0).trans rfl
  have cz1 := (Lib.cell_of_heap hz 1).trans rfl
  have cz2 := (Lib.cell_of_heap hz 2).trans rfl
  have cz3 := (Lib.cell_of_heap hz 3).trans rfl
  have cz4 := (Lib.cell_of_heap hz 4).trans rfl
  have cz5 := (Lib.cell_of_heap hz 5).trans rfl
  have cz6 := (Lib.cell_of_heap hz 6).trans rfl
  have cz7 := (Lib.cell_of_heap hz 7).trans rfl
  have cz8 := (Lib.cell_of_heap hz 8).trans rfl
  have cz9 := (Lib.cell_of_heap hz 9).trans rfl
  have cz10 := (Lib.cell_of_heap hz 10).trans rfl
  have cz11 := (Lib.cell_of_heap hz 11).trans rfl
  have fz0 := Lib.frozen_of_heap hz 0
  have fz1 := Lib.frozen_of_heap hz 1
  have fz2 := Lib.frozen_of_heap hz 2
  have fz3 := Lib.frozen_of_heap hz 3
  have fz4 := Lib.frozen_of_heap hz 4
  have fz5 := Lib.frozen_of_heap hz 5
  have fz6 := Lib.frozen_of_heap hz 6
  have fz7 := Lib.frozen_of_heap hz 7
  have fz8 := Lib.frozen_of_heap hz 8
  have fz9 := Lib.frozen_of_heap hz 9
  have fz10 := Lib.frozen_of_heap hz 10
  have fz11 := Lib.frozen_of_heap hz 11
  have HZB : Hid (zeroGB w2 w.heap.size) := Lib.hid hz
  clear hz
  go_wp2_with fail
  obtain ⟨t0, t1, t2, t3⟩ := rput12 HP.out (((PFr.refl b w).alloc _).trans HF2.out) HP2.out HZB.out (.int .i64 1) (.int .i64 0) (.string ⟨#[]⟩) (.int .i64 0) (.slice none 0 0) (.int .i64 0) (.string ⟨#[]⟩) (.int .i64 0) (.slice none 0 0) (.string ⟨#[]⟩) (.slice none 0 0) (.slice none 0 0)
  exact bodyPost_ret (v := .agg #[.int .i64 1, .int .i64 0, .string ⟨#[]⟩, .int .i64 0, .slice none 0 0, .int .i64 0, .string ⟨#[]⟩, .int .i64 0, .slice none 0 0, .string ⟨#[]⟩, .slice none 0 0, .slice none 0 0]) (results_cell_row Tryz.results63 _ _ w.heap.size 42 #[.int .i64 1, .int .i64 0, .string ⟨#[]⟩, .int .i64 0, .slice none 0 0, .int .i64 0, .string ⟨#[]⟩, .int .i64 0, .slice none 0 0, .string ⟨#[]⟩, .slice none 0 0, .slice none 0 0] (0, 0) _ rfl t0 Tryz.underlying42 rfl infoGo12) rfl (rends_of HK1.out ⟨_, _, _, _, _, _, _, _, _, _, _, _, _, _, _, _, _, _, _, _, rfl⟩ t1 t2 (.inl ⟨rfl, (.mk 1 zeroT zeroT [] [] []), ⟨_, _, _, _, _, _, _, _, _, _, rfl, zeroT_holds _ _ _, zeroT_holds _ _ _, .inl ⟨rfl, rfl⟩, .inl ⟨rfl, rfl⟩⟩, rfl⟩))

set_option maxRecDepth 100000 in
set_option maxHeartbeats 4000000 in
theorem rprim_fail (b : Nat) (A : Option Addr) (c : Nat) (ts : List Tok) (hw : WF ts) (d m : Nat) (ne : Int) (h0 : 0 ≤ ne) (h1 : ne ≤ 60000) (w : World) (k : Nat) (er0 : Int) (OT : Out GoalT) (h : Rd w b A c ts k er0) (hk : k ≤ ts.length) (hN : nestE ts k er0 (ne + 1) = 0) (q0 : isB ts k 0 [116, 114, 117, 101] = false) (hy : hasT ts k [102, 97, 105, 108] = true) :
    Calls Tryz.prog 63 #[.pointer (some ⟨b, 0, none⟩), .int .i64 (ne + 1)] w fun e w' => REnds b A c ts (GoalV (d + 2)) ShGo w (.ok (.mk 2 zeroT zeroT [] [] []) (k + 1)) e w' := by
  have HP := Lib.hid h
  have HWF := Lib.hid hw
  have hfw := h.few
  have HBW := Lib.hid h.lt
  have HNE := Lib.hid (rnest_any (w.alloc (.cells #[.int .i64 0, .int .i64 0, .string ⟨#[]⟩, .int .i64 0, .slice none 0 0, .int .i64 0, .string ⟨#[]⟩, .int .i64 0, .slice none 0 0, .string ⟨#[]⟩, .slice none 0 0, .slice none 0 0] 42)) b A c ts k er0 (ne + 1) (h.alloc _))
  rw [hN] at HNE
  have HK := Lib.hid hk
  have Q0 := Lib.hid q0
  clear h hw hN hk q0
  have HY := Lib.hid hy
  have HK1 : Hid (k + 1 ≤ ts.length) := Lib.hid (by have := hasT_in hy (by decide); omega)
  clear hy OT
  go_enter Tryz.func63, Tryz.ntmps63
  go_wp2_with fail
  go_at_call 58
  refine HNE.out.mono ?_
  rintro e w1 ⟨rfl, hp1, hf1⟩
  have HP1 := Lib.hid hp1
  have HF1 := Lib.hid hf1
  clear hp1 hf1 HNE
  have HG := Lib.hid (rgot_not HWF.out ⟨#[116, 114, 117, 101]⟩ kw_true HP1.out HK.out Q0.out)
  go_wp2_with fail
  go_at_call 47
  refine HG.out.mono ?_
  rintro e w2 ⟨rfl, hp, hf⟩
  have HP2 := Lib.hid hp
  have HF2 := Lib.hid (HF1.out.trans hf)
  clear hp hf HG HP1 HF1 Q0
  have HG := Lib.hid (rgot_yes HWF.out ⟨#[102, 97, 105, 108]⟩ kw_fail HP2.out HY.out)
  go_wp2_with fail
  go_at_call 47
  refine HG.out.mono ?_
  rintro e w3 ⟨rfl, hp, hf⟩
  have HP3 := Lib.hid hp
  have HF3 := Lib.hid (HF2.out.trans hf)
  clear hp hf HG HP2 HF2
  have hz := box12r HF3.out HBW.out (heap_alloc_new w _)
  have cz0 := (Lib.cell_of_heap hz 0).trans rfl
  have cz1 := (Lib.cell_of_heap hz 1).trans rfl
  have cz2 := (Lib.cell_of_heap hz 2).trans rfl
  have cz3 := (Lib.cell_of_heap hz 3).trans rfl
  have cz4 := (Lib.cell_of_heap hz 4).trans rfl
  have cz5 := (Lib.cell_of_heap hz 5).trans rfl
  have cz6 := (Lib.cell_of_heap hz 6).trans rfl
  have cz7 := (Lib.cell_of_heap hz 7).trans rfl
  have cz8 := (Lib.cell_of_heap hz 8).trans rfl
  have cz9 := (Lib.cell_of_heap hz 9).trans rfl
  have cz10 := (Lib.cell_of_heap hz 10).trans rfl
  have cz11 := (Lib.cell_of_heap hz 11).trans rfl
  have fz0 := Lib.frozen_of_heap hz 0
  have fz1 := Lib.frozen_of_heap hz 1
  have fz2 := Lib.frozen_of_heap hz 2
  have fz3 := Lib.frozen_of_heap hz 3
  have fz4 := Lib.frozen_of_heap hz 4
  have fz5 := Lib.frozen_of_heap hz 5
  have fz6 := Lib.frozen_of_heap hz 6
  have fz7 := Lib.frozen_of_heap hz 7
  have fz8 := Lib.frozen_of_heap hz 8
  have fz9 := Lib.frozen_of_heap hz 9
  have fz10 := Lib.frozen_of_heap hz 10
  have fz11 := Lib.frozen_of_heap hz 11
  have HZB : Hid (zeroGB w3 w.heap.size) := Lib.hid hz
  clear hz
  go_wp2_with fail
  obtain ⟨t0, t1, t2, t3⟩ := rput12 HP.out (((PFr.refl b w).alloc _).trans HF3.out) HP3.out HZB.out (.int .i64 2) (.int .i64 0) (.string ⟨#[]⟩) (.int .i64 0) (.slice none 0 0) (.int .i64 0) (.string ⟨#[]⟩) (.int .i64 0) (.slice none 0 0) (.string ⟨#[]⟩) (.slice none 0 0) (.slice none 0 0)
  exact bodyPost_ret (v := .agg #[.int .i64 2, .int .i64 0, .string ⟨#[]⟩, .int .i64 0, .slice none 0 0, .int .i64 0, .string ⟨#[]⟩, .int .i64 0, .slice none 0 0, .string ⟨#[]⟩, .slice none 0 0, .slice none 0 0]) (results_cell_row Tryz.results63 _ _ w.heap.size 42 #[.int .i64 2, .int .i64 0, .string ⟨#[]⟩, .int .i64 0, .slice none 0 0, .int .i64 0, .string ⟨#[]⟩, .int .i64 0, .slice none 0 0, .string ⟨#[]⟩, .slice none 0 0, .slice none 0 0] (0, 0) _ rfl t0 Tryz.underlying42 rfl infoGo12) rfl (rends_of HK1.out ⟨_, _, _, _, _, _, _, _, _, _, _, _, _, _, _, _, _, _, _, _, rfl⟩ t1 t2 (.inl ⟨rfl, (.mk 2 zeroT zeroT [] [] []), ⟨_, _, _, _, _, _, _, _, _, _, rfl, zeroT_holds _ _ _, zeroT_holds _ _ _, .inl ⟨rfl, rfl⟩, .inl ⟨rfl, rfl⟩⟩, rfl⟩))

set_option maxRecDepth 100000 in
set_option maxHeartbeats 4000000 in
theorem rprim_throw (b : Nat) (A : Option Addr) (c : Nat) (ts : List Tok) (hw : WF ts) (d m : Nat) (ne : Int) (h0 : 0 ≤ ne) (h1 : ne ≤ 60000) (w : World) (k : Nat) (er0 : Int) (OT : Out GoalT) (h : Rd w b A c ts k er0) (hk : k ≤ ts.length) (hN : nestE ts k er0 (ne + 1) = 0) (q0 : isB ts k 0 [116, 114, 117, 101] = false) (q1 : isB ts k 0 [102, 97, 105, 108] = false) (q2 : isB ts k 0 [110, 111, 116] = false) (hy : hasT ts k [116, 104, 114, 111, 119] = true) (hO : bindO (termO ts 66 (ne + 1) (k + 1)) (fun t k' => .ok (.mk 8 t zeroT [] [] []) k') = OT) :
    Calls Tryz.prog 63 #[.pointer (some ⟨b, 0, none⟩), .int .i64 (ne + 1)] w fun e w' => REnds b A c ts (GoalV (d + 2)) ShGo w OT e w' := by
  have HP := Lib.hid h
  have HWF := Lib.hid hw
  have hfw := h.few
  have HBW := Lib.hid h.lt
  have HNE := Lib.hid (rnest_any (w.alloc (.cells #[.int .i64 0, .int .i64 0, .string ⟨#[]⟩, .int .i64 0, .slice none 0 0, .int .i64 0, .string ⟨#[]⟩, .int .i64 0, .slice none 0 0, .string ⟨#[]⟩, .slice none 0 0, .slice none 0 0] 42)) b A c ts k er0 (ne + 1) (h.alloc _))
  rw [hN] at HNE
  have HK := Lib.hid hk
  have Q0 := Lib.hid q0
  have Q1 := Lib.hid q1
  have Q2 := Lib.hid q2
  clear h hw hN hk q0 q1 q2
  have HY := Lib.hid hy
  have HO := Lib.hid hO
  have HK1 : Hid (k + 1 ≤ ts.length) := Lib.hid (by have := hasT_in hy (by decide); omega)
  have HTG := Lib.hid (rterm_genc b A c ts HWF.out (ne + 1) (by omega) (by omega))
  clear hy hO
  go_enter Tryz.func63, Tryz.ntmps63
  go_wp2_with fail
  go_at_call 58
  refine HNE.out.mono ?_
  rintro e w1 ⟨rfl, hp1, hf1⟩
  have HP1 := Lib.hid hp1
  have HF1 := Lib.hid hf1
  clear hp1 hf1 HNE
  have HG := Lib.hid (rgot_not HWF.out ⟨#[116, 114, 117, 101]⟩ kw_true HP1.out HK.out Q0.out)
  go_wp2_with fail
  go_at_call 47
  refine HG.out.mono ?_
  rintro e w2 ⟨rfl, hp, hf⟩
  have HP2 := Lib.hid hp
  have HF2 := Lib.hid (HF1.out.trans hf)
  clear hp hf HG HP1 HF1 Q0
  have HG := Lib.hid (rgot_not HWF.out ⟨#[102, 97, 105, 108]⟩ kw_fail HP2.out HK.out Q1.out)
  go_wp2_with fail
  go_at_call 47
  refine HG.out.mono ?_
  rintro e w3 ⟨rfl, hp, hf⟩
  have HP3 := Lib.hid hp
  have HF3 := Lib.hid (HF2.out.trans hf)
  clear hp hf HG HP2 HF2 Q1
  have HG := Lib.hid (rgot_not HWF.out ⟨#[110, 111, 116]⟩ kw_not HP3.out HK.out Q2.out)
  go_wp2_with fail
  go_at_call 47
  refine HG.out.mono ?_
  rintro e w4 ⟨rfl, hp, hf⟩
  have HP4 := Lib.hid hp
  have HF4 := Lib.hid (HF3.out.trans hf)
  clear hp hf HG HP3 HF3 Q2
  have HG := Lib.hid (rgot_yes HWF.out ⟨#[116, 104, 114, 111, 119]⟩ kw_throw HP4.out HY.out)
  go_wp2_with fail
  go_at_call 47
  refine HG.out.mono ?_
  rintro e w5 ⟨rfl, hp, hf⟩
  have HP5 := Lib.hid hp
  have HF5 := Lib.hid (HF4.out.trans hf)
  clear hp hf HG HP4 HF4
  have HC := Lib.hid (HTG.out.cont (termO_fwd ts 66 (ne + 1)) TermV.sh HP5.out HK1.out (.inl ⟨rfl, HO.out⟩))
  go_wp2_with fail
  go_at_call 32
  refine HC.out.mono ?_
  rintro e w9 ⟨v9, k9, er9, rfl, ⟨y1, y2, y3, y4, y5, y6, rfl⟩, hk9, hp9, hf9, hc9⟩
  have HP9 := Lib.hid hp9
  have HF9 := Lib.hid (HF5.out.trans hf9)
  have HC9 := Lib.hid hc9
  have HK9 := Lib.hid hk9
  have HS9 : Hid (w.heap.size + 1 ≤ w5.heap.size) := Lib.hid (by have := HF5.out.size; simp at this; omega)
  clear hp9 hf9 hc9 hk9 HC HTG HO
  have hz := box12r HF9.out HBW.out (heap_alloc_new w _)
  have cz0 := (Lib.cell_of_heap hz 0).trans rfl
  have cz1 := (Lib.cell_of_heap hz 1).trans rfl
  have cz2 := (Lib.cell_of_heap hz 2).trans rfl
  have cz3 := (Lib.cell_of_heap hz 3).trans rfl
  have cz4 := (Lib.cell_of_heap hz 4).trans rfl
  have cz5 := (Lib.cell_of_heap hz 5).trans rfl
  have cz6 := (Lib.cell_of_heap hz 6).trans rfl
  have cz7 := (Lib.cell_of_heap hz 7).trans rfl
  have cz8 := (Lib.cell_of_heap hz 8).trans rfl
  have cz9 := (Lib.cell_of_heap hz 9).trans rfl
  have cz10 := (Lib.cell_of_heap hz 10).trans rfl
  have cz11 := (Lib.cell_of_heap hz 11).trans rfl
  have fz0 := Lib.frozen_of_heap hz 0
  have fz1 := Lib.frozen_of_heap hz 1
  have fz2 := Lib.frozen_of_heap hz 2
  have fz3 := Lib.frozen_of_heap hz 3
  have fz4 := Lib.frozen_of_heap hz 4
  have fz5 := Lib.frozen_of_heap hz 5
  have fz6 := Lib.frozen_of_heap hz 6
  have fz7 := Lib.frozen_of_heap hz 7
  have fz8 := Lib.frozen_of_heap hz 8
  have fz9 := Lib.frozen_of_heap hz 9
  have fz10 := Lib.frozen_of_heap hz 10
  have fz11 := Lib.frozen_of_heap hz 11
  have HZB : Hid (zeroGB w9 w.heap.size) := Lib.hid hz
  clear hz
  go_wp2_with fail
  obtain ⟨t0, t1, t2, t3⟩ := rput12 HP.out (((PFr.refl b w).alloc _).trans HF9.out) HP9.out HZB.out (.int .i64 8) (.int .i64 y1) (.string y2) (.int .i64 y3) (.slice y4 y5 y6) (.int .i64 0) (.string ⟨#[]⟩) (.int .i64 0) (.slice none 0 0) (.string ⟨#[]⟩) (.slice none 0 0) (.slice none 0 0)
  refine bodyPost_ret (v := .agg #[.int .i64 8, .int .i64 y1, .string y2, .int .i64 y3, .slice y4 y5 y6, .int .i64 0, .string ⟨#[]⟩, .int .i64 0, .slice none 0 0, .string ⟨#[]⟩, .slice none 0 0, .slice none 0 0]) (results_cell_row Tryz.results63 _ _ w.heap.size 42 #[.int .i64 8, .int .i64 y1, .string y2, .int .i64 y3, .slice y4 y5 y6, .int .i64 0, .string ⟨#[]⟩, .int .i64 0, .slice none 0 0, .string ⟨#[]⟩, .slice none 0 0, .slice none 0 0] (0, 0) _ rfl t0 Tryz.underlying42 rfl infoGo12) rfl (rends_of HK9.out ⟨_, _, _, _, _, _, _, _, _, _, _, _, _, _, _, _, _, _, _, _, rfl⟩ t1 t2 (HC9.out.imp (fun q => ?_)))
  obtain ⟨x, g1, _, g2⟩ := q
  refine ⟨_, ?_, g2⟩
  have g3 := TermV.stable 66 _ _ _ _ _ _ g1 (fun j j1 _ => t3.block j (by have := HS9.out; omega))
  exact ⟨_, _, _, _, _, _, _, _, _, _, rfl, TermV.wide _ _ _ _ _ _ _ _ g3 (by have := HS9.out; omega) (by rw [t3.size]; exact Nat.le_refl _), zeroT_holds _ _ _, .inl ⟨rfl, rfl⟩, .inl ⟨rfl, rfl⟩⟩

set_option maxRecDepth 100000 in
set_option maxHeartbeats 4000000 in
theorem rprim_not (b : Nat) (A : Option Addr) (c : Nat) (ts : List Tok) (hw : WF ts) (d m : Nat) (ne : Int) (h0 : 0 ≤ ne) (h1 : ne ≤ 60000)
    (HR : Hid (GenC 63 #[.pointer (some ⟨b, 0, none⟩), .int .i64 (ne + 1 + 1)] b A c ts (GoalV d) ShGo (primO ts m (ne + 1)))) (w : World) (k : Nat) (er0 : Int) (OT : Out GoalT) (h : Rd w b A c ts k er0) (hk : k ≤ ts.length) (hN : nestE ts k er0 (ne + 1) = 0) (q0 : isB ts k 0 [116, 114, 117, 101] = false) (q1 : isB ts k 0 [102, 97, 105, 108] = false) (hy : hasT ts k [110, 111, 116] = true) (hO : bindO (primO ts m (ne + 1) (k + 1)) (fun g k' => .ok (.mk 7 zeroT zeroT [] [] [g]) k') = OT) :
    Calls Tryz.prog 63 #[.pointer (some ⟨b, 0, none⟩), .int .i64 (ne + 1)] w fun e w' => REnds b A c ts (GoalV (d + 2)) ShGo w OT e w' := by
  have HP := Lib.hid h
  have HWF := Lib.hid hw
  have hfw := h.few
  have HBW := Lib.hid h.lt
  have HNE := Lib.hid (rnest_any (w.alloc (.cells #[.int .i64 0, .int .i64 0, .string ⟨#[]⟩, .int .i64 0, .slice none 0 0, .int .i64 0, .string ⟨#[]⟩, .int .i64 0, .slice none 0 0, .string ⟨#[]⟩, .slice none 0 0, .slice none 0 0] 42)) b A c ts k er0 (ne + 1) (h.alloc _))
  rw [hN] at HNE
  have HK := Lib.hid hk
  have Q0 := Lib.hid q0
  have Q1 := Lib.hid q1
  clear h hw hN hk q0 q1
  have HY := Lib.hid hy
  have HO := Lib.hid hO
  have HK1 : Hid (k + 1 ≤ ts.length) := Lib.hid (by have := hasT_in hy (by decide); omega)
  clear hy hO
  go_enter Tryz.func63, Tryz.ntmps63
  go_wp2_with fail
  go_at_call 58
  refine HNE.out.mono ?_
  rintro e w1 ⟨rfl, hp1, hf1⟩
  have HP1 := Lib.hid hp1
  have HF1 := Lib.hid hf1
  clear hp1 hf1 HNE
  have HG := Lib.hid (rgot_not HWF.out ⟨#[116, 114, 117, 101]⟩ kw_true HP1.out HK.out Q0.out)
  go_wp2_with fail
  go_at_call 47
  refine HG.out.mono ?_
  rintro e w2 ⟨rfl, hp, hf⟩
  have HP2 := Lib.hid hp
  have HF2 := Lib.hid (HF1.out.trans hf)
  clear hp hf HG HP1 HF1 Q0
  have HG := Lib.hid (rgot_not HWF.out ⟨#[102, 97, 105, 108]⟩ kw_fail HP2.out HK.out Q1.out)
  go_wp2_with fail
  go_at_call 47
  refine HG.out.mono ?_
  rintro e w3 ⟨rfl, hp, hf⟩
  have HP3 := Lib.hid hp
  have HF3 := Lib.hid (HF2.out.trans hf)
  clear hp hf HG HP2 HF2 Q1
  have HG := Lib.hid (rgot_yes HWF.out ⟨#[110, 111, 116]⟩ kw_not HP3.out HY.out)
  go_wp2_with fail
  go_at_call 47
  refine HG.out.mono ?_
  rintro e w4 ⟨rfl, hp, hf⟩
  have HP4 := Lib.hid hp
  have HF4 := Lib.hid (HF3.out.trans hf)
  clear hp hf HG HP3 HF3
  have HC := Lib.hid (HR.out.cont (primO_fwd ts m (ne + 1)) GoalV.sh HP4.out HK1.out (.inl ⟨rfl, HO.out⟩))
  go_wp2_with fail
  go_at_call 63
  refine HC.out.mono ?_
  rintro e w9 ⟨v9, k9, er9, rfl, ⟨p1, p2, p3, p4, p5, p6, p7, p8, p9, pa, pb, pc, pd, pe, pf, pg, ph, pi, pj, pk, rfl⟩, hk9, hp9, hf9, hc9⟩
  have HP9 := Lib.hid hp9
  have HF9 := Lib.hid (HF4.out.trans hf9)
  have HC9 := Lib.hid hc9
  have HK9 := Lib.hid hk9
  have HS9 : Hid (w.heap.size + 1 ≤ w4.heap.size ∧ w4.heap.size ≤ w9.heap.size) := Lib.hid (by have := HF4.out.size; have := hf9.size; simp at *; omega)
  have hlt : w.heap.size < w9.heap.size := by have := HS9.out; omega
  have hn1 : ¬ w.heap.size = w9.heap.size := by omega
  have hn2 : ¬ w9.heap.size = w.heap.size := by omega
  clear hp9 hf9 hc9 hk9 HC HR HO
  have hz := box12r HF9.out HBW.out (heap_alloc_new w _)
  have cz0 := (Lib.cell_of_heap hz 0).trans rfl
  have cz1 := (Lib.cell_of_heap hz 1).trans rfl
  have cz2 := (Lib.cell_of_heap hz 2).trans rfl
  have cz3 := (Lib.cell_of_heap hz 3).trans rfl
  have cz4 := (Lib.cell_of_heap hz 4).trans rfl
  have cz5 := (Lib.cell_of_heap hz 5).trans rfl
  have cz6 := (Lib.cell_of_heap hz 6).trans rfl
  have cz7 := (Lib.cell_of_heap hz 7).trans rfl
  have cz8 := (Lib.cell_of_heap hz 8).trans rfl
  have cz9 := (Lib.cell_of_heap hz 9).trans rfl
  have cz10 := (Lib.cell_of_heap hz 10).trans rfl
  have cz11 := (Lib.cell_of_heap hz 11).trans rfl
  have fz0 := Lib.frozen_of_heap hz 0
  have fz1 := Lib.frozen_of_heap hz 1
  have fz2 := Lib.frozen_of_heap hz 2
  have fz3 := Lib.frozen_of_heap hz 3
  have fz4 := Lib.frozen_of_heap hz 4
  have fz5 := Lib.frozen_of_heap hz 5
  have fz6 := Lib.frozen_of_heap hz 6
  have fz7 := Lib.frozen_of_heap hz 7
  have fz8 := Lib.frozen_of_heap hz 8
  have fz9 := Lib.frozen_of_heap hz 9
  have fz10 := Lib.frozen_of_heap hz 10
  have fz11 := Lib.frozen_of_heap hz 11
  have HZB : Hid (zeroGB w9 w.heap.size) := Lib.hid hz
  clear hz
  go_wp2_with fail
  obtain ⟨t0, t1, t2, t3⟩ := rput12 HP.out (((PFr.refl b w).alloc _).trans HF9.out) HP9.out HZB.out (.int .i64 7) (.int .i64 0) (.string ⟨#[]⟩) (.int .i64 0) (.slice none 0 0) (.int .i64 0) (.string ⟨#[]⟩) (.int .i64 0) (.slice none 0 0) (.string ⟨#[]⟩) (.slice none 0 0) (.slice (some ⟨w9.heap.size, 0, none⟩) 1 1)
  generalize ((((((((((((w9.setCell ⟨w.heap.size, 0, none⟩ (.int .i64 7)).setCell ⟨w.heap.size, 1, none⟩ (.int .i64 0)).setCell ⟨w.heap.size, 2, none⟩ (.string ⟨#[]⟩)).setCell ⟨w.heap.size, 3, none⟩ (.int .i64 0)).setCell ⟨w.heap.size, 4, none⟩ (.slice none 0 0)).setCell ⟨w.heap.size, 5, none⟩ (.int .i64 0)).setCell ⟨w.heap.size, 6, none⟩ (.string ⟨#[]⟩)).setCell ⟨w.heap.size, 7, none⟩ (.int .i64 0)).setCell ⟨w.heap.size, 8, none⟩ (.slice none 0 0)).setCell ⟨w.heap.size, 9, none⟩ (.string ⟨#[]⟩)).setCell ⟨w.heap.size, 10, none⟩ (.slice none 0 0)).setCell ⟨w.heap.size, 11, none⟩ (.slice (some ⟨w9.heap.size, 0, none⟩) 1 1)) = X at t0 t1 t2 t3 ⊢
  have hsz := t3.size
  have u0 := (Below.heap_alloc X (.cells #[.int .i64 p1, .int .i64 p2, .string p3, .int .i64 p4, .slice p5 p6 p7, .int .i64 p8, .string p9, .int .i64 pa, .slice pb pc pd, .string pe, .slice pf pg ph, .slice pi pj pk] 42) w.heap.size (by rw [hsz]; exact hlt)).trans t0
  refine bodyPost_ret (v := .agg #[.int .i64 7, .int .i64 0, .string ⟨#[]⟩, .int .i64 0, .slice none 0 0, .int .i64 0, .string ⟨#[]⟩, .int .i64 0, .slice none 0 0, .string ⟨#[]⟩, .slice none 0 0, .slice (some ⟨w9.heap.size, 0, none⟩) 1 1]) (results_cell_row Tryz.results63 _ _ w.heap.size 42 #[.int .i64 7, .int .i64 0, .string ⟨#[]⟩, .int .i64 0, .slice none 0 0, .int .i64 0, .string ⟨#[]⟩, .int .i64 0, .slice none 0 0, .string ⟨#[]⟩, .slice none 0 0, .slice (some ⟨w9.heap.size, 0, none⟩) 1 1] (0, 0) _ rfl u0 Tryz.underlying42 rfl infoGo12) rfl (rends_of HK9.out ⟨_, _, _, _, _, _, _, _, _, _, _, _, _, _, _, _, _, _, _, _, rfl⟩ (t1.alloc _) (t2.alloc _) (HC9.out.imp (fun q => ?_)))
  obtain ⟨x, g1, _, g2⟩ := q
  refine ⟨_, ?_, g2⟩
  have g3 := hi_goal g1 HS9.out.1 t3
  have g4 := (RowH.one (B := w.heap.size) (GoalV.stable d) g3 (by have := HS9.out; omega) (by omega) (by omega) rfl rfl : RowH 42 12 (GoalV d) _ (X.alloc (.cells #[.int .i64 p1, .int .i64 p2, .string p3, .int .i64 p4, .slice p5 p6 p7, .int .i64 p8, .string p9, .int .i64 pa, .slice pb pc pd, .string pe, .slice pf pg ph, .slice pi pj pk] 42)) _ _ _ _ _).held
  rw [hsz] at g4
  exact GoalV.succ _ _ _ _ _ _ ⟨_, _, _, _, _, _, _, _, _, _, rfl, zeroT_holds _ _ _, zeroT_holds _ _ _, .inl ⟨rfl, rfl⟩, g4⟩

end Lx
end Go.Proofs.YtnahhlhkbfdlhaaGreatDoor
