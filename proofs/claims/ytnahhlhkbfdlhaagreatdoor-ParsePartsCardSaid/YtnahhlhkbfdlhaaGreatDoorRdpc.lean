/- The contract of the reference's reader's Prim: a unification or a call. Conditions: the reader's block is its own; at most 16384 tokens, each of which is one by itself. -/
import Derived.Test.YtnahhlhkbfdlhaaGreatDoorRdpa
import Derived.Deep.RegionHeld3
namespace Go.Proofs.YtnahhlhkbfdlhaaGreatDoor
set_option linter.unusedSimpArgs false
set_option linter.unusedVariables false
namespace Lx
open Go Go.RowKit

/-- A term's cells, all at once. -/
theorem term4 {w : World} {B : Nat} {t5 t6 : Nat} {t4 : Option Addr} {t1 t3 : Int} {t2 : ByteArray} (h : w.heap[B]? = some (.cells #[.int .i64 t1, .string t2, .int .i64 t3, .slice t4 t5 t6] 35 (0, 0))) : w.cell? ⟨B, 0, none⟩ = some (.int .i64 t1) ∧ w.cell? ⟨B, 1, none⟩ = some (.string t2) ∧ w.cell? ⟨B, 2, none⟩ = some (.int .i64 t3) ∧ w.cell? ⟨B, 3, none⟩ = some (.slice t4 t5 t6) :=
  ⟨(Lib.cell_of_heap h 0).trans rfl, (Lib.cell_of_heap h 1).trans rfl, (Lib.cell_of_heap h 2).trans rfl, (Lib.cell_of_heap h 3).trans rfl⟩
theorem TermV.kindEq {d : Nat} {x : TermT} {z : Int} {a1 a2 a3 : Value} {lo hi : Nat} {w : World} (h : TermV d x (.agg #[.int .i64 z, a1, a2, a3]) lo hi w) : x.kind = z := by
  match d, x, h with
  | d + 1, .mk k s z2 l, ⟨va, hv, ha⟩ =>
    simp only [Value.agg.injEq, Array.mk.injEq, List.cons.injEq, Value.int.injEq, true_and] at hv
    exact hv.1.symm
theorem call_goal {d : Nat} {x : TermT} {y3 : Int} {y2 : ByteArray} {y4 : Option Addr} {y5 y6 lo hi : Nat} {w : World} (h : TermV 66 x (.agg #[.int .i64 3, .string y2, .int .i64 y3, .slice y4 y5 y6]) lo hi w) :
    GoalV (d + 1) (.mk 4 zeroT zeroT x.name x.args []) (.agg #[.int .i64 4, .int .i64 0, .string ⟨#[]⟩, .int .i64 0, .slice none 0 0, .int .i64 0, .string ⟨#[]⟩, .int .i64 0, .slice none 0 0, .string y2, .slice y4 y5 y6, .slice none 0 0]) lo hi w := by
  obtain ⟨g4, g5⟩ := TermV.parts (d := 65) h
  rw [g4]
  exact ⟨_, _, _, _, _, _, _, _, _, _, rfl, zeroT_holds _ _ _, zeroT_holds _ _ _, ArgsV.imp (fun x v lo hi w h => TermV.succ _ _ _ _ _ _ h) g5, .inl ⟨rfl, rfl⟩⟩
/-- The result's cells, all at once. -/
theorem zero12 {w : World} {B : Nat} (h : zeroGB w B) : w.cell? ⟨B, 0, none⟩ = some (.int .i64 0) ∧ w.cell? ⟨B, 1, none⟩ = some (.int .i64 0) ∧ w.cell? ⟨B, 2, none⟩ = some (.string ⟨#[]⟩) ∧ w.cell? ⟨B, 3, none⟩ = some (.int .i64 0) ∧ w.cell? ⟨B, 4, none⟩ = some (.slice none 0 0) ∧ w.cell? ⟨B, 5, none⟩ = some (.int .i64 0) ∧ w.cell? ⟨B, 6, none⟩ = some (.string ⟨#[]⟩) ∧ w.cell? ⟨B, 7, none⟩ = some (.int .i64 0) ∧ w.cell? ⟨B, 8, none⟩ = some (.slice none 0 0) ∧ w.cell? ⟨B, 9, none⟩ = some (.string ⟨#[]⟩) ∧ w.cell? ⟨B, 10, none⟩ = some (.slice none 0 0) ∧ w.cell? ⟨B, 11, none⟩ = some (.slice none 0 0) ∧ w.frozen? ⟨B, 0, none⟩ = false ∧ w.frozen? ⟨B, 1, none⟩ = false ∧ w.frozen? ⟨B, 2, none⟩ = false ∧ w.frozen? ⟨B, 3, none⟩ = false ∧ w.frozen? ⟨B, 4, none⟩ = false ∧ w.frozen? ⟨B, 5, none⟩ = false ∧ w.frozen? ⟨B, 6, none⟩ = false ∧ w.frozen? ⟨B, 7, none⟩ = false ∧ w.frozen? ⟨B, 8, none⟩ = false ∧ w.frozen? ⟨B, 9, none⟩ = false ∧ w.frozen? ⟨B, 10, none⟩ = false ∧ w.frozen? ⟨B, 11, none⟩ = false :=
  ⟨(Lib.cell_of_heap h 0).trans rfl, (Lib.cell_of_heap h 1).trans rfl, (Lib.cell_of_heap h 2).trans rfl, (Lib.cell_of_heap h 3).trans rfl, (Lib.cell_of_heap h 4).trans rfl, (Lib.cell_of_heap h 5).trans rfl, (Lib.cell_of_heap h 6).trans rfl, (Lib.cell_of_heap h 7).trans rfl, (Lib.cell_of_heap h 8).trans rfl, (Lib.cell_of_heap h 9).trans rfl, (Lib.cell_of_heap h 10).trans rfl, (Lib.cell_of_heap h 11).trans rfl, Lib.frozen_of_heap h 0, Lib.frozen_of_heap h 1, Lib.frozen_of_heap h 2, Lib.frozen_of_heap h 3, Lib.frozen_of_heap h 4, Lib.frozen_of_heap h 5, Lib.frozen_of_heap h 6, Lib.frozen_of_heap h 7, Lib.frozen_of_heap h 8, Lib.frozen_of_heap h 9, Lib.frozen_of_heap h 10, Lib.frozen_of_heap h 11⟩
set_option maxRecDepth 100000 in
set_option maxHeartbeats 4000000 in
theorem rprim_uoc (b : Nat) (A : Option Addr) (c : Nat) (ts : List Tok) (hw : WF ts) (d m : Nat) (ne : Int) (h0 : 0 ≤ ne) (h1 : ne ≤ 60000) (w : World) (k : Nat) (er0 er : Int) (OT : Out GoalT) (h : Rd w b A c ts k er0) (hk : k ≤ ts.length) (hN : nestE ts k er0 (ne + 1) = er) (q0 : isB ts k er [116, 114, 117, 101] = false) (q1 : isB ts k er [102, 97, 105, 108] = false) (q2 : isB ts k er [110, 111, 116] = false) (q3 : isB ts k er [116, 104, 114, 111, 119] = false) (q4 : isB ts k er [116, 114, 121] = false) (q5 : isB ts k er [40] = false) (hc : Cont OT er (bindO (termO ts 66 (ne + 1) k) (fun t k1 => if hasT ts k1 [61] = true then bindO (termO ts 66 (ne + 1) (k1 + 1)) (fun u k2 => .ok (.mk 3 t u [] [] []) k2) else if t.kind = 3 then .ok (.mk 4 zeroT zeroT t.name t.args []) k1 else .no 2) = OT)) :
    Calls Tryz.prog 63 #[.pointer (some ⟨b, 0, none⟩), .int .i64 (ne + 1)] w fun e w' => REnds b A c ts (GoalV (d + 2)) ShGo w OT e w' := by
  have HP := Lib.hid h
  have HWF := Lib.hid hw
  have hfw := h.few
  have HBW := Lib.hid h.lt
  have HNE := Lib.hid (rnest_any (w.alloc (.cells #[.int .i64 0, .int .i64 0, .string ⟨#[]⟩, .int .i64 0, .slice none 0 0, .int .i64 0, .string ⟨#[]⟩, .int .i64 0, .slice none 0 0, .string ⟨#[]⟩, .slice none 0 0, .slice none 0 0] 42)) b A c ts k er0 (ne + 1) (h.alloc _))
  rw [hN] at HNE
  have HK := Lib.hid hk
  have Q0 := Lib.hid q0
  have Q1 := Lib.hid q1
  have Q2 := Lib.hid q2
  have Q3 := Lib.hid q3
  have Q4 := Lib.hid q4
  have Q5 := Lib.hid q5
  clear h hw hN hk q0 q1 q2 q3 q4 q5
  have HC0 := Lib.hid hc
  have HTG := Lib.hid (rterm_genc b A c ts HWF.out (ne + 1) (by omega) (by omega))
  clear hc
  go_enter Tryz.func63, Tryz.ntmps63
  go_wp2_with fail
  go_at_call 58
  refine HNE.out.mono ?_
  rintro e w1 ⟨rfl, hp1, hf1⟩
  have HP1 := Lib.hid hp1
  have HF1 := Lib.hid hf1
  clear hp1 hf1 HNE
  have HG := Lib.hid (rgot_not HWF.out ⟨#[116, 114, 117, 101]⟩ kw_true HP1.out HK.out Q0.out)
  go_wp2_with fail
  go_at_call 47
  refine HG.out.mono ?_
  rintro e w2 ⟨rfl, hp, hf⟩
  have HP2 := Lib.hid hp
  have HF2 := Lib.hid (HF1.out.trans hf)
  clear hp hf HG HP1 HF1 Q0
  have HG := Lib.hid (rgot_not HWF.out ⟨#[102, 97, 105, 108]⟩ kw_fail HP2.out HK.out Q1.out)
  go_wp2_with fail
  go_at_call 47
  refine HG.out.mono ?_
  rintro e w3 ⟨rfl, hp, hf⟩
  have HP3 := Lib.hid hp
  have HF3 := Lib.hid (HF2.out.trans hf)
  clear hp hf HG HP2 HF2 Q1
  have HG := Lib.hid (rgot_not HWF.out ⟨#[110, 111, 116]⟩ kw_not HP3.out HK.out Q2.out)
  go_wp2_with fail
  go_at_call 47
  refine HG.out.mono ?_
  rintro e w4 ⟨rfl, hp, hf⟩
  have HP4 := Lib.hid hp
  have HF4 := Lib.hid (HF3.out.trans hf)
  clear hp hf HG HP3 HF3 Q2
  have HG := Lib.hid (rgot_not HWF.out ⟨#[116, 104, 114, 111, 119]⟩ kw_throw HP4.out HK.out Q3.out)
  go_wp2_with fail
  go_at_call 47
  refine HG.out.mono ?_
  rintro e w5 ⟨rfl, hp, hf⟩
  have HP5 := Lib.hid hp
  have HF5 := Lib.hid (HF4.out.trans hf)
  clear hp hf HG HP4 HF4 Q3
  have HG := Lib.hid (rgot_not HWF.out ⟨#[116, 114, 121]⟩ kw_try HP5.out HK.out Q4.out)
  go_wp2_with fail
  go_at_call 47
  refine HG.out.mono ?_
  rintro e w6 ⟨rfl, hp, hf⟩
  have HP6 := Lib.hid hp
  have HF6 := Lib.hid (HF5.out.trans hf)
  clear hp hf HG HP5 HF5 Q4
  have HG := Lib.hid (rgot_not HWF.out ⟨#[40]⟩ kw_open HP6.out HK.out Q5.out)
  go_wp2_with fail
  go_at_call 47
  refine HG.out.mono ?_
  rintro e w7 ⟨rfl, hp, hf⟩
  have HP7 := Lib.hid hp
  have HF7 := Lib.hid (HF6.out.trans hf)
  clear hp hf HG HP6 HF6 Q5
  have HC := Lib.hid (HTG.out.cont (termO_fwd ts 66 (ne + 1)) TermV.sh HP7.out HK.out HC0.out)
  go_wp2_with fail
  go_at_call 32
  refine HC.out.mono ?_
  rintro e w9 ⟨v9, k9, er9, rfl, ⟨y1, y2, y3, y4, y5, y6, rfl⟩, hk9, hp9, hf9, hc9⟩
  obtain ⟨x9, hc9⟩ := Cont.pull zeroT hc9
  have HP9 := Lib.hid hp9
  have HF9 := Lib.hid (HF7.out.trans hf9)
  have HC9 := Lib.hid hc9
  have HK9 := Lib.hid hk9
  have HS9 : Hid (w.heap.size + 1 ≤ w7.heap.size ∧ w7.heap.size ≤ w9.heap.size) := Lib.hid (by have := HF7.out.size; have := hf9.size; simp at *; omega)
  have hb9 : b < w9.heap.size := by have := HBW.out; have := HS9.out; omega
  have HB9 := Lib.hid hb9
  have hn1 : ¬ w9.heap.size = w.heap.size := by have := HS9.out; omega
  have hn2 : ¬ w.heap.size = w9.heap.size := by have := HS9.out; omega
  clear hp9 hf9 hc9 hk9 HC HC0 hb9
  cases hq : isB ts k9 er9 [61] with
  | false =>
    have HG := Lib.hid (rgot_not HWF.out ⟨#[61]⟩ kw_eq (HP9.out.alloc (.cells #[.int .i64 y1, .string y2, .int .i64 y3, .slice y4 y5 y6] 35)) HK9.out hq)
    have HQ := Lib.hid hq
    clear hq
    go_wp2_with fail
    go_at_call 47
    refine HG.out.mono ?_
    rintro e w10 ⟨rfl, hp10, hf10⟩
    have HP10 := Lib.hid hp10
    have HF10 := Lib.hid ((HF9.out.alloc _).trans hf10)
    have hbx := (hf10.block w9.heap.size (by simp) (by have := HB9.out; omega)).trans (heap_alloc_new w9 (.cells #[.int .i64 y1, .string y2, .int .i64 y3, .slice y4 y5 y6] 35))
    have HH10 : Hid (∀ j, b < j → j < w9.heap.size → w10.heap[j]? = w9.heap[j]?) := Lib.hid (fun j j1 j2 => (hf10.block j (by simp; omega) (by omega)).trans (Below.heap_alloc w9 _ j j2))
    have HS10 : Hid (w9.heap.size + 1 ≤ w10.heap.size) := Lib.hid (by have := hf10.size; simpa using this)
    have hz := box12r HF10.out HBW.out (heap_alloc_new w _)
    have HZB : Hid (zeroGB w10 w.heap.size) := Lib.hid hz
    have HBX := Lib.hid hbx
    clear hp10 hf10 HG
    obtain ⟨cb0, cb1, cb2, cb3⟩ := term4 hbx
    by_cases hy3 : y1 = 3
    · subst hy3
      obtain ⟨cz0, cz1, cz2, cz3, cz4, cz5, cz6, cz7, cz8, cz9, cz10, cz11, fz0, fz1, fz2, fz3, fz4, fz5, fz6, fz7, fz8, fz9, fz10, fz11⟩ := zero12 hz
      clear hz hbx
      go_wp2_with fail
      obtain ⟨t0, t1, t2, t3⟩ := rput12 HP.out (((PFr.refl b w).alloc _).trans HF10.out) HP10.out HZB.out (.int .i64 4) (.int .i64 0) (.string ⟨#[]⟩) (.int .i64 0) (.slice none 0 0) (.int .i64 0) (.string ⟨#[]⟩) (.int .i64 0) (.slice none 0 0) (.string y2) (.slice y4 y5 y6) (.slice none 0 0)
      refine bodyPost_ret (v := .agg #[.int .i64 4, .int .i64 0, .string ⟨#[]⟩, .int .i64 0, .slice none 0 0, .int .i64 0, .string ⟨#[]⟩, .int .i64 0, .slice none 0 0, .string y2, .slice y4 y5 y6, .slice none 0 0]) (results_cell_row Tryz.results63 _ _ w.heap.size 42 #[.int .i64 4, .int .i64 0, .string ⟨#[]⟩, .int .i64 0, .slice none 0 0, .int .i64 0, .string ⟨#[]⟩, .int .i64 0, .slice none 0 0, .string y2, .slice y4 y5 y6, .slice none 0 0] (0, 0) _ rfl t0 Tryz.underlying42 rfl infoGo12) rfl (rends_of HK9.out ⟨_, _, _, _, _, _, _, _, _, _, _, _, _, _, _, _, _, _, _, _, rfl⟩ t1 t2 ?_)
      rcases HC9.out with ⟨rfl, g1, _, g2⟩ | h
      · have hqq := HQ.out
        rw [isB_ok] at hqq
        rw [hqq, if_neg (by decide), if_pos (TermV.kindEq g1)] at g2
        refine .inl ⟨rfl, _, ?_, g2⟩
        have g3 := TermV.stable 66 _ _ _ _ _ _ g1 (fun j j1 j2 => (t3.block j (by have := HS9.out; omega)).trans (HH10.out j (by have := HBW.out; have := HS9.out; omega) j2))
        exact GoalV.wide _ _ _ _ _ _ _ _ (call_goal g3) (by have := HS9.out; omega) (by rw [t3.size]; have := HS10.out; omega)
      · exact .inr h
    · have hk3 : (y1 != 3) = true := by simpa using hy3
      have HY3 := Lib.hid hy3
      clear hz hbx hy3
      go_wp2_with fail
      go_at_call 25
      refine (rfail_any w10 b A c ts k9 er9 2 HP10.out (by decide) (by decide)).mono ?_
      rintro e w11 ⟨rfl, hp11, hf11⟩
      have HP11 := Lib.hid hp11
      have HF11 := Lib.hid (HF10.out.trans hf11)
      have hbx := (hf11.block w9.heap.size (by have := HS10.out; omega) (by have := HB9.out; omega)).trans HBX.out
      have hz := box12r HF11.out HBW.out (heap_alloc_new w _)
      have HZ11 : Hid (zeroGB w11 w.heap.size) := Lib.hid hz
      clear cb0 cb1 cb2 cb3
      obtain ⟨cb0, cb1, cb2, cb3⟩ := term4 hbx
      obtain ⟨cz0, cz1, cz2, cz3, cz4, cz5, cz6, cz7, cz8, cz9, cz10, cz11, fz0, fz1, fz2, fz3, fz4, fz5, fz6, fz7, fz8, fz9, fz10, fz11⟩ := zero12 hz
      clear hz hbx hp11 hf11
      go_wp2_with fail
      obtain ⟨t0, t1, t2, t3⟩ := rput12 HP.out (((PFr.refl b w).alloc _).trans HF11.out) HP11.out HZ11.out (.int .i64 4) (.int .i64 0) (.string ⟨#[]⟩) (.int .i64 0) (.slice none 0 0) (.int .i64 0) (.string ⟨#[]⟩) (.int .i64 0) (.slice none 0 0) (.string y2) (.slice y4 y5 y6) (.slice none 0 0)
      refine bodyPost_ret (v := .agg #[.int .i64 4, .int .i64 0, .string ⟨#[]⟩, .int .i64 0, .slice none 0 0, .int .i64 0, .string ⟨#[]⟩, .int .i64 0, .slice none 0 0, .string y2, .slice y4 y5 y6, .slice none 0 0]) (results_cell_row Tryz.results63 _ _ w.heap.size 42 #[.int .i64 4, .int .i64 0, .string ⟨#[]⟩, .int .i64 0, .slice none 0 0, .int .i64 0, .string ⟨#[]⟩, .int .i64 0, .slice none 0 0, .string y2, .slice y4 y5 y6, .slice none 0 0] (0, 0) _ rfl t0 Tryz.underlying42 rfl infoGo12) rfl (rends_of HK9.out ⟨_, _, _, _, _, _, _, _, _, _, _, _, _, _, _, _, _, _, _, _, rfl⟩ t1 t2 ?_)
      rcases HC9.out with ⟨rfl, g1, _, g2⟩ | ⟨i, rfl, rfl⟩
      · have hqq := HQ.out
        rw [isB_ok] at hqq
        rw [hqq, if_neg (by decide), if_neg (fun e => HY3.out ((TermV.kindEq g1).symm.trans e))] at g2
        exact .inr ⟨2, rfl, g2.symm⟩
      · exact .inr ⟨i, if_neg (erN_ne i), rfl⟩
  | true =>
    obtain ⟨rfl, hh⟩ : er9 = 0 ∧ hasT ts k9 [61] = true := by simpa [isB] using hq
    have HG := Lib.hid (rgot_yes HWF.out ⟨#[61]⟩ kw_eq (HP9.out.alloc (.cells #[.int .i64 y1, .string y2, .int .i64 y3, .slice y4 y5 y6] 35)) hh)
    have hin := hasT_in hh (by decide)
    have HK10 : Hid (k9 + 1 ≤ ts.length) := Lib.hid hin
    obtain ⟨g1, _, g2⟩ := HC9.out.ok
    dsimp only at g2
    rw [if_pos hh] at g2
    have HV9 := Lib.hid g1
    have HC2 := Lib.hid (fun (W : World) (h : Rd W b A c ts (k9 + 1) 0) => HTG.out.cont (termO_fwd ts 66 (ne + 1)) TermV.sh h HK10.out (.inl ⟨rfl, g2⟩))
    clear hq hh hin g1 g2 HTG
    go_wp2_with fail
    go_at_call 47
    refine HG.out.mono ?_
    rintro e w10 ⟨rfl, hp10, hf10⟩
    have HP10 := Lib.hid hp10
    have HF10 := Lib.hid ((HF9.out.alloc _).trans hf10)
    have hbx := (hf10.block w9.heap.size (by simp) (by have := HB9.out; omega)).trans (heap_alloc_new w9 (.cells #[.int .i64 y1, .string y2, .int .i64 y3, .slice y4 y5 y6] 35))
    have HH10 : Hid (∀ j, b < j → j < w9.heap.size → w10.heap[j]? = w9.heap[j]?) := Lib.hid (fun j j1 j2 => (hf10.block j (by simp; omega) (by omega)).trans (Below.heap_alloc w9 _ j j2))
    have HS10 : Hid (w9.heap.size + 1 ≤ w10.heap.size) := Lib.hid (by have := hf10.size; simpa using this)
    have HBX := Lib.hid hbx
    obtain ⟨cb0, cb1, cb2, cb3⟩ := term4 hbx
    have HWR : Hid (IntKind.i64.wrap (ne + 1 + 1) = ne + 1 + 1) := Lib.hid (IntWalk.i64_in _ (by omega))
    clear hp10 hf10 HG hbx
    go_wp2_with fail
    go_region_law (go_simp; go_at_call 32; rw [HWR.out]; refine (HC2.out _ HP10.out.drew).mono ?_; rintro e w11 ⟨v11, k11, er11, rfl, ⟨z1, z2, z3, z4, z5, z6, rfl⟩, hk11, hp11, hf11, hc11⟩; replace hf11 := PFr.ofDrew hf11; have hbx := (hf11.block w9.heap.size (by have := HS10.out; omega) (by have := HB9.out; omega)).trans HBX.out; have hz := box12r (HF10.out.trans hf11) HBW.out (heap_alloc_new w _); have HZ11 : Hid (zeroGB w11 w.heap.size) := Lib.hid hz; obtain ⟨cx0, cx1, cx2, cx3⟩ := term4 hbx; obtain ⟨cz0, cz1, cz2, cz3, cz4, cz5, cz6, cz7, cz8, cz9, cz10, cz11, fz0, fz1, fz2, fz3, fz4, fz5, fz6, fz7, fz8, fz9, fz10, fz11⟩ := zero12 hz; clear hz hbx)
    all_goals
      have HP11 := Lib.hid hp11
      have HF11 := Lib.hid hf11
      have HC11 := Lib.hid hc11
      have HK11 := Lib.hid hk11
      clear hp11 hf11 hc11 hk11
      go_wp2
      obtain ⟨t0, t1, t2, t3⟩ := rput12 HP.out (((PFr.refl b w).alloc _).trans (HF10.out.trans HF11.out)) HP11.out HZ11.out (.int .i64 3) (.int .i64 y1) (.string y2) (.int .i64 y3) (.slice y4 y5 y6) (.int .i64 z1) (.string z2) (.int .i64 z3) (.slice z4 z5 z6) (.string ⟨#[]⟩) (.slice none 0 0) (.slice none 0 0)
      generalize ((((((((((((w11.setCell ⟨w.heap.size, 0, none⟩ (.int .i64 3)).setCell ⟨w.heap.size, 1, none⟩ (.int .i64 y1)).setCell ⟨w.heap.size, 2, none⟩ (.string y2)).setCell ⟨w.heap.size, 3, none⟩ (.int .i64 y3)).setCell ⟨w.heap.size, 4, none⟩ (.slice y4 y5 y6)).setCell ⟨w.heap.size, 5, none⟩ (.int .i64 z1)).setCell ⟨w.heap.size, 6, none⟩ (.string z2)).setCell ⟨w.heap.size, 7, none⟩ (.int .i64 z3)).setCell ⟨w.heap.size, 8, none⟩ (.slice z4 z5 z6)).setCell ⟨w.heap.size, 9, none⟩ (.string ⟨#[]⟩)).setCell ⟨w.heap.size, 10, none⟩ (.slice none 0 0)).setCell ⟨w.heap.size, 11, none⟩ (.slice none 0 0)) = X at t0 t1 t2 t3 ⊢
      refine bodyPost_ret (v := .agg #[.int .i64 3, .int .i64 y1, .string y2, .int .i64 y3, .slice y4 y5 y6, .int .i64 z1, .string z2, .int .i64 z3, .slice z4 z5 z6, .string ⟨#[]⟩, .slice none 0 0, .slice none 0 0]) (results_cell_row Tryz.results63 _ _ w.heap.size 42 #[.int .i64 3, .int .i64 y1, .string y2, .int .i64 y3, .slice y4 y5 y6, .int .i64 z1, .string z2, .int .i64 z3, .slice z4 z5 z6, .string ⟨#[]⟩, .slice none 0 0, .slice none 0 0] (0, 0) _ rfl t0 Tryz.underlying42 rfl infoGo12) rfl (rends_of HK11.out ⟨_, _, _, _, _, _, _, _, _, _, _, _, _, _, _, _, _, _, _, _, rfl⟩ t1 t2 (HC11.out.imp (fun q => ?_)))
      have T3 := Lib.hid t3
      clear t0 t1 t2 t3
      obtain ⟨u, g1, _, g2⟩ := q
      refine ⟨_, ?_, g2⟩
      have e1 := HS9.out
      have e2 := HS10.out
      have e3 := HB9.out
      have e4 := HBW.out
      have e5 : w10.heap.size ≤ w11.heap.size := HF11.out.size
      have e6 : X.heap.size = w11.heap.size := T3.out.size
      have g3 : TermV 66 x9 (.agg #[.int .i64 y1, .string y2, .int .i64 y3, .slice y4 y5 y6]) w.heap.size X.heap.size X := TermV.wide _ _ _ _ _ _ _ _ (TermV.stable 66 _ _ _ _ _ X HV9.out (fun j j1 j2 => ((T3.out.block j (by omega)).trans (HF11.out.block j (by omega) (by omega))).trans (HH10.out j (by omega) j2))) (by omega) (by omega)
      have g4 : TermV 66 u (.agg #[.int .i64 z1, .string z2, .int .i64 z3, .slice z4 z5 z6]) w.heap.size X.heap.size X := TermV.wide _ _ _ _ _ _ _ _ (TermV.stable 66 _ _ _ _ _ X g1 (fun j j1 _ => T3.out.block j (by have j3 : w10.heap.size ≤ j := j1; omega))) (by show w.heap.size ≤ w10.heap.size; omega) (by omega)
      exact ⟨_, _, _, _, _, _, _, _, _, _, rfl, g3, g4, .inl ⟨rfl, rfl⟩, .inl ⟨rfl, rfl⟩⟩

end Lx
end Go.Proofs.YtnahhlhkbfdlhaaGreatDoor
