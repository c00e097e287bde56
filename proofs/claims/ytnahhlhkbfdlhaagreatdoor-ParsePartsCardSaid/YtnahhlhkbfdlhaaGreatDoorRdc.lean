/- The contract of the reference's reader's ctor: what the parser's plain reading says. Conditions: the reader's block is its own; at most 16384 tokens, each of which is one by itself. -/
import Derived.Test.YtnahhlhkbfdlhaaGreatDoorRdl
import Derived.Test.YtnahhlhkbfdlhaaGreatDoorRowB
namespace Go.Proofs.YtnahhlhkbfdlhaaGreatDoor
set_option linter.unusedSimpArgs false
set_option linter.unusedVariables false
namespace Lx
open Go Go.RowKit

def ShCt (v : Value) : Prop := ∃ z1 z2 z3 z4, v = .agg #[.string z1, .slice z2 z3 z4]
theorem CtorV.sh : ∀ x v lo hi w, CtorV x v lo hi w → ShCt v := fun _ _ _ _ _ h => CtorV.this _ _ _ _ _ h
theorem infoCt2 : (Tryz.prog.info? 104).map (·.size) = some 2 := by kernel_rfl
theorem bs_data (y : ByteArray) : bs y.data.toList = y := by
  unfold bs
  rfl
def zeroCB (w : World) (B : Nat) : Prop := w.heap[B]? = some (.cells #[.string ⟨#[]⟩, .slice none 0 0] 104 (0, 0))
theorem box2c {w w' : World} {o : Obj} {b : Nat} {cs : Array Value} {T : TypeId} (hf : PFr b (w.alloc o) w') (hb : b < w.heap.size) (h : (w.alloc o).heap[w.heap.size]? = some (.cells cs T (0, 0))) : w'.heap[w.heap.size]? = some (.cells cs T (0, 0)) :=
  (hf.block w.heap.size (by simp) (Nat.ne_of_gt hb)).trans h
theorem rput2 {w w3 : World} {b : Nat} {A : Option Addr} {c : Nat} {ts : List Tok} {k k0 : Nat} {er er0 : Int} (h : Rd w b A c ts k0 er0) (hf : PFr b w w3) (hp : Rd w3 b A c ts k er) (hz : zeroCB w3 w.heap.size) (x0 x1 : Value) :
    ((w3.setCell ⟨w.heap.size, 0, none⟩ x0).setCell ⟨w.heap.size, 1, none⟩ x1).heap[w.heap.size]? = some (.cells #[x0, x1] 104 (0, 0)) ∧ Rd ((w3.setCell ⟨w.heap.size, 0, none⟩ x0).setCell ⟨w.heap.size, 1, none⟩ x1) b A c ts k er ∧ PFr b w ((w3.setCell ⟨w.heap.size, 0, none⟩ x0).setCell ⟨w.heap.size, 1, none⟩ x1) ∧ HiEq (w.heap.size + 1) w3 ((w3.setCell ⟨w.heap.size, 0, none⟩ x0).setCell ⟨w.heap.size, 1, none⟩ x1) := by
  have hfr := (hf.putNew (Nat.le_refl _) 0 x0).putNew (Nat.le_refl _) 1 x1
  have hn : ∀ j, j ≠ w.heap.size → ((w3.setCell ⟨w.heap.size, 0, none⟩ x0).setCell ⟨w.heap.size, 1, none⟩ x1).heap[j]? = w3.heap[j]? := fun j hj => by
    rw [Below.heap_setCell _ _ _ j hj, Below.heap_setCell _ _ _ j hj]
  refine ⟨blk_put _ _ 1 x1 (blk_put w3 _ 0 x0 hz (by show 0 < 2; decide)) (by show 1 < 2; decide), h.move hfr ((hn b (Nat.ne_of_lt h.lt)).trans hp.blk) hp.near hp.nest0 hp.nest1, hfr, ?_, fun j hj => hn j (by omega)⟩
  simp [World.setCell]
theorem ctorO_eq (ts : List Tok) (ne : Int) (k : Nat) : ctorO ts ne k = bindO (nameO ts k) (fun s k1 => bindO (argsO (typeO ts 66 ne) ts k1) (fun l k2 => .ok (.mk s l) k2)) := by
  unfold ctorO
  cases nameO ts k with
  | no i => rfl
  | ok s k1 =>
    show _ = bindO (argsO (typeO ts 66 ne) ts k1) _
    dsimp only
    cases argsO (typeO ts 66 ne) ts k1 <;> rfl
/-- An append at a step of a region that draws its order. -/
theorem step_ctor {ops : Array Oper} {o : Oper} {a : Act} {W : World} {K : Act → World → Prop} {Q : Exit → Act → World → Prop} {E : Prop} (hgd : o.guard = none) (s x : Operand)
    (ho : o.op = .call { callee := .builtin .append, args := #[s, x], argTypes := #[64, 64] })
    (base : Nat) (v : Value) (n : Nat) (xs : List Value) (hs : a.eval s = v) (hown : W.ownsRow base 104 2 v n xs) (B : Nat) (p2 : ByteArray) (p4 : Option Addr) (p5 p6 : Nat) (hx : a.eval x = .slice (some ⟨B, 0, none⟩) 1 1)
    (hB : W.heap[B]? = some (.cells #[.string p2, .slice p4 p5 p6] 104 (0, 0))) (hn : n ≤ 2000000) (hbase : base ≤ W.heap.size)
    (h : ∀ g c w', w'.ownsRow base 104 2 (.slice (some ⟨g, 0, none⟩) (n + 1) c) (n + 1) (xs ++ [.string p2, .slice p4 p5 p6]) → W.grownBy w' v.ownBlock → (v.ownBlock = some g ∨ g = W.heap.size) → K (a.put o.dst (.slice (some ⟨g, 0, none⟩) (n + 1) c)) w') :
    if Region.wanted o (yielded ops a.tmps) = true then Oper.wp Tryz.prog o a W K Q else E := by
  obtain ⟨i0, hi, hz0, hz1, hz2⟩ := info_parts infoCt
  exact step_append_lies W hgd s x _ ho base _ i0 _ 2 40 Tryz.underlying64 hi hz0 hz1 hz2 rfl (by decide) v n xs hs hown ⟨B, 0, none⟩ 1 1 [.string p2, .slice p4 p5 p6] hx rfl (World.news_of_block (cs := #[.string p2, .slice p4 p5 p6]) hB) (by simp [Value.oneCell'])
    (by omega) (by unfold maxLen; omega) (by omega) hbase _ rfl (fun g cap w' h2 h3 h4 _ => h g cap w' h2 h3 h4)
theorem step_str {ops : Array Oper} {o : Oper} {a : Act} {W : World} {K : Act → World → Prop} {Q : Exit → Act → World → Prop} {E : Prop} (hgd : o.guard = none) (s x : Operand)
    (ho : o.op = .call { callee := .builtin .append, args := #[s, x], argTypes := #[60, 60] })
    (base : Nat) (v : Value) (n : Nat) (xs : List Value) (hs : a.eval s = v) (hown : W.ownsRow base 9 1 v n xs) (B : Nat) (p2 : ByteArray) (hx : a.eval x = .slice (some ⟨B, 0, none⟩) 1 1)
    (hB : W.heap[B]? = some (.cells #[.string p2] 9 (0, 0))) (hn : n ≤ 2000000) (hbase : base ≤ W.heap.size)
    (h : ∀ g c w', w'.ownsRow base 9 1 (.slice (some ⟨g, 0, none⟩) (n + 1) c) (n + 1) (xs ++ [.string p2]) → W.grownBy w' v.ownBlock → (v.ownBlock = some g ∨ g = W.heap.size) → K (a.put o.dst (.slice (some ⟨g, 0, none⟩) (n + 1) c)) w') :
    if Region.wanted o (yielded ops a.tmps) = true then Oper.wp Tryz.prog o a W K Q else E := by
  obtain ⟨i0, hi, hz0, hz1, hz2⟩ := info_parts infoSt
  exact step_append_lies W hgd s x _ ho base _ i0 _ 1 16 Tryz.underlying60 hi hz0 hz1 hz2 rfl (by decide) v n xs hs hown ⟨B, 0, none⟩ 1 1 [.string p2] hx rfl (World.news_of_block (cs := #[.string p2]) hB) (by simp [Value.oneCell'])
    (by omega) (by unfold maxLen; omega) (by omega) hbase _ rfl (fun g cap w' h2 h3 h4 _ => h g cap w' h2 h3 h4)

set_option maxRecDepth 100000 in
set_option maxHeartbeats 8000000 in
theorem rctor_genc (b : Nat) (A : Option Addr) (c : Nat) (ts : List Tok) (hw : WF ts) : GenC 50 #[.pointer (some ⟨b, 0, none⟩)] b A c ts CtorV ShCt (ctorO ts 0) := by
  intro w k er OT hc h hk
  have HP := Lib.hid h
  have hfw := h.few
  have HWF := Lib.hid hw
  have HBW := Lib.hid h.lt
  rw [ctorO_eq] at hc
  have HN := Lib.hid (rname_cont (h.alloc (.cells #[.string ⟨#[]⟩, .slice none 0 0] 104)) hk hc)
  have HTG := Lib.hid (rtype_top b A c ts hw)
  clear h hc hk hw
  go_enter Tryz.func50, Tryz.ntmps50
  go_wp2_with fail
  go_at_call 48
  refine HN.out.mono ?_
  rintro e w2 ⟨y, k2, er2, rfl, hk2, hp2, hf2, hc2⟩
  have hc3 : Cont OT er2 (bindO (argsO (typeO ts 66 0) ts k2) (fun l k' => .ok (.mk y.data.toList l) k') = OT) := hc2.imp (fun ⟨s, e, _, h⟩ => by rw [e]; exact h)
  have HBOX := Lib.hid (heap_alloc_new w2 (.cells #[.string y, .slice none 0 0] 104))
  have HPB := Lib.hid (hp2.alloc (.cells #[.string y, .slice none 0 0] 104))
  have HKB := Lib.hid hk2
  have HCB := Lib.hid hc3
  have HFB := Lib.hid ((((PFr.refl b w).alloc _).trans hf2).alloc (.cells #[.string y, .slice none 0 0] 104))
  have hsz : w.heap.size + 1 ≤ w2.heap.size := by have := hf2.size; simpa using this
  have HBX : Hid (w.heap.size ≤ w2.heap.size) := Lib.hid (by omega)
  have HBXB : Hid (w2.heap.size < (w2.alloc (.cells #[.string y, .slice none 0 0] 104)).heap.size) := Lib.hid (by simp)
  have HRB : Hid (w.heap.size < w2.heap.size) := Lib.hid (by omega)
  have HNB : Hid (b < w2.heap.size) := Lib.hid (by have := HBW.out; omega)
  have HBB : Hid (b < (w2.alloc (.cells #[.string y, .slice none 0 0] 104)).heap.size) := Lib.hid (by have := HBW.out; simp; omega)
  have HZB : Hid (zeroCB (w2.alloc (.cells #[.string y, .slice none 0 0] 104)) w.heap.size) := Lib.hid ((Below.heap_alloc _ _ _ (by omega)).trans (box2c hf2 HBW.out (heap_alloc_new w _)))
  clear hk2 hp2 hf2 hc2 hc3 hsz
  go_wp2_with fail
  generalize w2.alloc (.cells #[.string y, .slice none 0 0] 104) = wB at HBOX HPB HFB HBXB HBB HZB ⊢
  have HST := Lib.hid (lp_start (OT := OT) (t := 49) (sz := 3) (V := TypeV 66) (rd := typeO ts 66 0) (f := fun l k' => Out.ok (CtorT.mk y.data.toList l) k') (bx := w2.heap.size) (Bx := fun v => #[.string y, v]) (T := 104) HBOX.out HPB.out HKB.out HCB.out)
  go_loopw [] (fun wr => ∃ s cap n kk er', Hid (LpI 49 3 (TypeV 66) b A c ts OT (typeO ts 66 0) (fun l k' => Out.ok (CtorT.mk y.data.toList l) k') 104 w2.heap.size (fun v => #[.string y, v]) wB wr s cap n kk er')) (fun wr => meas ts.length b wr)
  case atStart => exact ⟨none, 0, 0, _, _, HST⟩
  case round =>
    obtain ⟨s, cap, n, kk, er', hI⟩ := hrel
    have HI := hI
    clear hI HST
    have c2 := HI.out.wd.c2
    have hbox := HI.out.box
    have d3 := (Lib.cell_of_heap hbox 1).trans rfl
    clear hbox
    rcases (show er' ≠ 0 ∨ er' = 0 from (Decidable.em (er' = 0)).symm) with hne | rfl
    case' inl =>
      have hq : (er' == 0) = false := by simpa using hne
      have HXC := Lib.hid (lp_over HI.out hne)
      have HXB := Lib.hid HI.out.box
      have HXR := Lib.hid HI.out.wd
      have HXK := Lib.hid HI.out.le
      have HXF := Lib.hid HI.out.fr
      obtain ⟨W, hW⟩ : ∃ W : World, W = wr := ⟨_, rfl⟩
      rw [← hW] at HXC HXB HXR HXF c2 d3 ⊢
      obtain ⟨k3, hk3⟩ : ∃ k3 : Nat, k3 = kk := ⟨_, rfl⟩
      obtain ⟨er3, he3⟩ : ∃ er3 : Int, er3 = er' := ⟨_, rfl⟩
      rw [← hk3] at HXC HXR HXK
      rw [← he3] at HXC HXR c2 hq
      clear HI hne hW hk3 he3
    case' inr =>
      obtain ⟨acc, vs, g, m, rfl, hrow, hfu, hal, hO⟩ := HI.out.cont.ok
      have HROW := Lib.hid hrow
      have HAL := Lib.hid hal
      have hfew : acc.length ≤ 16384 := by have h2 := HI.out.le; omega
      have HM := Lib.hid (rmore_any wr b A c ts HWF.out kk acc.length HI.out.wd HI.out.le)
      have hbz : w2.heap.size < wr.heap.size := (Array.getElem?_eq_some_iff.1 HI.out.box).1
      rcases lp_more hfu HI.out.le hO with ⟨k1, m2, hm, hk1, hk1l, hfu2, hT⟩ | ⟨k1, er1, hm, hk1l, hc1⟩
      case' inl =>
        rw [hm] at HM
        have HRX := Lib.hid (fun (w3 : World) (h3 : Rd w3 b A c ts k1 0) => HTG.out.cont (typeO_fwd ts 66 0) (TypeV.sh) h3 hk1l (.inl ⟨rfl, hT⟩))
        have HK1 := Lib.hid hk1
        have HFU := Lib.hid hfu2
        clear hrow hfu hal hO hm hk1 hk1l hfu2 hT
        go_wp2_with fail
        go_at_call 49
        refine HM.out.mono ?_
        rintro e w3 ⟨rfl, hp3, hf3⟩
        have hnb : w2.heap.size ≠ b := by have := HNB.out; omega
        have d4 := (hf3.cell (p := ⟨w2.heap.size, 1, none⟩) hbz hnb).trans d3
        have hw3 : w2.heap.size < w3.heap.size := Nat.lt_of_lt_of_le hbz hf3.size
        have HOWN := Lib.hid (own_fr HROW.out.own hf3 HBB.out)
        have HR3 := Lib.hid hp3
        have HF3 := Lib.hid hf3
        clear hp3 hf3 d3 c2
        go_wp2_with fail
        go_region_law (first
          | (go_simp; go_at_call 38; refine (HRX.out _ HR3.out.drew).mono ?_; rintro e w4 ⟨v4, k4, er4, rfl, ⟨p1, p2, p4, p5, p6, rfl⟩, hk4, hp4, hf4, hc4⟩; replace hf4 := PFr.ofDrew hf4; have d5 := (hf4.cell (p := ⟨w2.heap.size, 1, none⟩) hw3 hnb).trans d4; have hw4 : w2.heap.size < w4.heap.size := Nat.lt_of_lt_of_le hw3 hf4.size; have hw5 : ¬ w2.heap.size = w4.heap.size := Nat.ne_of_lt hw4; have hw6 : ¬ w4.heap.size = w2.heap.size := fun e => hw5 e.symm)
          | ((refine step_type rfl (.tmp 20) (.tmp 23) rfl wB.heap.size (.slice s acc.length cap) acc.length (vs.flatMap cellsL) ?_ ?_ w4.heap.size p1 p2 p4 p5 p6 ?_ ?_ ?_ ?_ ?_); (rfl); (exact (own_fr HOWN.out hf4 HBB.out).alloc _); (rfl); (exact heap_alloc_new _ _); (omega); (have := hf4.size; have := HI.out.fr.size; have := HF3.out.size; simp at this ⊢; omega); (intro g2 cap2 w6 hown6 hg6 hat6; have HG6 := Lib.hid hg6; have HOW := Lib.hid hown6; have HAT := Lib.hid hat6; obtain ⟨q1, q2, q3, q4⟩ := lp_grown HP.out HFB.out HBX.out HBXB.out HI.out HROW.out (HF3.out.trans hf4) hg6; have e3 := (Lib.cell_of_heap q1 1).trans rfl; have f3 := Lib.frozen_of_heap q1 1; clear q1 q2 q3 q4 hg6 hown6 hat6)))
        all_goals
          have HLN := Lib.hid (lp_next HP.out HFB.out HBX.out HBXB.out 1 (fun _ => by show 1 < 2; decide) (fun _ _ => rfl) (TypeV.stable 66) HI.out HROW.out HAL.out (HF3.out.trans hf4) hp4 hk4 (show wr.heap.size ≤ w3.drew.heap.size from HF3.out.size) HK1.out HFU.out hc4 (v2 := .agg #[.bool p1, .string p2, .slice p4 p5 p6]) HOW.out HG6.out HAT.out)
          have HC4 := Lib.hid hc4
          have HK4 := Lib.hid hk4
          clear hf4 hp4 d4 d5 e3 f3 hk4 hc4
          go_wp2
          go_roundw
          case rel => exact ⟨_, _, _, _, _, HLN⟩
          case measure =>
            rw [meas_on HI.out.wd]
            rcases HC4.out with ⟨rfl, _, _, h5, _⟩ | ⟨i, rfl, _⟩
            · rw [meas_on HLN.out.wd]
              have h6 := HK1.out
              have h7 := HK4.out
              omega
            · rw [meas_off HLN.out.wd (erN_ne i)]
              omega
      case' inr =>
        rw [hm] at HM
        have HC1 := Lib.hid hc1
        have HXK := Lib.hid hk1l
        clear hrow hfu hal hO hm hk1l hc1
        go_wp2_with fail
        go_at_call 49
        refine HM.out.mono ?_
        rintro e W ⟨rfl, hp3, hf3⟩
        obtain ⟨HXFo, HXCo⟩ := lp_left (TypeV.stable 66) HBB.out HI.out HROW.out hf3 HC1.out
        have HXF := Lib.hid HXFo
        have HXC := Lib.hid HXCo
        have HXB := Lib.hid ((hf3.block w2.heap.size hbz (by have := HNB.out; omega)).trans HI.out.box)
        have HXR := Lib.hid hp3
        obtain ⟨n, hn⟩ : ∃ n : Nat, n = acc.length := ⟨_, rfl⟩
        rw [← hn] at HXC HXB
        obtain ⟨k3, hk3⟩ : ∃ k3 : Nat, k3 = k1 := ⟨_, rfl⟩
        obtain ⟨er3, he3⟩ : ∃ er3 : Int, er3 = er1 := ⟨_, rfl⟩
        rw [← hk3] at HXC HXR HXK
        rw [← he3] at HXC HXR
        clear hp3 hf3 HXFo HXCo HM HC1 hn hk3 he3 d3 c2 hfew hbz HROW HAL HI
    all_goals
      have hz := (HXF.out.block w.heap.size (by have := HRB.out; have := HBXB.out; omega) (by have := HBW.out; omega) (by have := HRB.out; omega)).trans HZB.out
      have hbx := HXB.out
      have d0 := (Lib.cell_of_heap hbx 0).trans rfl
      have d1 := (Lib.cell_of_heap hbx 1).trans rfl
      have x0 := (Lib.cell_of_heap hz 0).trans rfl
      have x1 := (Lib.cell_of_heap hz 1).trans rfl
      have g0 := Lib.frozen_of_heap hz 0
      have g1 := Lib.frozen_of_heap hz 1
      have HZ := Lib.hid hz
      clear hz hbx
      go_wp2_with fail
      obtain ⟨t0, t1, t2, t3⟩ := rput2 HP.out (Fr2.toPFr HFB.out HXF.out HBX.out) HXR.out HZ.out (.string y) (.slice s n cap)
      generalize ((W.setCell ⟨w.heap.size, 0, none⟩ (.string y)).setCell ⟨w.heap.size, 1, none⟩ (.slice s n cap)) = X at t0 t1 t2 t3 ⊢
      refine bodyPost_ret (v := .agg #[.string y, .slice s n cap]) (results_cell_row Tryz.results50 _ _ w.heap.size 104 #[.string y, .slice s n cap] (0, 0) _ rfl t0 Tryz.underlying104 rfl infoCt2) rfl (rends_of HXK.out ⟨_, _, _, _, rfl⟩ t1 t2 (HXC.out.imp (fun q => ?_)))
      obtain ⟨l, g1, g2⟩ := q
      refine ⟨_, ?_, g2⟩
      have e1 := HRB.out
      have e2 := HBXB.out
      have g3 := ArgsV.stable _ _ (TypeV.stable 66) _ _ _ _ _ X g1 (fun j j1 _ => t3.block j (by omega))
      exact ⟨_, by rw [bs_data], g3.wide (by omega) (by rw [t3.size]; exact Nat.le_refl _)⟩

end Lx
end Go.Proofs.YtnahhlhkbfdlhaaGreatDoor
