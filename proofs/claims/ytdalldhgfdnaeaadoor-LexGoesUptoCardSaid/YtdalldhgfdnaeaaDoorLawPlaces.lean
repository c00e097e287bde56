/- The walk of the statement LexPlaces: it returns true. Conditions: the error variables hold an error; strconv's variables hold what they should. -/
import Derived.Test.YtdalldhgfdnaeaaDoorSrc
import Derived.Test.YtdalldhgfdnaeaaDoorRefWord
import Derived.Test.YtdalldhgfdnaeaaDoorIter
import Derived.Test.YtdalldhgfdnaeaaDoorPlainRise
import Derived.Test.YtdalldhgfdnaeaaDoorRoundQuiet
namespace Go.Proofs.YtdalldhgfdnaeaaDoor
namespace Lx
open Go Go.RowKit Go.Shelf Go.BigFrame
attribute [local go_sem] Oper.semAt_some

/-- What is known of a token of the text. -/
theorem tokOf_facts (s : ByteArray) (x : TokOf s) : s.size ≤ 16384 ∧ x.1.1 + (bs x.1.2.text).size ≤ s.size ∧ s.extract x.1.1 (x.1.1 + (bs x.1.2.text).size) = bs x.1.2.text ∧ 0 < (bs x.1.2.text).size := by
  obtain ⟨x, hx⟩ := x
  show s.size ≤ 16384 ∧ x.1 + (bs x.2.text).size ≤ s.size ∧ s.extract x.1 (x.1 + (bs x.2.text).size) = bs x.2.text ∧ 0 < (bs x.2.text).size
  unfold lexU at hx
  split at hx
  · rename_i hs
    obtain ⟨h1, h2, h3⟩ := (rise_all s.data.toList).mem x hx
    have hl : s.data.toList.length = s.size := by simp
    rw [bs_size]
    refine ⟨hs, by omega, ?_, h3⟩
    rw [ext_bs, show x.1 + x.2.text.length - x.1 = x.2.text.length by omega, h2]
  · cases hx

theorem boxed_keep {W W' : World} {row : Option Nat} {B : Nat} {t : TypeId} {v : Value} (h : Boxed W B t v) (hg : W.grownBy W' row) (hr : ∀ r, row = some r → ∃ o : Obj, W.heap[r]? = some o ∧ o.isCells = false) : Boxed W' B t v :=
  boxed_own B t (fun _ : Unit => v) () W W' row h hg hr

theorem next_lexU {s : ByteArray} {pre : List (Nat × Tok)} {x : Nat × Tok} (h : pre ++ [x] <+: lexU s) : endOf pre ≤ x.1 := by
  unfold lexU at h
  split at h
  · exact next_ge h
  · exact absurd (List.prefix_nil.1 h) (by simp)

theorem ko_drewN (W : World) (n : Nat) : KeepsOthers W (W.drewN n) := ⟨Nat.le_refl _, fun _ _ h _ => h⟩
theorem kc_drewN (n m : Nat) (W : World) (q : Nat) : KC n m W (W.drewN q) := ⟨below_dN (Below.refl _ _) q, fun _ _ _ _ _ h => h⟩
theorem boxed_drewN {W : World} {B : Nat} {t : TypeId} {v : Value} (h : Boxed W B t v) (n : Nat) : Boxed (W.drewN n) B t v := h

/-- What holds between two rounds. -/
def PlI (s : ByteArray) (w w1 : World) (B : Nat) (pre : List (TokOf s)) (W : World) : Prop :=
  Boxed W w1.heap.size 3 (.int .i64 (endOf (pre.map (·.1)) : Nat)) ∧ Boxed W (w1.heap.size + 1) 3 (.int .i64 (pre.length : Nat)) ∧ Boxed W w.heap.size 9 (.string s) ∧ Boxed W (w.heap.size + 1) 4 (.bool false) ∧ Below w.heap.size w W ∧ B ≤ W.heap.size
/-- A round that leaves: it never does so where the tokens come in their order. -/
def PlX (s : ByteArray) (c : Code) (pre : List (TokOf s)) (_ : World) : Prop := c = .ret ∧ ¬ pre.map (·.1) <+: lexU s
theorem plI_own (s : ByteArray) (w w1 : World) (B : Nat) (hB : w.heap.size ≤ B) : OwnFrom B (PlI s w w1 B) := by
  rintro pre X Y row ⟨h1, h2, h3, h4, h5, h6⟩ hg hr
  have hr' : ∀ r, row = some r → ∃ o : Obj, X.heap[r]? = some o ∧ o.isCells = false := fun r e => (hr r e).2
  exact ⟨boxed_keep h1 hg hr', boxed_keep h2 hg hr', boxed_keep h3 hg hr', boxed_keep h4 hg hr', h5.grown hg h5.size (fun k e => Nat.le_trans hB (hr k e).1), Nat.le_trans h6 hg.size⟩
/-- The loop's variables in a round. -/
def PlA (s : ByteArray) (w w1 : World) (B : Nat) (x : TokOf s) (a' : Act) (W : World) : Prop :=
  ∃ Bx, B ≤ Bx ∧ W.heap[Bx]? = some (.cells #[.int .i64 x.1.2.kind, .string (bs x.1.2.text), .int .i64 x.1.2.num] 40 (0, 0)) ∧
    a' = { tmps := #[.string s, .pointer (some ⟨w.heap.size, 0, none⟩), .pointer (some ⟨w.heap.size + 1, 0, none⟩), .pointer (some ⟨w1.heap.size, 0, none⟩), .pointer (some ⟨w1.heap.size + 1, 0, none⟩), .int .i64 x.1.1, .pointer (some ⟨Bx, 0, none⟩), undef, undef, .bool true, .bool false, .string s, .func (.func 26) #[] #[.pointer (some ⟨w1.heap.size + 1 + 1, 0, none⟩)], .int .i64 x.1.1, .agg #[.int .i64 x.1.2.kind, .string (bs x.1.2.text), .int .i64 x.1.2.num], undef, undef, undef, undef, undef, undef, undef, undef, undef, undef, undef, undef, undef, undef, undef, undef, undef, undef, undef, undef, undef, undef, undef, undef, undef, undef, undef, undef, undef, undef, undef, undef, undef, undef, undef, undef, undef, undef, undef, undef, undef, undef, undef, undef, undef, undef, undef, undef, undef, undef, undef], defers := [] }
theorem plA_own (s : ByteArray) (w w1 : World) (B : Nat) (x : TokOf s) (a' : Act) : OwnFrom B (fun (_ : Unit) W => PlA s w w1 B x a' W) := by
  rintro _ X Y row ⟨Bx, h1, h2, h3⟩ hg hr
  refine ⟨Bx, h1, (hg.block Bx (Array.getElem?_eq_some_iff.1 h2).1 (fun e => ?_)).trans h2, h3⟩
  obtain ⟨o, ho, hc⟩ := (hr Bx e.symm).2
  rw [h2] at ho
  cases ho
  cases hc

set_option maxRecDepth 100000 in
set_option maxHeartbeats 2000000 in
theorem lawPlaces_any (s : ByteArray) (w : World) (hE : Env w) (el et : Value) (hR : Errs w el et) :
    Calls Tryd.prog 10 #[.string s] w fun e w' => e = .returned (.bool true) ∧ Below w.heap.size w w' := by
  have HV := Lib.hid hE
  have HW := Lib.hid hR
  have hsz := hE.size
  have HA := Lib.hid (fun W hE hR => alive_any W hE el et hR)
  have hbw : Below w.heap.size w ((w.alloc (.cells #[.string s] 9)).alloc (.cells #[.bool false] 4)) := ((Below.refl _ _).alloc (Nat.le_refl _) _).alloc (by simp) _
  have HB := Lib.hid hbw
  clear hE hR hbw
  refine (callsIn_wide (n := 6)).1 ?_
  refine callsIn_of_wp_marks Tryd.func10 rfl trivial ?_ rfl
  simp only [Tryd.ntmps10, List.size_toArray, List.length_cons, List.length_nil, Nat.reduceAdd, Nat.reduceSub, Array.replicate_succ, Array.replicate_zero, List.push_toArray, List.append_toArray, List.nil_append, List.cons_append]
  gi_wp2_with (fail)
  refine ⟨trivial, ?_⟩
  refine (callsIn_wide.2 (HA.out _ (HV.out.below HB.out) (HW.out.below hsz HB.out))).mono ?_
  rintro e w1 ⟨rfl, hb1⟩
  have hS1 : Boxed w1 w.heap.size 9 (.string s) := (hb1.block _ (by simp; omega)).trans ((Boxed.new w _ _).alloc _)
  have hR1 : Boxed w1 (w.heap.size + 1) 4 (.bool false) := (hb1.block _ (by simp)).trans (by have := Boxed.new (w.alloc (.cells #[.string s] 9)) 4 (.bool false); rwa [World.size_alloc] at this)
  have hz1 : w.heap.size + 1 < w1.heap.size := hR1.lt
  have hz0 : w.heap.size < w1.heap.size := hS1.lt
  have hc0 := hS1.cell
  have hb2 := HB.out.trans (hb1.mono HB.out.size)
  gi_wp2_with (fail)
  refine ⟨trivial, ?_⟩
  refine (lexAll_in _ _ _).mono ?_
  rintro e w' ⟨rfl, rfl⟩
  gi_wp2_with (fail)
  obtain ⟨W2, hW2⟩ : ∃ W2, ((w1.alloc (.cells #[.int .i64 0] 3)).alloc (.cells #[.int .i64 0] 3)).alloc (.cells #[.string s] 9) = W2 := ⟨_, rfl⟩
  have hz2 : W2.heap.size = w1.heap.size + 3 := by rw [← hW2]; simp
  have hI0 : PlI s w w1 W2.heap.size [] W2 := by
    refine ⟨?_, ?_, ?_, ?_, ?_, Nat.le_refl _⟩ <;> rw [← hW2]
    · exact ((Boxed.new w1 _ _).alloc _).alloc _
    rotate_left
    · exact ((hS1.alloc _).alloc _).alloc _
    · exact ((hR1.alloc _).alloc _).alloc _
    · exact ((hb2.alloc hb2.size _).alloc (by simp; have := hb2.size; omega) _).alloc (by simp; have := hb2.size; omega) _
    have := (Boxed.new (w1.alloc (.cells #[.int .i64 0] 3)) 3 (.int .i64 0)).alloc (.cells #[.string s] 9)
    rwa [World.size_alloc] at this
  have hBs : Boxed W2 (w1.heap.size + 1 + 1) 9 (.string s) := by
    rw [← hW2]
    have := Boxed.new ((w1.alloc (.cells #[.int .i64 0] 3)).alloc (.cells #[.int .i64 0] 3)) 9 (.string s)
    rwa [World.size_alloc, World.size_alloc] at this
  have hbW := hI0.2.2.2.2.1
  have hst := all_stops w HV.out el et HW.out 5 W2.heap.size (w1.heap.size + 1 + 1) s W2 hbW (Nat.le_refl _) hBs.lt hBs.cell
  rw [hW2]
  clear hW2 hc0
  have hwz := hbW.size
  refine wpIn_rangeFunc_ownH rfl (by omega) (gf := 26) (lb := #[.pointer (some ⟨w1.heap.size + 1 + 1, 0, none⟩)]) rfl trivial (enters_of Tryd.func26 (by kernel_rfl) rfl) hst KC.trans (fun W l o o' hl h hc hw => KC.put hwz W l o o' hl h hc hw) (Below.refl _ _) (fun _ => rfl)
    (PlI s w w1 W2.heap.size) (PlX s) (plI_own s w w1 _ hwz) (fun _ _ _ _ _ hs _ _ => hs) hI0 (PlA s w w1 W2.heap.size) (plA_own s w w1 W2.heap.size) ?assign ?body ?done ?stop
  case assign =>
    rintro l pre x W K ⟨i1, i2, i3, i4, i5, i6⟩ hK
    have hK' := Lib.hid hK
    clear hK
    gi_wp2
    exact hK'.out _ _ ((KeepsOthers.alloc _ _).from _) ((KC.refl _ _ _).alloc i5.size _) ⟨i1.alloc _, i2.alloc _, i3.alloc _, i4.alloc _, i5.alloc i5.size _, by simp; omega⟩ ⟨W.heap.size, i6, heap_alloc_new _ _, rfl⟩
  case body =>
    rintro l pre x a' W hl ⟨r, hr⟩ ⟨i1, i2, i3, i4, i5, i6⟩ ⟨Bx, hBx, hX, rfl⟩ hlen
    obtain ⟨hs, f1, f2, f3⟩ := tokOf_facts s x
    have hen : endOf (pre.map (·.1)) ≤ s.size := endOf_le (fun y hy => by
      obtain ⟨z, _, rfl⟩ := List.mem_map.1 hy
      have := (tokOf_facts s z).2.1
      rw [bs_size] at this
      exact this)
    have hc1 := i1.cell
    have hc2 := i2.cell
    have hc3 := i3.cell
    have hc4 := i4.cell
    have g1 := i1.frozen
    have g2 := i2.frozen
    have g4 := i4.frozen
    obtain ⟨hx0, hx1, hx2⟩ := tok_cells hX
    have HI := Lib.hid (And.intro i1 (And.intro i2 (And.intro i3 (And.intro i4 (And.intro i5 i6)))))
    have HES := Lib.hid (endOf_snoc (pre.map (·.1)) x.1)
    have HNX := Lib.hid (fun h : pre.map (·.1) ++ [x.1] <+: lexU s => (show endOf (pre.map (·.1)) ≤ x.1.1 from next_lexU h))
    have hxz := bs_size x.1.2.text
    have hye : (bs x.1.2.text).toList.isEmpty = false := by
      rw [ByteArray.toList_eq]
      cases hl : (bs x.1.2.text).data.toList with
      | nil =>
        have h0 : (bs x.1.2.text).data.toList.length = (bs x.1.2.text).size := by simp
        rw [hl] at h0
        simp at h0
        omega
      | cons _ _ => rfl
    have HXZ := Lib.hid hxz
    clear i1 i2 i3 i4 i5 i6 hX hxz hI0 hBs hst
    generalize endOf (pre.map (·.1)) = e at *
    generalize bs x.1.2.text = y at *
    generalize x.1.1 = p at *
    by_cases hge : e ≤ p
    · have t1 : decide (p < e) = false := by simp; omega
      have t3 : decide (s.size < p + y.size) = false := by simp; omega
      have t2 : decide ((s.size : Int) < (p : Int) + (y.size : Int)) = false := by simp; omega
      gi_wp2_with (fail)
      refine wpIn_quiet_round rfl (by kernel_rfl) (by kernel_rfl) (by kernel_rfl) ?_
      repeat (gi_big_quiet_step (fail))
      refine wpQuietIn_nil ?_
      intro _ hw'
      obtain ⟨nq, hw''⟩ := hw'
      subst hw''
      gi_wp2_with (fail)
      obtain ⟨i1, i2, i3, i4, i5, i6⟩ := HI.out
      have hn1 : w1.heap.size ≠ w1.heap.size + 1 := by omega
      refine ⟨(((ko_drewN W nq).trans (KeepsOthers.setCell _ _ _)).trans (KeepsOthers.setCell _ _ _)).from _, ((KC.set (p := ⟨w1.heap.size, 0, none⟩) (kc_drewN _ _ W nq) (by show _ ≤ w1.heap.size; omega) (by show w1.heap.size < _; omega) _).set (p := ⟨w1.heap.size + 1, 0, none⟩) (by show _ ≤ w1.heap.size + 1; omega) (by show w1.heap.size + 1 < _; omega) _), ?_, ?_, ?_, ?_, ?_, ?_⟩
      · rw [List.map_append, List.map_cons, List.map_nil, HES.out, ← HXZ.out, Int.natCast_add]
        exact ((boxed_drewN i1 nq).set _).other hn1 _
      · rw [List.length_append, List.length_cons, List.length_nil, Int.natCast_add]
        exact ((boxed_drewN i2 nq).other (fun e => hn1 e.symm) _).set _
      · exact ((boxed_drewN i3 nq).other (by omega) _).other (by omega) _
      · exact ((boxed_drewN i4 nq).other (by omega) _).other (by omega) _
      · exact (Below.setCell (Below.setCell (below_dN i5 nq) (p := ⟨w1.heap.size, 0, none⟩) (by show _ ≤ w1.heap.size; omega) _) (p := ⟨w1.heap.size + 1, 0, none⟩) (by show _ ≤ w1.heap.size + 1; omega) _)
      · show _ ≤ (((W.drewN nq).setCell _ _).setCell _ _).heap.size
        simp [World.setCell]
        exact i6
    · have t1 : decide (p < e) = true := by simp; omega
      gi_wp2_with (fail)
      refine wpIn_quiet_round rfl (by kernel_rfl) (by kernel_rfl) (by kernel_rfl) ?_
      repeat (gi_big_quiet_step (fail))
      refine wpQuietIn_nil ?_
      intro _ hw'
      obtain ⟨nq, hw''⟩ := hw'
      subst hw''
      gi_wp2_with (fail)
      exact ⟨((ko_drewN W nq).trans (KeepsOthers.setCell _ _ _)).from _, rfl, fun h => hge (HNX.out (by simpa using h))⟩
  case done =>
    rintro D ys W hD hys ⟨i1, i2, i3, i4, i5, i6⟩ hK
    have hlen : ys.length = (lexU s).length := by rw [← hys, List.length_map]
    have hlen2 := lexU_len s
    have hc2 := i2.cell
    have hc3 := i3.cell
    have hDl : D < W.heap.size := (Array.getElem?_eq_some_iff.1 hK).1
    clear i1 hI0 hBs hst hys
    cases hg : good s with
    | false =>
      gi_wp2_with (fail)
      refine ⟨trivial, ?_⟩
      refine (callsIn_wide.2 (lex_bad' s hg W (HV.out.below i5) _ _ (HW.out.below hsz i5))).mono ?_
      rintro e w5 ⟨tp, p, rfl, hb5⟩
      have i4' : Boxed w5 (w.heap.size + 1) 4 (.bool false) := (hb5.block _ i4.lt).trans i4
      have hK5 := (hb5.block D hDl).trans hK
      have hb6 := i5.trans (hb5.mono i5.size)
      have hc4 := i4'.cell
      have g4 := i4'.frozen
      gi_wp2_with (fail)
      have hK' := (KeepsOthers.setCell w5 ⟨w.heap.size + 1, 0, none⟩ (.bool true)).same D _ hK5 rfl
      refine ⟨by simp, .inl ⟨_, _, rfl, run_takeDeferred hK', ?_⟩⟩
      have hc5 := cell_kept (World.cell?_setCell_same' w5 ⟨w.heap.size + 1, 0, none⟩ (.bool true) (by rw [hc4]; rfl)) (grownBy_putObj' _ D (.deferred none)) (fun r e => by cases e; exact ⟨_, hK', rfl⟩)
      refine ⟨.bool true, ?_, rfl, ?_⟩
      · simp [results, Tryd.f10, go_sem, hc5]
      · exact (hb6.setCell (p := ⟨w.heap.size + 1, 0, none⟩) (by show _ ≤ w.heap.size + 1; omega) _).trans (belowK_b (w := w) (Nat.le_refl _) _ D _ _ (by omega) hK' rfl rfl)
    | true =>
      have hgs := hg
      simp only [good, Bool.and_eq_true, decide_eq_true_eq] at hgs
      have hly : (toks s.data.toList).length = ys.length := by
        rw [hlen]
        unfold lexU toks
        rw [if_pos hgs.1, List.length_map]
      gi_wp2_with (fail)
      refine ⟨trivial, ?_⟩
      refine (callsIn_wide.2 (lex_good s hg W (HV.out.below i5) _ _ (HW.out.below hsz i5))).mono ?_
      rintro e w5 ⟨v, rfl, hb5, ho5⟩
      obtain ⟨A5, c5, rfl, _⟩ := (Src.of_own ho5).shape
      rw [hly]
      have i4' : Boxed w5 (w.heap.size + 1) 4 (.bool false) := (hb5.block _ i4.lt).trans i4
      have i2' : Boxed w5 (w1.heap.size + 1) 3 (.int .i64 (ys.length : Nat)) := (hb5.block _ i2.lt).trans i2
      have hK5 := (hb5.block D hDl).trans hK
      have hb6 := i5.trans (hb5.mono i5.size)
      have hc4 := i4'.cell
      have hc6 := i2'.cell
      have g4 := i4'.frozen
      clear hly hlen hgs ho5
      gi_wp2_with (fail)
      have hK' := (KeepsOthers.setCell w5 ⟨w.heap.size + 1, 0, none⟩ (.bool true)).same D _ hK5 rfl
      refine ⟨by simp, .inl ⟨_, _, rfl, run_takeDeferred hK', ?_⟩⟩
      have hc5 := cell_kept (World.cell?_setCell_same' w5 ⟨w.heap.size + 1, 0, none⟩ (.bool true) (by rw [hc4]; rfl)) (grownBy_putObj' _ D (.deferred none)) (fun r e => by cases e; exact ⟨_, hK', rfl⟩)
      refine ⟨.bool true, ?_, rfl, ?_⟩
      · simp [results, Tryd.f10, go_sem, hc5]
      · exact (hb6.setCell (p := ⟨w.heap.size + 1, 0, none⟩) (by show _ ≤ w.heap.size + 1; omega) _).trans (belowK_b (w := w) (Nat.le_refl _) _ D _ _ (by omega) hK' rfl rfl)
  case stop =>
    rintro D c pre W _ hpre ⟨_, hno⟩ _
    exact absurd hpre hno

end Lx
end Go.Proofs.YtdalldhgfdnaeaaDoor
