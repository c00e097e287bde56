/- The walk of the statement ParseBrackets: it returns true. Conditions: the error variables hold what they should; strconv's table of powers of ten holds them. -/
import Derived.Test.YtbbbbfglhphffaaDoorPlainSim
import Derived.Test.YtbbbbfglhphffaaDoorPlainDeep
import Derived.Test.YtbbbbfglhphffaaDoorSameAll
import Derived.Test.YtbbbbfglhphffaaDoorTextG
import Derived.Test.YtbbbbfglhphffaaDoorLawBits
import Derived.Test.YtbbbbfglhphffaaDoorFrame3
namespace Go.Proofs.YtbbbbfglhphffaaDoor
set_option linter.unusedSimpArgs false
set_option linter.unusedVariables false
namespace Lx
open Go Go.RowKit

abbrev goalF : List Tok → Out GoalT := fun ts => goalO (primO ts 66 0) ts 0
theorem textO_inv {α : Type} {rd : List Tok → Out α} {s : ByteArray} {x : α} {k : Nat} (h : textO rd s = .ok x k) : s.size ≤ 16384 ∧ whole s.data.toList = true ∧ rd (toks s.data.toList) = .ok x k ∧ ¬ k < (toks s.data.toList).length := by
  rcases Nat.lt_or_ge 16384 s.size with hs | hs
  · rw [textO_large rd hs] at h; cases h
  · cases hw : whole s.data.toList with
    | false => rw [textO_bad rd hs hw] at h; cases h
    | true =>
      rw [textO_good rd hs hw] at h
      refine ⟨hs, rfl, ?_⟩
      cases hr : rd (toks s.data.toList) with
      | no i => rw [hr] at h; cases h
      | ok y q =>
        rw [hr] at h
        have h' : (if q < (toks s.data.toList).length then Out.no 2 else Out.ok y q) = Out.ok x k := h
        by_cases hq : q < (toks s.data.toList).length
        · rw [if_pos hq] at h'; cases h'
        · rw [if_neg hq] at h'
          injection h' with h1 h2
          subst h1 h2
          exact ⟨rfl, hq⟩
def bp (l : List UInt8) : List UInt8 := [40] ++ l
def bq (l : List UInt8) : List UInt8 := [40] ++ l ++ [10, 41]
theorem brackets_text {l : List UInt8} {x : GoalT} {k : Nat} (h : textO goalF (bs l) = .ok x k) :
    textO goalF (bs (bq l)) = .no 0 ∨ textO goalF (bs (bq l)) = .no 1 ∨ ∃ k', textO goalF (bs (bq l)) = .ok x k' := by
  unfold bq
  obtain ⟨h1, h2, h3, h4⟩ := textO_inv h
  have e : (bs l).data.toList = l := by simp [bs]
  rw [e] at h2 h3 h4
  have hf := joinO_fwd (joinO_fwd (primO_fwd (toks l) 66 0) [44] 5) [59] 6 _ _ _ h3
  obtain rfl : k = (toks l).length := by omega
  rw [textO_bs]
  unfold textL
  by_cases hs : 16384 < ([40] ++ l ++ [10, 41]).length
  · rw [if_pos hs]; exact .inr (.inl rfl)
  · have e2 : [40] ++ l ++ [10, 41] = 40 :: (l ++ 10 :: [41]) := by simp
    have a1 := open_step (l ++ 10 :: [41])
    have a2 := toks_app (m := [41]) h2
    have a3 := close_step []
    have ht : toks ([40] ++ l ++ [10, 41]) = lpT :: (toks l ++ [rpT]) := by rw [e2, a1.1, a2.1, a3.1]; rfl
    have hw : whole ([40] ++ l ++ [10, 41]) = true := by rw [e2, a1.2, a2.2, a3.2]; rfl
    rw [if_neg hs, hw, if_neg (by simp), ht]
    have hlen : (lpT :: (toks l ++ [rpT])).length = (toks l).length + 2 := by simp
    rcases goal_brackets (lp := lpT) (rp := rpT) rfl rfl h3 with g | g
    · right; right
      refine ⟨(toks l).length + 2, ?_⟩
      show endO _ (goalF (lpT :: (toks l ++ [rpT]))) = _
      rw [show goalF (lpT :: (toks l ++ [rpT])) = _ from g, hlen]
      exact if_neg (Nat.lt_irrefl _)
    · left
      show endO _ (goalF (lpT :: (toks l ++ [rpT]))) = _
      rw [show goalF (lpT :: (toks l ++ [rpT])) = _ from g]
      rfl
theorem below_sets' {B N : Nat} {w x : World} (h : Below B w x) (hN : B ≤ N) (l : List Value) : Below B w (x.setCells N 0 l) :=
  ⟨(sets_os _ _ _ _).1.trans h.os, (sets_os _ _ _ _).2.1.trans h.tape, (sets_os _ _ _ _).2.2.trans h.output, by rw [sets_size]; exact h.size, fun j hj => (sets_else _ _ _ _ j (by omega)).trans (h.block j hj)⟩
theorem add_any' (a b : List UInt8) (h : a.length + b.length ≤ 100000) : ∀ W : World, (Op.stringOp .add (bs a) (bs b)).run Tryd.prog W = .ok (.string (bs (a ++ b))) W := fun W => by
  rw [run_string_add_sum (P := Tryd.prog) W (bs a) (bs b) (by rw [bs_len, bs_len]; omega), bs_app]
/-- A goal stored into a block of its own. -/
theorem put_goal {w3 : World} {C : Array Value} (hC : C.size = 12) (hC1 : C.all (·.oneCell') = true) : (storeCells ⟨w3.heap.size, 0, none⟩ C.toList).run Tryd.prog (w3.alloc (.cells #[.int .i64 0, .int .i64 0, .string ⟨#[]⟩, .int .i64 0, .slice none 0 0, .int .i64 0, .string ⟨#[]⟩, .int .i64 0, .slice none 0 0, .string ⟨#[]⟩, .slice none 0 0, .slice none 0 0] 35)) = .ok () ((w3.alloc (.cells #[.int .i64 0, .int .i64 0, .string ⟨#[]⟩, .int .i64 0, .slice none 0 0, .int .i64 0, .string ⟨#[]⟩, .int .i64 0, .slice none 0 0, .string ⟨#[]⟩, .slice none 0 0, .slice none 0 0] 35)).setCells w3.heap.size 0 C.toList) ∧
    Below w3.heap.size w3 ((w3.alloc (.cells #[.int .i64 0, .int .i64 0, .string ⟨#[]⟩, .int .i64 0, .slice none 0 0, .int .i64 0, .string ⟨#[]⟩, .int .i64 0, .slice none 0 0, .string ⟨#[]⟩, .slice none 0 0, .slice none 0 0] 35)).setCells w3.heap.size 0 C.toList) ∧
    ((w3.alloc (.cells #[.int .i64 0, .int .i64 0, .string ⟨#[]⟩, .int .i64 0, .slice none 0 0, .int .i64 0, .string ⟨#[]⟩, .int .i64 0, .slice none 0 0, .string ⟨#[]⟩, .slice none 0 0, .slice none 0 0] 35)).setCells w3.heap.size 0 C.toList).heap[w3.heap.size]? = some (.cells C 35 (0, 0)) ∧
    ((w3.alloc (.cells #[.int .i64 0, .int .i64 0, .string ⟨#[]⟩, .int .i64 0, .slice none 0 0, .int .i64 0, .string ⟨#[]⟩, .int .i64 0, .slice none 0 0, .string ⟨#[]⟩, .slice none 0 0, .slice none 0 0] 35)).setCells w3.heap.size 0 C.toList).heap.size = w3.heap.size + 1 := by
  have hN := heap_alloc_new w3 (.cells #[.int .i64 0, .int .i64 0, .string ⟨#[]⟩, .int .i64 0, .slice none 0 0, .int .i64 0, .string ⟨#[]⟩, .int .i64 0, .slice none 0 0, .string ⟨#[]⟩, .slice none 0 0, .slice none 0 0] 35)
  refine ⟨store_cells_at (by rw [hC]; exact there_all hN) hC1, below_sets' ((Below.refl _ _).alloc (Nat.le_refl _) _) (Nat.le_refl _) _, sets_all C hN (by rw [hC]; rfl), ?_⟩
  rw [sets_size]
  simp

set_option maxRecDepth 100000 in
set_option maxHeartbeats 2000000 in
/-- Where the goal alone is refused, nothing is asked. -/
theorem brackets_no (s : ByteArray) (i : Nat) (ho : textO goalF s = .no i) (w : World) (hE : Env w) (f : Nat → Addr) (h4 : Errs4 w f) :
    Calls Tryd.prog 4 #[.string s] w fun e w' => e = .returned (.bool true) ∧ Below w.heap.size w w' := by
  have HA := Lib.hid (alive_any w hE f h4)
  have HV := Lib.hid hE
  have HW := Lib.hid h4
  have HG := Lib.hid (fun w hE h4 => textGo_any s w hE f h4)
  rw [ho] at HG
  clear hE h4
  go_enter Tryd.func4, Tryd.ntmps4
  go_wp2_with fail
  refine HA.out.mono ?_
  rintro e w1 ⟨rfl, hb1⟩
  have HB1 := Lib.hid hb1
  clear hb1
  go_wp2_with fail
  go_at_call 12
  refine (HG.out _ (HV.out.below HB1.out) (HW.out.below HB1.out)).mono ?_
  rintro e w2 ⟨v1, er1, rfl, hb2, ht1⟩
  have HB2 := Lib.hid (HB1.out.trans (hb2.mono HB1.out.size))
  obtain ⟨C, rfl, hC, hC1⟩ := goal_row ht1
  obtain rfl : er1 = errP (f i) := ht1.2
  obtain ⟨hst, hbx, _, _⟩ := put_goal (w3 := w2) hC hC1
  have HBX := Lib.hid (HB2.out.trans (hbx.mono HB2.out.size))
  generalize World.setCells _ _ _ _ = X at hst HBX
  clear ht1 hb2 hbx hC1
  go_wp2_with fail
  go_ret
  exact ⟨rfl, HBX.out⟩

theorem eql_other {a b : Addr} (W : World) (hne : a ≠ b) (ha : ∃ c t, W.heap[a.block]? = some (.cells c t (0, 0))) (hb : ∃ c t, W.heap[b.block]? = some (.cells c t (0, 0))) : (binOp .eql 25 (errP a) (errP b)).run Tryd.prog W = .ok (.bool false) W := by
  obtain ⟨ca, ta, ha⟩ := ha
  obtain ⟨cb, tb, hb⟩ := hb
  obtain ⟨i, hi, hc⟩ : ∃ i, Tryd.prog.info? 230 = some i ∧ i.comparable = true := by
    have h : (Tryd.prog.info? 230).map (·.comparable) = some true := by kernel_rfl
    cases hq : Tryd.prog.info? 230 with
    | none => rw [hq] at h; cases h
    | some i => rw [hq] at h; exact ⟨i, rfl, Option.some.inj h⟩
  obtain ⟨j, hj, hz⟩ : ∃ j, Tryd.prog.info? 232 = some j ∧ j.size ≠ 0 := by
    have h : (Tryd.prog.info? 232).map (fun j => decide (j.size = 0)) = some false := by kernel_rfl
    cases hq : Tryd.prog.info? 232 with
    | none => rw [hq] at h; cases h
    | some j => rw [hq] at h; exact ⟨j, rfl, by simpa using h⟩
  exact run_eql_iface_ptr_other W Tryd.underlying25 Tryd.underlying230 hi hc hj hz hne ha hb

set_option maxRecDepth 100000 in
set_option maxHeartbeats 4000000 in
/-- Where the goal is read, and in brackets is too deep or too large. -/
theorem brackets_deep (l : List UInt8) (hl : l.length ≤ 16384) (x : GoalT) (k : Nat) (ho : textO goalF (bs l) = .ok x k) (i : Nat) (hi : i = 0 ∨ i = 1) (ho2 : textO goalF (bs (bq l)) = .no i) (w : World) (hE : Env w) (f : Nat → Addr) (h4 : Errs4B w f) :
    Calls Tryd.prog 4 #[.string (bs l)] w fun e w' => e = .returned (.bool true) ∧ Below w.heap.size w w' := by
  have HA := Lib.hid (alive_any w hE f h4.1)
  have HV := Lib.hid hE
  have HW := Lib.hid h4
  have HG := Lib.hid (fun w hE h4 => textGo_any (bs l) w hE f h4)
  have HG2 := Lib.hid (fun w hE h4 => textGo_any (bs (bq l)) w hE f h4)
  rw [ho] at HG
  rw [ho2] at HG2
  have c1 : ∀ W : World, (Op.stringOp .add ⟨#[40]⟩ (bs l)).run Tryd.prog W = .ok (.string (bs (bp l))) W := add_any' [40] l (by simp; omega)
  have c2 : ∀ W : World, (Op.stringOp .add (bs (bp l)) ⟨#[10, 41]⟩).run Tryd.prog W = .ok (.string (bs (bq l))) W := add_any' (bp l) [10, 41] (by simp [bp]; omega)
  clear hE h4 ho ho2
  go_enter Tryd.func4, Tryd.ntmps4
  go_wp2_with fail
  refine HA.out.mono ?_
  rintro e w1 ⟨rfl, hb1⟩
  have HB1 := Lib.hid hb1
  clear hb1
  go_wp2_with fail
  go_at_call 12
  refine (HG.out _ (HV.out.below HB1.out) (HW.out.below HB1.out).1).mono ?_
  rintro e w2 ⟨v1, er1, rfl, hb2, ht1⟩
  have HB2 := Lib.hid (HB1.out.trans (hb2.mono HB1.out.size))
  obtain ⟨C, rfl, hC, hC1⟩ := goal_row ht1
  obtain rfl : er1 = .nilIface := ht1.1
  obtain ⟨hst, hbx, _, _⟩ := put_goal (w3 := w2) hC hC1
  have HBX := Lib.hid (HB2.out.trans (hbx.mono HB2.out.size))
  generalize World.setCells _ _ _ _ = X at hst HBX
  clear ht1 hb2 hbx hC1
  go_wp2_with fail
  go_at_call 12
  refine (HG2.out _ (HV.out.below HBX.out) (HW.out.below HBX.out).1).mono ?_
  rintro e w3 ⟨v2, er2, rfl, hb3, ht2⟩
  have HB3 := Lib.hid (HBX.out.trans (hb3.mono HBX.out.size))
  obtain ⟨C', rfl, hC', hC1'⟩ := goal_row ht2
  obtain rfl : er2 = errP (f i) := ht2.2
  clear hst hC
  obtain ⟨hst, hby, _, _⟩ := put_goal (w3 := w3) hC' hC1'
  have hbY := HB3.out.trans (hby.mono HB3.out.size)
  generalize World.setCells _ _ _ _ = Y at hst hbY
  have HBY := Lib.hid hbY
  have hw4 := HW.out.below hbY
  have hnest := hw4.1.nest
  have hlarge := hw4.1.large
  have hltn := World.block_lt_of_cell? _ _ hnest
  have hltl := World.block_lt_of_cell? _ _ hlarge
  have hbk0 := hw4.2 0 (by decide)
  have hbk1 := hw4.2 1 (by decide)
  clear ht2 hb3 hby hC1' hbY hw4
  rcases hi with rfl | rfl
  · have hes := eql_same (f 0)
    clear hbk0 hbk1
    go_wp2_with fail
    go_ret
    exact ⟨rfl, HBY.out⟩
  · have hes := eql_same (f 1)
    by_cases hf : f 1 = f 0
    · rw [← hf] at hnest
      clear hbk0 hbk1 hf
      go_wp2_with fail
      go_ret
      exact ⟨rfl, HBY.out⟩
    · have heo := eql_other Y hf hbk1 hbk0
      clear hbk0 hbk1 hf
      go_wp2_with fail
      go_ret
      exact ⟨rfl, HBY.out⟩

set_option maxRecDepth 100000 in
set_option maxHeartbeats 4000000 in
/-- Where both are read: the same goal. -/
theorem brackets_ok (l : List UInt8) (hl : l.length ≤ 16384) (x : GoalT) (k k' : Nat) (ho : textO goalF (bs l) = .ok x k) (ho2 : textO goalF (bs (bq l)) = .ok x k') (w : World) (hE : Env w) (f : Nat → Addr) (h4 : Errs4 w f) :
    Calls Tryd.prog 4 #[.string (bs l)] w fun e w' => e = .returned (.bool true) ∧ Below w.heap.size w w' := by
  have HA := Lib.hid (alive_any w hE f h4)
  have HV := Lib.hid hE
  have HW := Lib.hid h4
  have HG := Lib.hid (fun w hE h4 => textGo_any (bs l) w hE f h4)
  have HG2 := Lib.hid (fun w hE h4 => textGo_any (bs (bq l)) w hE f h4)
  rw [ho] at HG
  rw [ho2] at HG2
  have c1 : ∀ W : World, (Op.stringOp .add ⟨#[40]⟩ (bs l)).run Tryd.prog W = .ok (.string (bs (bp l))) W := add_any' [40] l (by simp; omega)
  have c2 : ∀ W : World, (Op.stringOp .add (bs (bp l)) ⟨#[10, 41]⟩).run Tryd.prog W = .ok (.string (bs (bq l))) W := add_any' (bp l) [10, 41] (by simp [bp]; omega)
  clear hE h4 ho ho2
  go_enter Tryd.func4, Tryd.ntmps4
  go_wp2_with fail
  refine HA.out.mono ?_
  rintro e w1 ⟨rfl, hb1⟩
  have HB1 := Lib.hid hb1
  clear hb1
  go_wp2_with fail
  go_at_call 12
  refine (HG.out _ (HV.out.below HB1.out) (HW.out.below HB1.out)).mono ?_
  rintro e w2 ⟨v1, er1, rfl, hb2, ht1⟩
  have HB2 := Lib.hid (HB1.out.trans (hb2.mono HB1.out.size))
  obtain ⟨C, rfl, hC, hC1⟩ := goal_row ht1
  obtain ⟨rfl, hg1⟩ := ht1
  have HG1 := Lib.hid hg1
  obtain ⟨hst, hbx, hx1, hx2⟩ := put_goal (w3 := w2) hC hC1
  have HBX := Lib.hid (HB2.out.trans (hbx.mono HB2.out.size))
  have hBX2 := hbx
  generalize World.setCells _ _ _ _ = X at hst HBX hx1 hx2 hBX2
  have HX1 := Lib.hid hx1
  have HG1X := Lib.hid (GoalV.stable 134 _ _ _ _ _ X hg1 (fun j _ j2 => hBX2.block j j2))
  have hsx : w2.heap.size < X.heap.size := by omega
  clear hb2 hbx hC1 hx1 hBX2 hg1 HG1
  go_wp2_with fail
  go_at_call 12
  refine (HG2.out _ (HV.out.below HBX.out) (HW.out.below HBX.out)).mono ?_
  rintro e w3 ⟨v2, er2, rfl, hb3, ht2⟩
  have HB3 := Lib.hid (HBX.out.trans (hb3.mono HBX.out.size))
  obtain ⟨C', rfl, hC', hC1'⟩ := goal_row ht2
  obtain ⟨rfl, hg2⟩ := ht2
  have HCC := Lib.hid hC
  clear hst hC
  obtain ⟨hst, hby, hy1, hy2⟩ := put_goal (w3 := w3) hC' hC1'
  have hbY := HB3.out.trans (hby.mono HB3.out.size)
  have hBY2 := hby
  have hs3 := hb3.size
  generalize World.setCells _ _ _ _ = Y at hst hbY hy1 hy2 hBY2
  have HBY := Lib.hid hbY
  have hX3 := (hBY2.block w2.heap.size (by omega)).trans ((hb3.block w2.heap.size (by omega)).trans HX1.out)
  have hg1Y := GoalV.stable 134 _ _ _ _ _ Y (GoalV.stable 134 _ _ _ _ _ w3 HG1X.out (fun j _ j2 => hb3.block j (by omega))) (fun j _ j2 => hBY2.block j (by omega))
  have hg2Y := GoalV.stable 134 _ _ _ _ _ Y hg2 (fun j _ j2 => hBY2.block j (by omega))
  have hC2 := Lib.hid hC'
  have hyl : w3.heap.size < Y.heap.size := by omega
  have HYL := Lib.hid hyl
  have HX3 := Lib.hid hX3
  have HY1 := Lib.hid hy1
  have HG1Y := Lib.hid hg1Y
  have HG2Y := Lib.hid hg2Y
  have hsw : w2.heap.size < w3.heap.size := by omega
  have HSW := Lib.hid hsw
  have HHI : Hid (X.heap.size ≤ Y.heap.size) := Lib.hid (by omega)
  have HHI3 : Hid (w2.heap.size ≤ Y.heap.size) := Lib.hid (by omega)
  clear hX3 hy1 hg1Y hg2Y hg2 hb3 hby hC1' hbY hBY2 hsx hx2 hy2 hs3
  go_upto_region 9 with fail
  obtain ⟨a0, a1, a2, a3, a4, a5, a6, a7, a8, a9, a10, a11, rfl⟩ := arr12 HCC.out
  obtain ⟨d0, d1, d2, d3, d4, d5, d6, d7, d8, d9, d10, d11, rfl⟩ := arr12 hC2.out
  obtain ⟨m0, m1, m2, m3, m4, m5, m6, m7, m8, m9, m10, m11⟩ := cells12 HX3.out
  obtain ⟨n0, n1, n2, n3, n4, n5, n6, n7, n8, n9, n10, n11⟩ := cells12 HY1.out
  clear hst hC'
  go_wp2_with fail
  go_at_call 13
  refine (sameGoal_any 134 _ _ _ _ _ _ _ Y HG1Y.out HG2Y.out HHI3.out (by have := HYL.out; omega)).mono ?_
  rintro e w5 ⟨rfl, hb5⟩
  have HB5 := Lib.hid (HBY.out.trans (hb5.mono HBY.out.size))
  clear hb5
  go_wp2_with fail
  go_ret
  exact ⟨rfl, HB5.out⟩

theorem lawBrackets_any (s : ByteArray) (w : World) (hE : Env w) (f : Nat → Addr) (h4 : Errs4B w f) :
    Calls Tryd.prog 4 #[.string s] w fun e w' => e = .returned (.bool true) ∧ Below w.heap.size w w' := by
  obtain ⟨l, rfl⟩ : ∃ l, s = bs l := ⟨s.data.toList, by simp [bs]⟩
  cases ho : textO goalF (bs l) with
  | no i => exact brackets_no (bs l) i ho w hE f h4.1
  | ok x k =>
    have hl : l.length ≤ 16384 := by have := (textO_inv ho).1; rwa [bs_len] at this
    rcases brackets_text ho with g | g | ⟨k', g⟩
    · exact brackets_deep l hl x k ho 0 (.inl rfl) g w hE f h4
    · exact brackets_deep l hl x k ho 1 (.inr rfl) g w hE f h4
    · exact brackets_ok l hl x k k' ho g w hE f h4.1

end Lx
end Go.Proofs.YtbbbbfglhphffaaDoor
