/- Package lex's scan handed a loop body's yield: its rounds go over the text's tokens with their places; All's value. Conditions: the text has at most 16384 bytes; the error variables hold an error; strconv's variables hold what they should. -/
import Derived.Test.YtdalldhgfdnaeaaDoorLex
import Derived.Test.YtdalldhgfdnaeaaDoorPlainParts
import Derived.RangeFuncNested
import Derived.RangeFuncBound
import Derived.RangeFuncCalls
import Derived.RangeFuncLeaves
import Derived.Shelf.Abstract
import Derived.Shelf.RegionOpen
import Derived.WalkKit
import Derived.OwnWalkIn
import Derived.TacticsInMore
import Derived.LoopNIn
import Derived.LoopIn
namespace Go.Proofs.YtdalldhgfdnaeaaDoor
namespace Lx
open Go Go.RowKit Go.Shelf
attribute [local go_sem] Oper.semAt_some

theorem room_of_none {F : Fence} (hd : F.depth = none) (k : Nat) : F.room k := fun d h => by rw [hd] at h; cases h
theorem roundIn_any {F : Fence} (hd : F.depth = none) {m m' : Nat} {P : Program} {l : Nat} {f : FuncId} {tmps : Array Value} {assign body : Code} {w : World} {R : Ending → World → Prop}
    (h : RoundIn F m P l f tmps assign body w R) : RoundIn F m' P l f tmps assign body w R := ⟨h.1, fun c cs _ => h.2 c cs (room_of_none hd _)⟩
theorem yieldAt_any {F : Fence} (hd : F.depth = none) {m : Nat} (m' : Nat) {P : Program} {l : Nat} {args : Array Value} {W : World} {R : Ending → World → Prop} (h : YieldAt F m P l args W R) : YieldAt F m' P l args W R := by
  obtain ⟨fn, tmps, assign, body, hy, hR⟩ := h
  exact ⟨fn, tmps, assign, body, hy, roundIn_any hd hR⟩

/-- What a round keeps: all that lay below n, and each block of cells from m on. -/
def KC (n m : Nat) (W W' : World) : Prop := Below n W W' ∧ ∀ b c t f, m ≤ b → W.heap[b]? = some (.cells c t f) → W'.heap[b]? = some (.cells c t f)
theorem KC.refl (n m : Nat) (W : World) : KC n m W W := ⟨Below.refl _ _, fun _ _ _ _ _ h => h⟩
theorem KC.trans {n m : Nat} {A B C : World} (h : KC n m A B) (k : KC n m B C) : KC n m A C := ⟨h.1.trans k.1, fun b c t f hb e => k.2 b c t f hb (h.2 b c t f hb e)⟩
theorem KC.put {n m : Nat} {w : World} (hn : n ≤ w.heap.size) (W : World) (l : Nat) (o o' : Obj) (hl : w.heap.size ≤ l) (h : W.heap[l]? = some o) (hc : o.isCells = false) (hw : o.isWalk = false) : KC n m W (W.putObj l o') := by
  refine ⟨belowK_b hn W l o o' hl h hc hw, fun b c t f _ e => ?_⟩
  have hne : b ≠ l := by
    intro he
    subst he
    rw [h] at e
    cases e
    cases hc
  exact (World.putObj_heap_other hne).trans e
theorem KC.alloc {n m : Nat} {W W' : World} (h : KC n m W W') (hn : n ≤ W'.heap.size) (o : Obj) : KC n m W (W'.alloc o) :=
  ⟨h.1.alloc hn o, fun b c t f hb e => (heap_alloc_old W' o (Array.getElem?_eq_some_iff.1 (h.2 b c t f hb e)).1).trans (h.2 b c t f hb e)⟩
theorem KC.drew {n m : Nat} {W W' : World} (h : KC n m W W') : KC n m W W'.drew := ⟨h.1.drew, h.2⟩
theorem KC.set {n m : Nat} {W W' : World} (h : KC n m W W') {p : Addr} (hp : n ≤ p.block) (hm : p.block < m) (u : Value) : KC n m W (W'.setCell p u) :=
  ⟨h.1.setCell hp u, fun b c t f hb e => (Below.heap_setCell W' p u b (by omega)).trans (h.2 b c t f hb e)⟩

theorem wide_depth (k : Nat) : Fence.wide.depth.isSome = true → 1 ≤ k := fun h => by cases h

abbrev encT (x : Nat × Tok) : Array Value := #[.int .i64 x.1, .agg #[.int .i64 x.2.kind, .string (bs x.2.text), .int .i64 x.2.num]]
/-- A property of the rounds abides new blocks. -/
theorem abides_below {B : Nat} {J : List (Nat × Tok) → World → Prop} (hJ : AbidesFrom B J) {pre : List (Nat × Tok)} {W W' : World} (h : J pre W) (hb : Below W.heap.size W W') : J pre W' :=
  hJ pre W W' none h ⟨hb.os, hb.tape, hb.output, hb.size, fun k hk _ => hb.block k hk⟩ (fun r e => by cases e)

/-- How scan ends: all have come, or a round has said 'no more'. -/
def ScanIn (l : List UInt8) (J Jx : List (Nat × Tok) → World → Prop) (e : Ending) (W' : World) : Prop :=
  (∃ v, e = .returned v) ∧ (J (lex false 0 l).1 W' ∨ ∃ pre, pre <+: (lex false 0 l).1 ∧ Jx pre W')

/-- What a round that goes on leaves of the block that held its token. -/
theorem yield_box {l d m n0 : Nat} {a : Array Value} {J Jx : World → Prop} {w1 : World} {x y z : Value} (hm : m ≤ w1.heap.size)
    (h : YieldAt Fence.wide d Tryd.prog l a (w1.alloc (.cells #[x, y, z] 40)) fun e W' => (e = .returned (.bool true) ∧ J W' ∧ KC n0 m (w1.alloc (.cells #[x, y, z] 40)) W') ∨ (e = .returned (.bool false) ∧ Jx W')) :
    YieldAt Fence.wide d Tryd.prog l a (w1.alloc (.cells #[x, y, z] 40)) fun e W' => (e = .returned (.bool true) ∧ J W' ∧ KC n0 m (w1.alloc (.cells #[x, y, z] 40)) W' ∧ W'.cell? ⟨w1.heap.size, 1, none⟩ = some y) ∨ (e = .returned (.bool false) ∧ Jx W') :=
  YieldAt.mono h fun _ _ h => h.elim (fun ⟨he, hj, hk⟩ => .inl ⟨he, hj, hk, (tok_cells (hk.2 w1.heap.size _ _ _ hm (heap_alloc_new w1 _))).2.1⟩) .inr

set_option maxRecDepth 100000 in
set_option maxHeartbeats 2000000 in
theorem scanIn_any (W0 : World) (hE : Env W0) (el et : Value) (hR : Errs W0 el et) (l n m B : Nat) (s : ByteArray) (hs : s.size ≤ 16384) (J Jx : List (Nat × Tok) → World → Prop) (hJ : AbidesFrom B J)
    (hY : ∀ d pre x W, J pre W → pre ++ [x] <+: (lex false 0 s.data.toList).1 → YieldAt Fence.wide d Tryd.prog l (encT x) W fun e W' =>
      (e = .returned (.bool true) ∧ J (pre ++ [x]) W' ∧ KC W0.heap.size m W W') ∨ (e = .returned (.bool false) ∧ Jx (pre ++ [x]) W'))
    (W : World) (hb0 : Below W0.heap.size W0 W) (hm : m ≤ W.heap.size) (h0 : J [] W) :
    CallsIn Fence.wide n Tryd.prog 23 #[.string s, .func (.yield l) #[] #[]] W fun e W' => ScanIn s.data.toList J Jx e W' := by
  have HS := Lib.hid (fun p hp w => skip_any s (by omega) p hp w)
  have hsz := hE.size
  obtain ⟨tp, pv, rfl⟩ := hR.istext
  have hbig : decide ((16384 : Int) < (s.size : Int)) = false := by simp; omega
  have HT := Lib.hid hR.text
  have HV := Lib.hid hE
  have HF : Hid (∀ k, k < s.size → ∀ w, Env w → Calls Tryd.prog 31 #[.string (s.extract k s.size)] w fun e w' => TokEnd (tokAt (s.data.toList.drop k)) w e w') := by
    intro k hk w hE
    have h := first_any (s.extract k s.size) (by simp; omega) (by simp; omega) w hE
    rwa [ext_list] at h
  have hst := found_start s.data.toList
  have HST := Lib.hid hst
  have hss : skipL false s.data.toList ≤ s.size := by have := hst.1.1; simpa using this
  have h0' : skipL false (s.data.toList.drop 0) = skipL false s.data.toList := by rw [List.drop_zero]
  have HZ := Lib.hid h0'
  have HY := Lib.hid hY
  have HJ := Lib.hid hJ
  have HB0 := Lib.hid (And.intro hb0 hm)
  have H0 := Lib.hid h0
  clear hst h0' hE hR hY hJ hb0 hm h0
  refine callsIn_of_wp Tryd.func23 rfl trivial ?_ rfl
  simp only [Tryd.ntmps23, List.size_toArray, List.length_cons, List.length_nil, Nat.reduceAdd, Nat.reduceSub, Array.replicate_succ, Array.replicate_zero, List.push_toArray, List.append_toArray, List.nil_append, List.cons_append]
  gi_wp2_with (refine ⟨trivial, wide_depth _, ?_⟩; gi_at_call 30; refine (callsIn_wide.2 (HS.out 0 (Nat.zero_le _) _)).mono ?_; rw [HZ.out]; rintro e w' ⟨rfl, rfl⟩)
  gi_loopw [5] (fun i wr => ∃ (k : Nat) (pre : List (Nat × Tok)), k ≤ s.size ∧ i = .int .i64 k ∧ Hid (Found s.data.toList k pre) ∧ Hid (J pre wr) ∧ Hid (Below W0.heap.size W0 wr ∧ m ≤ wr.heap.size)) (fun i _ => s.size - (intOf i).toNat)
  case atStart => exact ⟨_, [], hss, rfl, HST, H0, HB0⟩
  case round =>
    obtain ⟨k, pre, hk, rfl, hfd, hj, hb1⟩ := hrel
    clear HST HZ HB0 H0
    have hl : s.data.toList.length = s.size := by simp
    have HL := Lib.hid hl
    clear hl
    by_cases hlt : k < s.size
    · cases ht : tokAt (s.data.toList.drop k) with
      | none =>
        have HB := Lib.hid (found_bad hfd.out (by rw [HL.out]; exact hlt) ht)
        have hF := HF.out k hlt
        rw [ht] at hF
        have HF1 : Hid (∀ w, Env w → Calls Tryd.prog 31 #[.string (s.extract k s.size)] w fun e w' => e = .returned (.tuple #[.agg #[.int .i64 0, .string ⟨#[]⟩, .int .i64 0], .bool false]) ∧ Below w.heap.size w w') := Lib.hid hF
        clear hF ht
        gi_wp2_with (refine ⟨trivial, wide_depth _, ?_⟩; gi_at_call 31; refine (callsIn_wide.2 (HF1.out _ (HV.out.below hb1.out.1))).mono ?_; rintro e w1 ⟨rfl, hb2⟩; have hb3 := hb1.out.1.trans (hb2.mono hb1.out.1.size); have hg : w1.cell? ⟨1, 0, none⟩ = some (.iface tp pv) := (hb3.cell (p := ⟨1, 0, none⟩) (by simp; omega)).trans HT.out; have hz : 1 < w1.heap.size := by (have := hb3.size; omega))
        go_ret
        refine ⟨⟨_, rfl⟩, .inl ?_⟩
        rw [HB.out]
        exact abides_below HJ.out (abides_below HJ.out hj.out hb2) ((Below.refl _ _).alloc (Nat.le_refl _) _)
      | some t =>
        have hnx := found_next hfd.out (by rw [HL.out]; exact hlt) ht
        rw [HL.out, ← bs_size t.text] at hnx
        obtain ⟨hle, h1, hfn⟩ := hnx
        have HFN := Lib.hid hfn
        have hF := HF.out k hlt
        rw [ht] at hF
        have HF1 : Hid (∀ w, Env w → Calls Tryd.prog 31 #[.string (s.extract k s.size)] w fun e w' => e = .returned (.tuple #[.agg #[.int .i64 t.kind, .string (bs t.text), .int .i64 t.num], .bool true]) ∧ Below w.heap.size w w') := Lib.hid hF
        have hpk := hfd.out.2.1
        have hle2 := hfn.1.1
        rw [HL.out] at hle2
        have HPX : Hid (pre ++ [(k, t)] <+: (lex false 0 s.data.toList).1) := by rw [hfn.2.2]; exact List.prefix_append _ _
        have HYT : Hid (∀ d W, J pre W → YieldAt Fence.wide d Tryd.prog l #[.int .i64 k, .agg #[.int .i64 t.kind, .string (bs t.text), .int .i64 t.num]] W fun e W' => (e = .returned (.bool true) ∧ J (pre ++ [(k, t)]) W' ∧ KC W0.heap.size m W W') ∨ (e = .returned (.bool false) ∧ Jx (pre ++ [(k, t)]) W')) :=
          fun d W hj => HY.out d pre (k, t) W hj HPX.out
        clear hF ht hfn
        generalize bs t.text = x at *
        have hsk := HS.out (k + x.size) hle
        have hkk : k < k + x.size + skipL false (s.data.toList.drop (k + x.size)) := by omega
        generalize k + x.size + skipL false (s.data.toList.drop (k + x.size)) = k' at *
        rw [Int.natCast_add] at hsk
        have HSK := Lib.hid hsk
        clear hsk HY
        gi_wp2_with (first
          | (refine ⟨trivial, wide_depth _, ?_⟩; gi_at_call 31; refine (callsIn_wide.2 (HF1.out _ (HV.out.below hb1.out.1))).mono ?_; rintro e w1 ⟨rfl, hb2⟩; have hb3 := hb1.out.1.trans (hb2.mono hb1.out.1.size); have hj2 := abides_below HJ.out (abides_below HJ.out hj.out hb2) ((Below.refl _ _).alloc (Nat.le_refl _) (.cells #[.int .i64 t.kind, .string x, .int .i64 t.num] 40)); have hmm := Nat.le_trans hb1.out.2 hb2.size; obtain ⟨fn, tmps, assign, body, hy, hRd⟩ := yield_box hmm (HYT.out (n - 1) _ hj2))
          | ((try refine ⟨wide_depth _, ?_⟩); refine hRd.mono ?_; clear hRd; rintro e w2 (⟨rfl, hJ2, hkc, hcx⟩ | ⟨rfl, hx2⟩))
          | (refine ⟨trivial, wide_depth _, ?_⟩; gi_at_call 30; refine (callsIn_wide.2 (HSK.out _)).mono ?_; rintro e w' ⟨rfl, rfl⟩))
        · have hbz := (hb3.alloc hb3.size (.cells #[.int .i64 t.kind, .string x, .int .i64 t.num] 40)).trans hkc.1
          have hmz := hkc.1.size
          refine ⟨⟨k', pre ++ [(k, t)], hle2, rfl, HFN, Lib.hid hJ2, Lib.hid ⟨hbz, by simp at hmz; omega⟩⟩, ?_⟩
          simp [intOf]
          omega
        · go_ret
          exact ⟨⟨_, rfl⟩, .inr ⟨_, HPX.out, hx2⟩⟩
    · have HB := Lib.hid (found_end hfd.out (by rw [HL.out]; omega))
      gi_wp2
      go_ret
      refine ⟨⟨_, rfl⟩, .inl ?_⟩
      rw [HB.out]
      exact hj.out

set_option maxHeartbeats 1000000 in
/-- Where the text is too large no round comes. -/
theorem scanIn_large (l n : Nat) (s : ByteArray) (hs : 16384 < s.size) (el : Value) (hl : ∃ tp p, el = .iface tp p) (W : World) (hc : W.cell? ⟨0, 0, none⟩ = some el) :
    CallsIn Fence.wide n Tryd.prog 23 #[.string s, .func (.yield l) #[] #[]] W fun e W' => e = .returned el ∧ W = W' := callsIn_wide.2 (scan_large s hs el hl _ W hc)

/-- The tokens with their places, as far as a text may go. -/
def lexU (s : ByteArray) : List (Nat × Tok) := if s.size ≤ 16384 then (lex false 0 s.data.toList).1 else []

set_option maxHeartbeats 1000000 in
/-- The closure that All returns. -/
theorem all1_in (W0 : World) (hE : Env W0) (el et : Value) (hR : Errs W0 el et) (l n m B Bs : Nat) (s : ByteArray) (J Jx : List (Nat × Tok) → World → Prop) (hJ : AbidesFrom B J)
    (hY : ∀ d pre x W, J pre W → pre ++ [x] <+: lexU s → YieldAt Fence.wide d Tryd.prog l (encT x) W fun e W' =>
      (e = .returned (.bool true) ∧ J (pre ++ [x]) W' ∧ KC W0.heap.size m W W') ∨ (e = .returned (.bool false) ∧ Jx (pre ++ [x]) W'))
    (W : World) (hb0 : Below W0.heap.size W0 W) (hm : m ≤ W.heap.size) (h0 : J [] W) (hc : W.cell? ⟨Bs, 0, none⟩ = some (.string s)) :
    CallsIn Fence.wide n Tryd.prog 26 #[.func (.yield l) #[] #[], .pointer (some ⟨Bs, 0, none⟩)] W fun e W' => (∃ v, e = .returned v) ∧ ((∃ ys, ys = lexU s ∧ J ys W') ∨ ∃ pre, pre <+: lexU s ∧ Jx pre W') := by
  have hgo : ∀ n, CallsIn Fence.wide n Tryd.prog 23 #[.string s, .func (.yield l) #[] #[]] W fun e W' => (∃ v, e = .returned v) ∧ ((∃ ys, ys = lexU s ∧ J ys W') ∨ ∃ pre, pre <+: lexU s ∧ Jx pre W') := by
    intro n
    unfold lexU
    rcases Nat.lt_or_ge 16384 s.size with hs | hs
    · have hcl : W.cell? ⟨0, 0, none⟩ = some el := (hb0.cell (p := ⟨0, 0, none⟩) (World.block_lt_of_cell? W0 _ hR.large)).trans hR.large
      refine (scanIn_large l n s hs el hR.islarge W hcl).mono ?_
      rintro e W' ⟨rfl, rfl⟩
      exact ⟨⟨_, rfl⟩, .inl ⟨[], by rw [if_neg (by omega)], h0⟩⟩
    · refine (scanIn_any W0 hE el et hR l n m B s hs J Jx hJ (fun d pre x W hj hp => hY d pre x W hj (by unfold lexU; rw [if_pos hs]; exact hp)) W hb0 hm h0).mono ?_
      rintro e W' ⟨he, h | h⟩
      · exact ⟨he, .inl ⟨_, by rw [if_pos hs], h⟩⟩
      · rw [if_pos hs]; exact ⟨he, .inr h⟩
  have HG := Lib.hid hgo
  clear hgo hY hJ h0 hR hE
  refine callsIn_of_wp Tryd.func26 rfl trivial ?_ rfl
  simp only [Tryd.ntmps26, List.size_toArray, List.length_cons, List.length_nil, Nat.reduceAdd, Nat.reduceSub, Array.replicate_succ, Array.replicate_zero, List.push_toArray, List.append_toArray, List.nil_append, List.cons_append]
  gi_wp2_with (refine ⟨trivial, wide_depth _, ?_⟩; gi_at_call 23; refine (HG.out _).mono ?_; rintro e w' ⟨⟨v, rfl⟩, hend⟩)
  go_end0
  exact ⟨⟨_, rfl⟩, hend⟩

theorem lexU_len (s : ByteArray) : (lexU s).length ≤ 16384 := by
  unfold lexU
  split
  · rename_i h
    have h1 := lex_len s.data.toList.length false 0 s.data.toList (Nat.le_refl _)
    have h2 : s.data.toList.length = s.size := by simp
    omega
  · simp
/-- A token of the text s with its place. -/
abbrev TokOf (s : ByteArray) := { x : Nat × Tok // x ∈ lexU s }

/-- All's value goes over the text's tokens with their places. -/
theorem all_stops (W0 : World) (hE : Env W0) (el et : Value) (hR : Errs W0 el et) (n m Bs : Nat) (s : ByteArray) (w : World) (hb0 : Below W0.heap.size W0 w) (hm : m ≤ w.heap.size) (hBs : Bs < w.heap.size) (hc : w.cell? ⟨Bs, 0, none⟩ = some (.string s)) :
    SeqStopsK Fence.wide n Tryd.prog 26 #[.pointer (some ⟨Bs, 0, none⟩)] (fun x : TokOf s => encT x.1) (KC W0.heap.size m) (fun ys => ys.map (·.1) = lexU s) (fun pre => pre.map (·.1) <+: lexU s) 20000 w := fun l J Jx W hW hJ _ hY h0 => by
  have hJ' : AbidesFrom W.heap.size (fun (pre : List (Nat × Tok)) W => ∃ p' : List (TokOf s), p'.map (·.1) = pre ∧ J p' W) := by
    rintro _ X Y row ⟨p', rfl, hj⟩ hg hr
    exact ⟨p', rfl, hJ p' X Y row hj hg hr⟩
  refine (all1_in W0 hE el et hR l n m W.heap.size Bs s (fun pre W => ∃ p' : List (TokOf s), p'.map (·.1) = pre ∧ J p' W) (fun pre W => ∃ p' : List (TokOf s), p'.map (·.1) = pre ∧ Jx p' W) hJ' ?_ W (hb0.trans (hW.mono hb0.size)) (Nat.le_trans hm hW.size) ⟨[], rfl, h0⟩ ((hW.cell (p := ⟨Bs, 0, none⟩) hBs).trans hc)).mono ?_
  · rintro d _ x V ⟨p', rfl, hj⟩ hpx
    have hx : x ∈ lexU s := hpx.subset (List.mem_append_right _ (List.mem_singleton.2 rfl))
    have hlen := hpx.length_le
    have hU := lexU_len s
    simp only [List.length_append, List.length_map, List.length_cons, List.length_nil] at hlen
    refine YieldAt.mono (yieldAt_any rfl d (hY p' ⟨x, hx⟩ V hj (by omega))) fun e W' h => h.elim (fun ⟨he, hj2, hk⟩ => .inl ⟨he, ⟨p' ++ [⟨x, hx⟩], by simp, hj2⟩, hk⟩) (fun ⟨he, hj2⟩ => .inr ⟨he, ⟨p' ++ [⟨x, hx⟩], by simp, hj2⟩⟩)
  · rintro e W' ⟨he, ⟨_, rfl, p', hp, hj⟩ | ⟨_, hpre, p', rfl, hj⟩⟩
    · exact ⟨he, .inl ⟨p', hp, hj⟩⟩
    · exact ⟨he, .inr ⟨p', hpre, hj⟩⟩

/-- All: the text is boxed; the function value captures the box. -/
theorem lexAll_in (n : Nat) (s : ByteArray) (w : World) :
    CallsIn Fence.wide n Tryd.prog 17 #[.string s] w fun e w' => e = .returned (.func (.func 26) #[] #[.pointer (some ⟨w.heap.size, 0, none⟩)]) ∧ w' = w.alloc (.cells #[.string s] 9) := by
  refine callsIn_of_wp Tryd.func17 rfl trivial ?_ rfl
  simp only [Tryd.ntmps17, List.size_toArray, List.length_cons, List.length_nil, Nat.reduceAdd, Nat.reduceSub, Array.replicate_succ, Array.replicate_zero, List.push_toArray, List.append_toArray, List.nil_append, List.cons_append]
  gi_wp2
  go_ret
  exact ⟨rfl, rfl⟩

end Lx
end Go.Proofs.YtdalldhgfdnaeaaDoor
