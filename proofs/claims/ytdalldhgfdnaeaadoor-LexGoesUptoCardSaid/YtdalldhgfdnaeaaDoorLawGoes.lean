/- The walk of the statement LexGoes: it returns true. Conditions: the text has at most 1048576 bytes; the error variables hold an error; strconv's variables hold what they should. -/
import Derived.Test.YtdalldhgfdnaeaaDoorLawPlaces
import Derived.Test.YtdalldhgfdnaeaaDoorRefAll
import Derived.Test.YtdalldhgfdnaeaaDoorMarks
namespace Go.Proofs.YtdalldhgfdnaeaaDoor
namespace Lx
open Go Go.RowKit Go.Shelf Go.BigFrame
attribute [local go_sem] Oper.semAt_some

theorem owns_keep {W W' : World} {row : Option Nat} {base e size n : Nat} {v : Value} {xs : List Value} (h : W.ownsRow base e size v n xs) (hg : W.grownBy W' row) (hr : ∀ r, row = some r → ∃ o : Obj, W.heap[r]? = some o ∧ o.isCells = false) : W'.ownsRow base e size v n xs := by
  refine h.kept hg ?_
  rcases h.2 with ⟨rfl, _⟩ | ⟨g, cap, cur, rfl, _, hgb, _⟩
  · exact .inl rfl
  · refine .inr fun e' => ?_
    obtain ⟨o, ho, hc⟩ := hr g (by simpa [Value.ownBlock] using e'.symm)
    rw [hgb] at ho
    cases ho
    cases hc

/-- What the two rows and the variables hold, all through. -/
def GoF (s : ByteArray) (stop : Int) (w : World) (b : Nat) (PV OV : Value) (W : World) : Prop :=
  Boxed W b 33 PV ∧ Boxed W (b + 1) 23 OV ∧ Boxed W w.heap.size 3 (.int .i64 stop) ∧ Boxed W (w.heap.size + 1) 4 (.bool false) ∧ Boxed W (b + 1 + 1) 9 (.string s) ∧
  W.ownsRow w.heap.size 3 1 PV (lexU s).length (placesV (lexU s)) ∧ W.ownsRow w.heap.size 40 3 OV (lexU s).length (cellsT ((lexU s).map (·.2))) ∧ Below w.heap.size w W ∧
  b + 3 ≤ W.heap.size ∧ w.heap.size + 1 < b ∧ (∀ g, PV.ownBlock = some g → g < b + 3) ∧ (∀ g, OV.ownBlock = some g → g < b + 3)
theorem GoF.keep {s : ByteArray} {stop : Int} {w : World} {b : Nat} {PV OV : Value} {W W' : World} {row : Option Nat} (h : GoF s stop w b PV OV W) (hg : W.grownBy W' row) (hr : ∀ r, row = some r → w.heap.size ≤ r ∧ ∃ o : Obj, W.heap[r]? = some o ∧ o.isCells = false) : GoF s stop w b PV OV W' := by
  obtain ⟨h1, h2, h3, h4, h5, h6, h7, h8, h9, h10⟩ := h
  have hr' : ∀ r, row = some r → ∃ o : Obj, W.heap[r]? = some o ∧ o.isCells = false := fun r e => (hr r e).2
  exact ⟨boxed_keep h1 hg hr', boxed_keep h2 hg hr', boxed_keep h3 hg hr', boxed_keep h4 hg hr', boxed_keep h5 hg hr', owns_keep h6 hg hr', owns_keep h7 hg hr', h8.grown hg h8.size (fun k e => (hr k e).1), Nat.le_trans h9 hg.size, h10⟩
theorem GoF.alloc {s : ByteArray} {stop : Int} {w : World} {b : Nat} {PV OV : Value} {W : World} (h : GoF s stop w b PV OV W) (o : Obj) : GoF s stop w b PV OV (W.alloc o) :=
  h.keep (World.grownBy_alloc W o none) (fun r e => by cases e)
theorem GoF.drewN {s : ByteArray} {stop : Int} {w : World} {b : Nat} {PV OV : Value} {W : World} (h : GoF s stop w b PV OV W) (n : Nat) : GoF s stop w b PV OV (W.drewN n) :=
  ⟨h.1, h.2.1, h.2.2.1, h.2.2.2.1, h.2.2.2.2.1, h.2.2.2.2.2.1, h.2.2.2.2.2.2.1, below_dN h.2.2.2.2.2.2.2.1 n, h.2.2.2.2.2.2.2.2⟩
/-- A store into a variable that is none of these. -/
theorem GoF.set {s : ByteArray} {stop : Int} {w : World} {b : Nat} {PV OV : Value} {W : World} (h : GoF s stop w b PV OV W) {N : Nat} (hN : b + 3 ≤ N) (u : Value) : GoF s stop w b PV OV (W.setCell ⟨N, 0, none⟩ u) := by
  obtain ⟨i1, i2, i3, i4, i5, i6, i7, i8, i9, i10, i11, i12⟩ := h
  refine ⟨i1.other (by omega) _, i2.other (by omega) _, i3.other (by omega) _, i4.other (by omega) _, i5.other (by omega) _, i6.kept (grownBy_setCell' W N u) (.inr fun e => ?_), i7.kept (grownBy_setCell' W N u) (.inr fun e => ?_), i8.setCell (p := ⟨N, 0, none⟩) (by show _ ≤ N; omega) _, ?_, i10, i11, i12⟩
  · have := i11 N e; omega
  · have := i12 N e; omega
  · show _ ≤ (W.setCell _ _).heap.size
    simp [World.setCell]
    exact i9
theorem rows_base {B B' e size n : Nat} {W : World} {v : Value} {xs : List Value} (hB : B ≤ B') (h : W.ownsRow B' e size v n xs) : W.ownsRow B e size v n xs := by
  refine ⟨h.1, ?_⟩
  rcases h.2 with h1 | ⟨g, cap, cur, hv, hb, r⟩
  · exact .inl h1
  · exact .inr ⟨g, cap, cur, hv, by omega, r⟩
theorem goF_mk {s : ByteArray} {stop : Int} {w w2 : World} (h1 : Boxed w2 w.heap.size 3 (.int .i64 stop)) (h2 : Boxed w2 (w.heap.size + 1) 4 (.bool false)) (h3 : Below w.heap.size w w2) (PV OV : Value)
    (h4 : w2.ownsRow w.heap.size 3 1 PV (lexU s).length (placesV (lexU s))) (h5 : w2.ownsRow w.heap.size 40 3 OV (lexU s).length (cellsT ((lexU s).map (·.2)))) :
    GoF s stop w w2.heap.size PV OV (((w2.alloc (.cells #[PV] 33)).alloc (.cells #[OV] 23)).alloc (.cells #[.string s] 9)) := by
  have e1 : (w2.alloc (.cells #[PV] 33)).heap.size = w2.heap.size + 1 := World.size_alloc _ _
  have e2 : ((w2.alloc (.cells #[PV] 33)).alloc (.cells #[OV] 23)).heap.size = w2.heap.size + 1 + 1 := by rw [World.size_alloc, e1]
  have b2 := (Boxed.new (w2.alloc (.cells #[PV] 33)) 23 OV).alloc (.cells #[.string s] 9)
  have b3 := Boxed.new ((w2.alloc (.cells #[PV] 33)).alloc (.cells #[OV] 23)) 9 (.string s)
  rw [e1] at b2
  rw [e2] at b3
  have hl := h2.lt
  have hz := h3.size
  refine ⟨((Boxed.new w2 _ _).alloc _).alloc _, b2, ((h1.alloc _).alloc _).alloc _, ((h2.alloc _).alloc _).alloc _, b3, ((h4.alloc _).alloc _).alloc _, ((h5.alloc _).alloc _).alloc _, ((h3.alloc hz _).alloc (by rw [e1]; omega) _).alloc (by rw [e2]; omega) _, ?_, hl, fun g e => ?_, fun g e => ?_⟩
  · rw [World.size_alloc, e2]; omega
  · have := (h4.lt g e).2; omega
  · have := (h5.lt g e).2; omega

/-- What holds between two rounds of the inner loop. -/
def GoI (s : ByteArray) (stop : Int) (w : World) (b : Nat) (PV OV : Value) (N M : Nat) (ds : List Nat) (pre : List (TokOf s)) (V : World) : Prop :=
  GoF s stop w b PV OV V ∧ Boxed V N 3 (.int .i64 (pre.length : Nat)) ∧ M ≤ V.heap.size ∧ pre.map (·.1) <+: lexU s ∧ ∀ D ∈ ds, w.heap.size ≤ D ∧ V.heap[D]? = some (.deferred (some []))
def GoX (s : ByteArray) (stop : Int) (w : World) (b : Nat) (PV OV : Value) (N M : Nat) (ds : List Nat) (c : Code) (pre : List (TokOf s)) (V : World) : Prop :=
  (c = .ret ∧ ¬ pre.map (·.1) <+: lexU s) ∨ (c = .exit 2 ∧ GoI s stop w b PV OV N M ds pre V ∧ (pre.length : Int) = stop)
theorem goI_own (s : ByteArray) (stop : Int) (w : World) (b : Nat) (PV OV : Value) (N M : Nat) (ds : List Nat) (hM : w.heap.size ≤ M) (hds : ∀ D ∈ ds, D < M) : OwnFrom M (GoI s stop w b PV OV N M ds) := by
  rintro pre X Y row ⟨h1, h2, h3, h4, h5⟩ hg hr
  refine ⟨h1.keep hg (fun r e => ⟨Nat.le_trans hM (hr r e).1, (hr r e).2⟩), boxed_keep h2 hg (fun r e => (hr r e).2), Nat.le_trans h3 hg.size, h4, fun D hD => ⟨(h5 D hD).1, ?_⟩⟩
  refine (hg.block D (Array.getElem?_eq_some_iff.1 (h5 D hD).2).1 (fun e => ?_)).trans (h5 D hD).2
  have h6 := (hr D e.symm).1
  have h7 := hds D hD
  omega
theorem goX_own (s : ByteArray) (stop : Int) (w : World) (b : Nat) (PV OV : Value) (N M : Nat) (ds : List Nat) (hM : w.heap.size ≤ M) (hds : ∀ D ∈ ds, D < M) (c : Code) : OwnFrom M (GoX s stop w b PV OV N M ds c) := by
  rintro pre X Y row (h | ⟨h1, h2, h3⟩) hg hr
  · exact .inl h
  · exact .inr ⟨h1, goI_own s stop w b PV OV N M ds hM hds pre X Y row h2 hg hr, h3⟩

/-- The length of a slice that owns n elements. -/
theorem owns_len {W : World} {base e size n m c : Nat} {v : Value} {A : Option Addr} {xs : List Value} (h : W.ownsRow base e size v n xs) (hv : v = .slice A m c) : m = n := by
  subst hv
  rcases h.2 with ⟨h1, h2⟩ | ⟨g, cap, cur, h1, _⟩
  · injection h1 with _ h3 _
    omega
  · injection h1
/-- The loop goes on. -/
theorem goI_next {s : ByteArray} {stop : Int} {w : World} {b : Nat} {PV OV : Value} {N M : Nat} {ds : List Nat} {pre : List (TokOf s)} {x : TokOf s} {V : World} (h : GoI s stop w b PV OV N M ds pre V) (nq : Nat) (hN : b + 3 ≤ N) (hds : ∀ D ∈ ds, D ≠ N)
    (hx : (pre ++ [x]).map (·.1) <+: lexU s) : GoI s stop w b PV OV N M ds (pre ++ [x]) ((V.drewN nq).setCell ⟨N, 0, none⟩ (.int .i64 ((pre.length : Int) + 1))) := by
  obtain ⟨i1, i2, i3, i4, i5⟩ := h
  refine ⟨(i1.drewN nq).set hN _, ?_, ?_, hx, fun D hD => ⟨(i5 D hD).1, ?_⟩⟩
  · rw [List.length_append, List.length_cons, List.length_nil, Int.natCast_add]
    exact (boxed_drewN i2 nq).set _
  · show _ ≤ ((V.drewN nq).setCell _ _).heap.size
    simp [World.setCell]
    exact i3
  · exact (Below.heap_setCell (V.drewN nq) _ _ D (hds D hD)).trans (i5 D hD).2

/-- What the outer loop carries on: one mark more. -/
theorem goes_next {s : ByteArray} {stop : Int} {w : World} {b M D : Nat} {PV OV : Value} {ds : List Nat} {Y : World} (hnd : ds.Nodup) (h : GoF s stop w b PV OV Y) (hds : ∀ D ∈ ds, w.heap.size ≤ D ∧ Y.heap[D]? = some (.deferred (some []))) (hM : ∀ D ∈ ds, D < M) (hD : M ≤ D) (hw : w.heap.size ≤ D) (hK : Y.heap[D]? = some (.deferred (some []))) :
    (D :: ds).Nodup ∧ Hid (∀ E ∈ D :: ds, w.heap.size ≤ E ∧ Y.heap[E]? = some (.deferred (some []))) ∧ Hid (GoF s stop w b PV OV Y) := by
  refine ⟨List.nodup_cons.2 ⟨fun hm => ?_, hnd⟩, Lib.hid (fun E hE => ?_), Lib.hid h⟩
  · have := hM D hm
    omega
  · rcases List.mem_cons.1 hE with rfl | hE
    · exact ⟨hw, hK⟩
    · exact hds E hE

/-- What a beginning's next element is. -/
theorem snoc_at {L pre : List (Nat × Tok)} {x : Nat × Tok} (h : pre ++ [x] <+: L) : pre.length < L.length ∧ ∀ hl : pre.length < L.length, L[pre.length] = x := by
  obtain ⟨r, rfl⟩ := h
  refine ⟨by simp, fun _ => ?_⟩
  simp
theorem snoc_next {L pre : List (Nat × Tok)} (h : pre <+: L) (hl : pre.length < L.length) : pre ++ [L[pre.length]] <+: L := by
  obtain ⟨r, rfl⟩ := h
  cases r with
  | nil => simp at hl
  | cons y r =>
    refine ⟨r, ?_⟩
    simp
theorem placesV_at (L : List (Nat × Tok)) (k : Nat) (hk : k < L.length) : (placesV L)[k]? = some (.int .i64 (L[k]).1) := by
  unfold placesV
  rw [List.getElem?_map, List.getElem?_eq_getElem hk]
  rfl
theorem Rise.inj {l : List UInt8} : ∀ {r : List (Nat × Tok)} {e : Nat}, Rise l e r → ∀ x ∈ r, ∀ y ∈ r, x.1 = y.1 → x = y
  | z :: r, e, h, x, hx, y, hy, hxy => by
    have hlow : ∀ (r : List (Nat × Tok)) (e : Nat), Rise l e r → ∀ x ∈ r, e ≤ x.1 := by
      intro r
      induction r with
      | nil => intro e _ x hx; cases hx
      | cons z r ih =>
        intro e h x hx
        rcases List.mem_cons.1 hx with rfl | hx
        · exact h.1
        · have := ih _ h.2.2.2.2 x hx
          have := h.1
          omega
    have hz := h.2.2.2.1
    rcases List.mem_cons.1 hx with rfl | hx'
    · rcases List.mem_cons.1 hy with rfl | hy
      · rfl
      · have := hlow r _ h.2.2.2.2 y hy
        omega
    · rcases List.mem_cons.1 hy with rfl | hy
      · have := hlow r _ h.2.2.2.2 x hx'
        omega
      · exact Rise.inj h.2.2.2.2 x hx' y hy hxy
theorem lexU_inj (s : ByteArray) {x y : Nat × Tok} (hx : x ∈ lexU s) (hy : y ∈ lexU s) (h : x.1 = y.1) : x = y := by
  unfold lexU at hx hy
  split at hx
  · rename_i hs
    rw [if_pos hs] at hy
    exact (rise_all s.data.toList).inj x hx y hy h
  · cases hx

/-- The loop's variables lie in a block of their own. -/
theorem goA_own {s : ByteArray} (M : Nat) (x : TokOf s) (a' : Act) (fr : Nat → Array Value) : OwnFrom M (fun (_ : Unit) Y => ∃ Bx, M ≤ Bx ∧ Y.heap[Bx]? = some (.cells #[.int .i64 x.1.2.kind, .string (bs x.1.2.text), .int .i64 x.1.2.num] 40 (0, 0)) ∧ a' = { tmps := fr Bx, defers := [] }) := by
  rintro _ X Y row ⟨Bx, h1, h2, h3⟩ hg hr
  refine ⟨Bx, h1, (hg.block Bx (Array.getElem?_eq_some_iff.1 h2).1 (fun e => ?_)).trans h2, h3⟩
  obtain ⟨o, ho, hc⟩ := (hr Bx e.symm).2
  rw [h2] at ho
  cases ho
  cases hc

set_option maxRecDepth 100000 in
set_option maxHeartbeats 8000000 in
theorem lawGoes_any (s : ByteArray) (hs : s.size ≤ 1048576) (stop : Int) (w : World) (hE : Env w) (el et : Value) (hR : Errs w el et) :
    Calls Tryd.prog 4 #[.string s, .int .i64 stop] w fun e w' => e = .returned (.bool true) ∧ Below w.heap.size w w' := by
  have HV := Lib.hid hE
  have HW := Lib.hid hR
  have hsz := hE.size
  have HA := Lib.hid (fun W hE hR => alive_any W hE el et hR)
  have HALL := Lib.hid (fun W => refAll_any s (by omega) W)
  have hbw : Below w.heap.size w ((w.alloc (.cells #[.int .i64 stop] 3)).alloc (.cells #[.bool false] 4)) := ((Below.refl _ _).alloc (Nat.le_refl _) _).alloc (by simp) _
  have HB := Lib.hid hbw
  clear hE hR hbw
  refine (callsIn_wide (n := 6)).1 ?_
  refine callsIn_of_wp_marks Tryd.func4 rfl trivial ?_ rfl
  simp only [Tryd.ntmps4, List.size_toArray, List.length_cons, List.length_nil, Nat.reduceAdd, Nat.reduceSub, Array.replicate_succ, Array.replicate_zero, List.push_toArray, List.append_toArray, List.nil_append, List.cons_append]
  gi_wp2_with (fail)
  refine ⟨trivial, ?_⟩
  refine (callsIn_wide.2 (HA.out _ (HV.out.below HB.out) (HW.out.below hsz HB.out))).mono ?_
  rintro e w1 ⟨rfl, hb1⟩
  have hS1 : Boxed w1 w.heap.size 3 (.int .i64 stop) := (hb1.block _ (by simp; omega)).trans ((Boxed.new w _ _).alloc _)
  have hR1 : Boxed w1 (w.heap.size + 1) 4 (.bool false) := (hb1.block _ (by simp)).trans (by have := Boxed.new (w.alloc (.cells #[.int .i64 stop] 3)) 4 (.bool false); rwa [World.size_alloc] at this)
  have hb2 := HB.out.trans (hb1.mono HB.out.size)
  gi_wp2_with (fail)
  refine ⟨trivial, ?_⟩
  refine (callsIn_wide.2 (HALL.out _)).mono ?_
  rintro e w2 ⟨hb3, pv, ov, rfl, hpv, hov⟩
  have hS2 : Boxed w2 w.heap.size 3 (.int .i64 stop) := (hb3.block _ hS1.lt).trans hS1
  have hR2 : Boxed w2 (w.heap.size + 1) 4 (.bool false) := (hb3.block _ hR1.lt).trans hR1
  have hb4 := hb2.trans (hb3.mono hb2.size)
  obtain ⟨Ap, cp, rfl⟩ := owns_shape hpv
  obtain ⟨Ao, co, rfl⟩ := owns_shape hov
  have HPV := Lib.hid (rows_base hb2.size hpv)
  have HOV := Lib.hid (rows_base hb2.size hov)
  have hw2 := hR2.lt
  clear hpv hov hS1 hR1
  rcases Nat.lt_or_ge 16384 s.size with hbig | hsm
  · have hq : decide ((16384 : Int) < (s.size : Int)) = true := by simp; omega
    gi_wp2_with (fail)
    refine ⟨trivial, ?_⟩
    refine (lexAll_in _ _ _).mono ?_
    rintro e w' ⟨rfl, rfl⟩
    gi_wp2_with (fail)
    have hG0 : ∃ PV OV : Value, GoF s stop w w2.heap.size PV OV (((w2.alloc (.cells #[.slice none 0 0] 33)).alloc (.cells #[.slice none 0 0] 23)).alloc (.cells #[.string s] 9)) := ⟨_, _, goF_mk (s := s) hS2 hR2 hb4 (.slice none 0 0) (.slice none 0 0) (by rw [show lexU s = [] from if_neg (by omega)]; exact World.ownsRow_nil _ _ _ _) (by rw [show lexU s = [] from if_neg (by omega)]; exact World.ownsRow_nil _ _ _ _)⟩
    generalize ((w2.alloc (.cells #[.slice none 0 0] 33)).alloc (.cells #[.slice none 0 0] 23)).alloc (.cells #[.string s] 9) = W3 at hG0 ⊢
    obtain ⟨PV, OV, hG0⟩ := hG0
    have HG0 := Lib.hid hG0
    clear hG0 HPV HOV hS2 hR2
    refine loop_inv 2 (fun (k : Nat) (a : Act) (V : World) => ∃ (ds : List Nat) (u0 u1 u2 u7 u9 u10 u11 u12 u13 u14 u15 u16 u17 u18 u19 u20 u21 u22 u23 u24 u26 u27 u28 u29 u30 u31 u32 u33 u34 u35 u36 u37 u38 u39 u40 u41 u42 u43 u44 u45 u46 u47 u48 u49 u50 u51 u52 u53 u54 u55 u56 u57 u58 u59 u60 u61 u62 u63 u64 : Value), a = { tmps := #[u0, u1, u2, .pointer (some ⟨w.heap.size, 0, none⟩), .pointer (some ⟨w.heap.size + 1, 0, none⟩), .pointer (some ⟨w2.heap.size, 0, none⟩), .pointer (some ⟨w2.heap.size + 1, 0, none⟩), u7, .func (.func 26) #[] #[.pointer (some ⟨w2.heap.size + 1 + 1, 0, none⟩)], u9, u10, u11, u12, u13, u14, u15, u16, u17, u18, u19, u20, u21, u22, u23, u24, .int .i64 k, u26, u27, u28, u29, u30, u31, u32, u33, u34, u35, u36, u37, u38, u39, u40, u41, u42, u43, u44, u45, u46, u47, u48, u49, u50, u51, u52, u53, u54, u55, u56, u57, u58, u59, u60, u61, u62, u63, u64], defers := ds.map markOf } ∧ ds.Nodup ∧ Hid (∀ D ∈ ds, w.heap.size ≤ D ∧ V.heap[D]? = some (.deferred (some []))) ∧ Hid (GoF s stop w w2.heap.size PV OV V)) ?_ ?_ ?_
    · exact ⟨[], _, _, _, _, _, _, _, _, _, _, _, _, _, _, _, _, _, _, _, _, _, _, _, _, _, _, _, _, _, _, _, _, _, _, _, _, _, _, _, _, _, _, _, _, _, _, _, _, _, _, _, _, _, _, _, _, _, _, _, rfl, List.nodup_nil, Lib.hid (fun D hD => absurd hD (List.not_mem_nil)), HG0⟩
    · rintro k a V hk ⟨ds, u0, u1, u2, u7, u9, u10, u11, u12, u13, u14, u15, u16, u17, u18, u19, u20, u21, u22, u23, u24, u26, u27, u28, u29, u30, u31, u32, u33, u34, u35, u36, u37, u38, u39, u40, u41, u42, u43, u44, u45, u46, u47, u48, u49, u50, u51, u52, u53, u54, u55, u56, u57, u58, u59, u60, u61, u62, u63, u64, rfl, hnd, hds, hG⟩
      clear HG0
      have hk2 : decide ((k : Int) < 2) = true := by simp; omega
      gi_wp2_with (fail)
      have hG1 := hG.out.alloc (.cells #[.int .i64 0] 3)
      have hbV := hG.out.2.2.2.2.2.2.2.1
      have hzV := hG.out.2.2.2.2.2.2.2.2.1
      have hww := hG.out.2.2.2.2.2.2.2.2.2.1
      have hN1 := Boxed.new V 3 (.int .i64 0)
      obtain ⟨M, hM⟩ : ∃ M, M = (V.alloc (.cells #[.int .i64 0] 3)).heap.size := ⟨_, rfl⟩
      have hM2 : M = V.heap.size + 1 := by rw [hM]; exact World.size_alloc _ _
      have hbV1 := hbV.alloc hbV.size (.cells #[.int .i64 0] 3)
      have hdl : ∀ D ∈ ds, D < M := fun D hD => by have := (Array.getElem?_eq_some_iff.1 (hds.out D hD).2).1; omega
      have hI0 : GoI s stop w w2.heap.size PV OV V.heap.size M ds [] (V.alloc (.cells #[.int .i64 0] 3)) :=
        ⟨hG1, hN1, Nat.le_of_eq hM, List.nil_prefix, fun D hD => ⟨(hds.out D hD).1, (heap_alloc_old V _ (Array.getElem?_eq_some_iff.1 (hds.out D hD).2).1).trans (hds.out D hD).2⟩⟩
      have hst := all_stops w HV.out el et HW.out 5 M (w2.heap.size + 1 + 1) s _ hbV1 (Nat.le_of_eq hM) hG1.2.2.2.2.1.lt hG1.2.2.2.2.1.cell
      have hwM : w.heap.size ≤ M := by rw [hM]; exact hbV1.size
      generalize V.alloc (.cells #[.int .i64 0] 3) = V1 at *
      clear hG1 hN1
      refine wpIn_rangeFunc_ownH rfl (by omega) (gf := 26) (lb := #[.pointer (some ⟨w2.heap.size + 1 + 1, 0, none⟩)]) rfl trivial (enters_of Tryd.func26 (by kernel_rfl) rfl) hst KC.trans (fun W l o o' hl h hc hw => KC.put (by rw [← hM]; exact hwM) W l o o' hl h hc hw) (Below.refl _ _) (fun _ => rfl)
        (GoI s stop w w2.heap.size PV OV V.heap.size M ds) (GoX s stop w w2.heap.size PV OV V.heap.size M ds) (by rw [← hM]; exact goI_own s stop w _ PV OV _ M ds hwM hdl) (fun c => by rw [← hM]; exact goX_own s stop w _ PV OV _ M ds hwM hdl c) hI0 (fun (x : TokOf s) (a' : Act) (Y : World) => ∃ Bx, M ≤ Bx ∧ Y.heap[Bx]? = some (.cells #[.int .i64 x.1.2.kind, .string (bs x.1.2.text), .int .i64 x.1.2.num] 40 (0, 0)) ∧ a' = { tmps := #[u0, u1, u2, .pointer (some ⟨w.heap.size, 0, none⟩), .pointer (some ⟨w.heap.size + 1, 0, none⟩), .pointer (some ⟨w2.heap.size, 0, none⟩), .pointer (some ⟨w2.heap.size + 1, 0, none⟩), u7, .func (.func 26) #[] #[.pointer (some ⟨w2.heap.size + 1 + 1, 0, none⟩)], .pointer (some ⟨V.heap.size, 0, none⟩), .int .i64 x.1.1, .pointer (some ⟨Bx, 0, none⟩), u12, u13, u14, u15, u16, u17, u18, u19, u20, u21, u22, u23, u24, .int .i64 k, .bool true, .func (.func 26) #[] #[.pointer (some ⟨w2.heap.size + 1 + 1, 0, none⟩)], .int .i64 x.1.1, .agg #[.int .i64 x.1.2.kind, .string (bs x.1.2.text), .int .i64 x.1.2.num], u30, u31, u32, u33, u34, u35, u36, u37, u38, u39, u40, u41, u42, u43, u44, u45, u46, u47, u48, u49, u50, u51, u52, u53, u54, u55, u56, u57, u58, u59, u60, u61, u62, u63, u64], defers := [] }) (fun x a' => by rw [← hM]; exact goA_own M x a' _) ?assign ?body ?done ?stop
      case assign =>
        rintro l pre x W K ⟨i1, i2, i3, i4, i5⟩ hK
        have hK' := Lib.hid hK
        clear hK
        gi_wp2
        refine hK'.out _ _ ((KeepsOthers.alloc _ _).from _) ((KC.refl _ _ _).alloc i1.2.2.2.2.2.2.2.1.size _) ⟨i1.alloc _, i2.alloc _, by simp; omega, i4, fun D hD => ⟨(i5 D hD).1, (heap_alloc_old W _ (Array.getElem?_eq_some_iff.1 (i5 D hD).2).1).trans (i5 D hD).2⟩⟩ ⟨W.heap.size, i3, heap_alloc_new _ _, rfl⟩
      case body =>
        rintro l pre x a' W hl ⟨r, hr⟩ ⟨i1, i2, i3, i4, i5⟩ ⟨Bx, hBx, hX, rfl⟩ hlen
        have HI := Lib.hid (And.intro i1 (And.intro i2 (And.intro i3 (And.intro i4 i5))))
        have hU := lexU_len s
        have hpl := i4.length_le
        rw [List.length_map] at hpl
        obtain ⟨f1, f2, f3, f4, f5, f6, f7, f8, f9, f10, f11, f12⟩ := i1
        have cPB := f1.cell
        have cWB := f2.cell
        have cSt := f3.cell
        have cR := f4.cell
        have gR := f4.frozen
        have cN := i2.cell
        have gN := i2.frozen
        have hlN := i2.lt
        have hlR := f4.lt
        obtain ⟨hx0, hx1, hx2⟩ := tok_cells hX
        have HNO := Lib.hid (fun h : (pre ++ [x]).map (·.1) <+: lexU s => snoc_at (pre := pre.map (·.1)) (x := x.1) (by simpa using h))
        have HYES := Lib.hid (fun h => snoc_next (L := lexU s) (pre := pre.map (·.1)) i4 h)
        rw [List.length_map] at HNO HYES
        have KO := Lib.hid (fun (q N' : Nat) (u : Value) => ((ko_drewN W q).trans (KeepsOthers.setCell _ ⟨N', 0, none⟩ u)).from V1.heap.size)
        have HDN := Lib.hid (fun D (hD : D ∈ ds) => (Nat.ne_of_lt (Array.getElem?_eq_some_iff.1 (hds.out D hD).2).1 : D ≠ V.heap.size))
        clear i2 i4 i5 f1 f2 f3 f4 f5 f11 f12 hX hst hI0 hdl hG hds hbV hbV1
        by_cases hn : pre.length < (lexU s).length
        · obtain ⟨g, cap, hPV, hg1, hg2⟩ := f6.form (by omega)
          obtain ⟨g', cap', hOV, hg1', hg2'⟩ := f7.form (by omega)
          rw [hPV] at f6 cPB
          rw [hOV] at f7 cWB
          have cP := f6.cellAt pre.length (by omega)
          have cO0 := f7.cellAt (3 * pre.length) (by omega)
          have cO1 := f7.cellAt (3 * pre.length + 1) (by omega)
          have cO2 := f7.cellAt (3 * pre.length + 2) (by omega)
          obtain ⟨e0, e1, e2⟩ := cellsT_at ((lexU s).map (·.2)) pre.length (by rw [List.length_map]; exact hn)
          rw [e0] at cO0
          rw [e1] at cO1
          rw [e2] at cO2
          rw [placesV_at _ _ hn] at cP
          rw [List.getElem_map] at cO0 cO1 cO2
          rw [Nat.mul_comm] at cO0 cO1 cO2
          have hinj := lexU_inj s x.2 (List.getElem_mem hn)
          have HN := HYES.out hn
          have hyx : (lexU s)[pre.length] = x.1 → (pre ++ [x]).map (·.1) <+: lexU s := fun h => by
            rw [h] at HN
            simpa using HN
          have HNX := Lib.hid hyx
          have HNO2 := Lib.hid (fun h => (HNO.out h).2 hn)
          have t1 : decide ((lexU s).length ≤ pre.length) = false := by simp; omega
          have hHO := Lib.hid hOV
          have hHP := Lib.hid hPV
          clear HN hyx e0 e1 e2 f6 f7 HNO HYES hOV hPV hpl
          generalize (lexU s)[pre.length] = y at *
          by_cases hp : x.1.1 = y.1
          · have hxy := hinj hp
            subst hxy
            have HNX1 := Lib.hid (HNX.out rfl)
            clear hp hinj HNO2 HNX
            gi_wp2_with (fail)
            refine wpIn_quiet_round rfl (by kernel_rfl) (by kernel_rfl) (by kernel_rfl) ?_
            repeat (gi_big_quiet_step (fail))
            refine wpQuietIn_nil ?_
            intro _ hw'
            obtain ⟨nq, hw''⟩ := hw'
            subst hw''
            gi_wp2_with (fail)
            · have hsp : (pre.length : Int) + 1 = stop := eq_of_beq (by assumption)
              exact ⟨KO.out nq _ _, .inr ⟨rfl, goI_next HI.out nq (by omega) HDN.out HNX1.out, by rw [List.length_append, List.length_cons, List.length_nil]; omega⟩⟩
            · exact ⟨KO.out nq _ _, KC.set (p := ⟨V.heap.size, 0, none⟩) (kc_drewN _ _ W nq) (by show _ ≤ V.heap.size; omega) (by show V.heap.size < _; omega) _, goI_next HI.out nq (by omega) HDN.out HNX1.out⟩
          · have q1 : ((x.1.1 : Int) == (y.1 : Int)) = false := by simp; omega
            have q2 : ((x.1.1 : Int) != (y.1 : Int)) = true := by simp; omega
            have q3 : (x.1.1 == y.1) = false := by simp; omega
            have q4 : (x.1.1 != y.1) = true := by simp; omega
            have q5 : decide (x.1.1 = y.1) = false := by simp; omega
            have HNP := Lib.hid hp
            clear hinj hp HNX
            gi_wp2_with (fail)
            refine wpIn_quiet_round rfl (by kernel_rfl) (by kernel_rfl) (by kernel_rfl) ?_
            repeat (gi_big_quiet_step (fail))
            refine wpQuietIn_nil ?_
            intro _ hw'
            obtain ⟨nq, hw''⟩ := hw'
            subst hw''
            gi_wp2_with (fail)
            exact ⟨KO.out nq _ _, .inl ⟨rfl, fun h => HNP.out (by rw [HNO2.out h])⟩⟩
        · have t1 : decide ((lexU s).length ≤ pre.length) = true := by simp; omega
          obtain ⟨Ao, co, hOV⟩ := owns_shape f7
          rw [hOV] at cWB
          clear f6 f7 HYES hOV
          gi_wp2_with (fail)
          refine wpIn_quiet_round rfl (by kernel_rfl) (by kernel_rfl) (by kernel_rfl) ?_
          repeat (gi_big_quiet_step (fail))
          refine wpQuietIn_nil ?_
          intro _ hw'
          obtain ⟨nq, hw''⟩ := hw'
          subst hw''
          gi_wp2_with (fail)
          exact ⟨KO.out nq _ _, .inl ⟨rfl, fun h => hn (HNO.out h).1⟩⟩
      case done =>
        rintro D ys Y hD hys ⟨i1, i2, i3, i4, i5⟩ hK
        have hlen : ys.length = (lexU s).length := by rw [← hys, List.length_map]
        rw [hlen] at i2
        have HE := Lib.hid (goes_next hnd i1 (fun D hD => ⟨(i5 D hD).1, (i5 D hD).2⟩) (fun D hD => by have := hdl D hD; omega) (by omega : M ≤ D) (by omega) hK)
        obtain ⟨f1, f2, f3, f4, f5, f6, f7, f8, f9, f10, f11, f12⟩ := i1
        obtain ⟨Ao, co, hOV⟩ := owns_shape f7
        have cWB := f2.cell
        rw [hOV] at cWB
        have cSt := f3.cell
        have cN := i2.cell
        clear f1 f2 f3 f4 f5 f6 f7 f8 f9 f10 f11 f12 i2 i3 i4 i5 hOV hI0 hst hdl hys hlen hG hds hbV hbV1
        gi_wp2_with (fail)
        first | exact ⟨D :: ds, rfl, HE.out.1, HE.out.2.1, HE.out.2.2⟩ | exact ⟨D :: ds, _, _, _, _, _, _, _, _, _, _, _, _, _, _, _, _, _, _, _, _, _, _, _, _, _, _, _, _, _, _, _, _, _, _, _, _, _, _, _, _, _, _, _, _, _, _, _, _, _, _, _, _, _, _, _, _, _, _, _, rfl, HE.out.1, HE.out.2.1, HE.out.2.2⟩
      case stop =>
        rintro D c pre Y hD hpre (⟨_, hno⟩ | ⟨rfl, ⟨i1, i2, i3, i4, i5⟩, hsp⟩) hK
        · exact absurd hpre hno
        · have HE := Lib.hid (goes_next hnd i1 (fun D hD => ⟨(i5 D hD).1, (i5 D hD).2⟩) (fun D hD => by have := hdl D hD; omega) (by omega : M ≤ D) (by omega) hK)
          obtain ⟨f1, f2, f3, f4, f5, f6, f7, f8, f9, f10, f11, f12⟩ := i1
          obtain ⟨Ao, co, hOV⟩ := owns_shape f7
          have cWB := f2.cell
          rw [hOV] at cWB
          have cSt := f3.cell
          rw [← hsp] at cSt
          clear hsp
          have cN := i2.cell
          have hpl := i4.length_le
          rw [List.length_map] at hpl
          have hU := lexU_len s
          clear f1 f2 f3 f4 f5 f6 f7 f8 f9 f10 f11 f12 i2 i3 i4 i5 hOV hI0 hst hdl hpre hG hds hbV hbV1
          by_cases hn : pre.length = (lexU s).length
          · rw [← hn] at cWB
            clear hn hpl
            gi_wp2_with (fail)
            first | exact ⟨D :: ds, rfl, HE.out.1, HE.out.2.1, HE.out.2.2⟩ | exact ⟨D :: ds, _, _, _, _, _, _, _, _, _, _, _, _, _, _, _, _, _, _, _, _, _, _, _, _, _, _, _, _, _, _, _, _, _, _, _, _, _, _, _, _, _, _, _, _, _, _, _, _, _, _, _, _, _, _, _, _, _, _, _, rfl, HE.out.1, HE.out.2.1, HE.out.2.2⟩
          · have t1 : decide (pre.length = (lexU s).length) = false := by simp; omega
            have t2 : (pre.length == (lexU s).length) = false := by simp; omega
            have t3 : (pre.length != (lexU s).length) = true := by simp; omega
            have t4 : ((pre.length : Int) == ((lexU s).length : Int)) = false := by simp; omega
            have t5 : ((pre.length : Int) != ((lexU s).length : Int)) = true := by simp; omega
            clear hn hpl
            gi_wp2_with (fail)
            all_goals first | exact ⟨D :: ds, rfl, HE.out.1, HE.out.2.1, HE.out.2.2⟩ | exact ⟨D :: ds, _, _, _, _, _, _, _, _, _, _, _, _, _, _, _, _, _, _, _, _, _, _, _, _, _, _, _, _, _, _, _, _, _, _, _, _, _, _, _, _, _, _, _, _, _, _, _, _, _, _, _, _, _, _, _, _, _, _, _, rfl, HE.out.1, HE.out.2.1, HE.out.2.2⟩
    · rintro a V ⟨ds, u0, u1, u2, u7, u9, u10, u11, u12, u13, u14, u15, u16, u17, u18, u19, u20, u21, u22, u23, u24, u26, u27, u28, u29, u30, u31, u32, u33, u34, u35, u36, u37, u38, u39, u40, u41, u42, u43, u44, u45, u46, u47, u48, u49, u50, u51, u52, u53, u54, u55, u56, u57, u58, u59, u60, u61, u62, u63, u64, rfl, hnd, hds, hG⟩
      clear HG0
      have cR := hG.out.2.2.2.1.cell
      have gR := hG.out.2.2.2.1.frozen
      have hlR := hG.out.2.2.2.1.lt
      have hbV := hG.out.2.2.2.2.2.2.2.1
      have hds2 : ∀ D ∈ ds, w.heap.size ≤ D ∧ (V.setCell ⟨w.heap.size + 1, 0, none⟩ (.bool true)).heap[D]? = some (.deferred (some [])) := fun D hD => ⟨(hds.out D hD).1, (KeepsOthers.setCell V ⟨w.heap.size + 1, 0, none⟩ (.bool true)).same D _ (hds.out D hD).2 rfl⟩
      have hc5 := shut_cell ds _ hnd (fun D hD => (hds2 D hD).2) (World.cell?_setCell_same' V ⟨w.heap.size + 1, 0, none⟩ (.bool true) (by rw [cR]; rfl))
      have hb5 := shut_below ds _ hnd hds2 (hbV.setCell (p := ⟨w.heap.size + 1, 0, none⟩) (by show _ ≤ w.heap.size + 1; omega) (.bool true)) (by simp [World.setCell]; omega)
      have HD2 := Lib.hid hds2
      have HC5 := Lib.hid hc5
      have HB5 := Lib.hid hb5
      clear hds2 hc5 hb5 hds hG hbV
      gi_wp2_with (fail)
      refine leaves_marks ds _ hnd (fun D hD => (HD2.out D hD).2) ?_
      refine ⟨.bool true, ?_, rfl, HB5.out⟩
      have hc6 := HC5.out
      simp [results, Tryd.f4, go_sem, hc6]
  · have hq : decide ((16384 : Int) < (s.size : Int)) = false := by simp; omega
    gi_wp2_with (fail)
    refine ⟨trivial, ?_⟩
    refine (lexAll_in _ _ _).mono ?_
    rintro e w' ⟨rfl, rfl⟩
    gi_wp2_with (fail)
    have hG0 : ∃ PV OV : Value, GoF s stop w w2.heap.size PV OV (((w2.alloc (.cells #[.slice Ap (lex false 0 s.data.toList).1.length cp] 33)).alloc (.cells #[.slice Ao (lex false 0 s.data.toList).1.length co] 23)).alloc (.cells #[.string s] 9)) := ⟨_, _, goF_mk (s := s) hS2 hR2 hb4 (.slice Ap (lex false 0 s.data.toList).1.length cp) (.slice Ao (lex false 0 s.data.toList).1.length co) (by rw [show lexU s = (lex false 0 s.data.toList).1 from if_pos hsm]; exact HPV.out) (by rw [show lexU s = (lex false 0 s.data.toList).1 from if_pos hsm]; exact HOV.out)⟩
    generalize ((w2.alloc (.cells #[.slice Ap (lex false 0 s.data.toList).1.length cp] 33)).alloc (.cells #[.slice Ao (lex false 0 s.data.toList).1.length co] 23)).alloc (.cells #[.string s] 9) = W3 at hG0 ⊢
    obtain ⟨PV, OV, hG0⟩ := hG0
    have HG0 := Lib.hid hG0
    clear hG0 HPV HOV hS2 hR2
    refine loop_inv 2 (fun (k : Nat) (a : Act) (V : World) => ∃ (ds : List Nat) (u0 u1 u2 u7 u9 u10 u11 u12 u13 u14 u15 u16 u17 u18 u19 u20 u21 u22 u23 u24 u26 u27 u28 u29 u30 u31 u32 u33 u34 u35 u36 u37 u38 u39 u40 u41 u42 u43 u44 u45 u46 u47 u48 u49 u50 u51 u52 u53 u54 u55 u56 u57 u58 u59 u60 u61 u62 u63 u64 : Value), a = { tmps := #[u0, u1, u2, .pointer (some ⟨w.heap.size, 0, none⟩), .pointer (some ⟨w.heap.size + 1, 0, none⟩), .pointer (some ⟨w2.heap.size, 0, none⟩), .pointer (some ⟨w2.heap.size + 1, 0, none⟩), u7, .func (.func 26) #[] #[.pointer (some ⟨w2.heap.size + 1 + 1, 0, none⟩)], u9, u10, u11, u12, u13, u14, u15, u16, u17, u18, u19, u20, u21, u22, u23, u24, .int .i64 k, u26, u27, u28, u29, u30, u31, u32, u33, u34, u35, u36, u37, u38, u39, u40, u41, u42, u43, u44, u45, u46, u47, u48, u49, u50, u51, u52, u53, u54, u55, u56, u57, u58, u59, u60, u61, u62, u63, u64], defers := ds.map markOf } ∧ ds.Nodup ∧ Hid (∀ D ∈ ds, w.heap.size ≤ D ∧ V.heap[D]? = some (.deferred (some []))) ∧ Hid (GoF s stop w w2.heap.size PV OV V)) ?_ ?_ ?_
    · exact ⟨[], _, _, _, _, _, _, _, _, _, _, _, _, _, _, _, _, _, _, _, _, _, _, _, _, _, _, _, _, _, _, _, _, _, _, _, _, _, _, _, _, _, _, _, _, _, _, _, _, _, _, _, _, _, _, _, _, _, _, _, rfl, List.nodup_nil, Lib.hid (fun D hD => absurd hD (List.not_mem_nil)), HG0⟩
    · rintro k a V hk ⟨ds, u0, u1, u2, u7, u9, u10, u11, u12, u13, u14, u15, u16, u17, u18, u19, u20, u21, u22, u23, u24, u26, u27, u28, u29, u30, u31, u32, u33, u34, u35, u36, u37, u38, u39, u40, u41, u42, u43, u44, u45, u46, u47, u48, u49, u50, u51, u52, u53, u54, u55, u56, u57, u58, u59, u60, u61, u62, u63, u64, rfl, hnd, hds, hG⟩
      clear HG0
      have hk2 : decide ((k : Int) < 2) = true := by simp; omega
      gi_wp2_with (fail)
      have hG1 := hG.out.alloc (.cells #[.int .i64 0] 3)
      have hbV := hG.out.2.2.2.2.2.2.2.1
      have hzV := hG.out.2.2.2.2.2.2.2.2.1
      have hww := hG.out.2.2.2.2.2.2.2.2.2.1
      have hN1 := Boxed.new V 3 (.int .i64 0)
      obtain ⟨M, hM⟩ : ∃ M, M = (V.alloc (.cells #[.int .i64 0] 3)).heap.size := ⟨_, rfl⟩
      have hM2 : M = V.heap.size + 1 := by rw [hM]; exact World.size_alloc _ _
      have hbV1 := hbV.alloc hbV.size (.cells #[.int .i64 0] 3)
      have hdl : ∀ D ∈ ds, D < M := fun D hD => by have := (Array.getElem?_eq_some_iff.1 (hds.out D hD).2).1; omega
      have hI0 : GoI s stop w w2.heap.size PV OV V.heap.size M ds [] (V.alloc (.cells #[.int .i64 0] 3)) :=
        ⟨hG1, hN1, Nat.le_of_eq hM, List.nil_prefix, fun D hD => ⟨(hds.out D hD).1, (heap_alloc_old V _ (Array.getElem?_eq_some_iff.1 (hds.out D hD).2).1).trans (hds.out D hD).2⟩⟩
      have hst := all_stops w HV.out el et HW.out 5 M (w2.heap.size + 1 + 1) s _ hbV1 (Nat.le_of_eq hM) hG1.2.2.2.2.1.lt hG1.2.2.2.2.1.cell
      have hwM : w.heap.size ≤ M := by rw [hM]; exact hbV1.size
      generalize V.alloc (.cells #[.int .i64 0] 3) = V1 at *
      clear hG1 hN1
      refine wpIn_rangeFunc_ownH rfl (by omega) (gf := 26) (lb := #[.pointer (some ⟨w2.heap.size + 1 + 1, 0, none⟩)]) rfl trivial (enters_of Tryd.func26 (by kernel_rfl) rfl) hst KC.trans (fun W l o o' hl h hc hw => KC.put (by rw [← hM]; exact hwM) W l o o' hl h hc hw) (Below.refl _ _) (fun _ => rfl)
        (GoI s stop w w2.heap.size PV OV V.heap.size M ds) (GoX s stop w w2.heap.size PV OV V.heap.size M ds) (by rw [← hM]; exact goI_own s stop w _ PV OV _ M ds hwM hdl) (fun c => by rw [← hM]; exact goX_own s stop w _ PV OV _ M ds hwM hdl c) hI0 (fun (x : TokOf s) (a' : Act) (Y : World) => ∃ Bx, M ≤ Bx ∧ Y.heap[Bx]? = some (.cells #[.int .i64 x.1.2.kind, .string (bs x.1.2.text), .int .i64 x.1.2.num] 40 (0, 0)) ∧ a' = { tmps := #[u0, u1, u2, .pointer (some ⟨w.heap.size, 0, none⟩), .pointer (some ⟨w.heap.size + 1, 0, none⟩), .pointer (some ⟨w2.heap.size, 0, none⟩), .pointer (some ⟨w2.heap.size + 1, 0, none⟩), u7, .func (.func 26) #[] #[.pointer (some ⟨w2.heap.size + 1 + 1, 0, none⟩)], .pointer (some ⟨V.heap.size, 0, none⟩), .int .i64 x.1.1, .pointer (some ⟨Bx, 0, none⟩), u12, u13, u14, u15, u16, u17, u18, u19, u20, u21, u22, u23, u24, .int .i64 k, .bool true, .func (.func 26) #[] #[.pointer (some ⟨w2.heap.size + 1 + 1, 0, none⟩)], .int .i64 x.1.1, .agg #[.int .i64 x.1.2.kind, .string (bs x.1.2.text), .int .i64 x.1.2.num], u30, u31, u32, u33, u34, u35, u36, u37, u38, u39, u40, u41, u42, u43, u44, u45, u46, u47, u48, u49, u50, u51, u52, u53, u54, u55, u56, u57, u58, u59, u60, u61, u62, u63, u64], defers := [] }) (fun x a' => by rw [← hM]; exact goA_own M x a' _) ?assign ?body ?done ?stop
      case assign =>
        rintro l pre x W K ⟨i1, i2, i3, i4, i5⟩ hK
        have hK' := Lib.hid hK
        clear hK
        gi_wp2
        refine hK'.out _ _ ((KeepsOthers.alloc _ _).from _) ((KC.refl _ _ _).alloc i1.2.2.2.2.2.2.2.1.size _) ⟨i1.alloc _, i2.alloc _, by simp; omega, i4, fun D hD => ⟨(i5 D hD).1, (heap_alloc_old W _ (Array.getElem?_eq_some_iff.1 (i5 D hD).2).1).trans (i5 D hD).2⟩⟩ ⟨W.heap.size, i3, heap_alloc_new _ _, rfl⟩
      case body =>
        rintro l pre x a' W hl ⟨r, hr⟩ ⟨i1, i2, i3, i4, i5⟩ ⟨Bx, hBx, hX, rfl⟩ hlen
        have HI := Lib.hid (And.intro i1 (And.intro i2 (And.intro i3 (And.intro i4 i5))))
        have hU := lexU_len s
        have hpl := i4.length_le
        rw [List.length_map] at hpl
        obtain ⟨f1, f2, f3, f4, f5, f6, f7, f8, f9, f10, f11, f12⟩ := i1
        have cPB := f1.cell
        have cWB := f2.cell
        have cSt := f3.cell
        have cR := f4.cell
        have gR := f4.frozen
        have cN := i2.cell
        have gN := i2.frozen
        have hlN := i2.lt
        have hlR := f4.lt
        obtain ⟨hx0, hx1, hx2⟩ := tok_cells hX
        have HNO := Lib.hid (fun h : (pre ++ [x]).map (·.1) <+: lexU s => snoc_at (pre := pre.map (·.1)) (x := x.1) (by simpa using h))
        have HYES := Lib.hid (fun h => snoc_next (L := lexU s) (pre := pre.map (·.1)) i4 h)
        rw [List.length_map] at HNO HYES
        have KO := Lib.hid (fun (q N' : Nat) (u : Value) => ((ko_drewN W q).trans (KeepsOthers.setCell _ ⟨N', 0, none⟩ u)).from V1.heap.size)
        have HDN := Lib.hid (fun D (hD : D ∈ ds) => (Nat.ne_of_lt (Array.getElem?_eq_some_iff.1 (hds.out D hD).2).1 : D ≠ V.heap.size))
        clear i2 i4 i5 f1 f2 f3 f4 f5 f11 f12 hX hst hI0 hdl hG hds hbV hbV1
        by_cases hn : pre.length < (lexU s).length
        · obtain ⟨g, cap, hPV, hg1, hg2⟩ := f6.form (by omega)
          obtain ⟨g', cap', hOV, hg1', hg2'⟩ := f7.form (by omega)
          rw [hPV] at f6 cPB
          rw [hOV] at f7 cWB
          have cP := f6.cellAt pre.length (by omega)
          have cO0 := f7.cellAt (3 * pre.length) (by omega)
          have cO1 := f7.cellAt (3 * pre.length + 1) (by omega)
          have cO2 := f7.cellAt (3 * pre.length + 2) (by omega)
          obtain ⟨e0, e1, e2⟩ := cellsT_at ((lexU s).map (·.2)) pre.length (by rw [List.length_map]; exact hn)
          rw [e0] at cO0
          rw [e1] at cO1
          rw [e2] at cO2
          rw [placesV_at _ _ hn] at cP
          rw [List.getElem_map] at cO0 cO1 cO2
          rw [Nat.mul_comm] at cO0 cO1 cO2
          have hinj := lexU_inj s x.2 (List.getElem_mem hn)
          have HN := HYES.out hn
          have hyx : (lexU s)[pre.length] = x.1 → (pre ++ [x]).map (·.1) <+: lexU s := fun h => by
            rw [h] at HN
            simpa using HN
          have HNX := Lib.hid hyx
          have HNO2 := Lib.hid (fun h => (HNO.out h).2 hn)
          have t1 : decide ((lexU s).length ≤ pre.length) = false := by simp; omega
          have hHO := Lib.hid hOV
          have hHP := Lib.hid hPV
          clear HN hyx e0 e1 e2 f6 f7 HNO HYES hOV hPV hpl
          generalize (lexU s)[pre.length] = y at *
          by_cases hp : x.1.1 = y.1
          · have hxy := hinj hp
            subst hxy
            have HNX1 := Lib.hid (HNX.out rfl)
            clear hp hinj HNO2 HNX
            gi_wp2_with (fail)
            refine wpIn_quiet_round rfl (by kernel_rfl) (by kernel_rfl) (by kernel_rfl) ?_
            repeat (gi_big_quiet_step (fail))
            refine wpQuietIn_nil ?_
            intro _ hw'
            obtain ⟨nq, hw''⟩ := hw'
            subst hw''
            gi_wp2_with (fail)
            · have hsp : (pre.length : Int) + 1 = stop := eq_of_beq (by assumption)
              exact ⟨KO.out nq _ _, .inr ⟨rfl, goI_next HI.out nq (by omega) HDN.out HNX1.out, by rw [List.length_append, List.length_cons, List.length_nil]; omega⟩⟩
            · exact ⟨KO.out nq _ _, KC.set (p := ⟨V.heap.size, 0, none⟩) (kc_drewN _ _ W nq) (by show _ ≤ V.heap.size; omega) (by show V.heap.size < _; omega) _, goI_next HI.out nq (by omega) HDN.out HNX1.out⟩
          · have q1 : ((x.1.1 : Int) == (y.1 : Int)) = false := by simp; omega
            have q2 : ((x.1.1 : Int) != (y.1 : Int)) = true := by simp; omega
            have q3 : (x.1.1 == y.1) = false := by simp; omega
            have q4 : (x.1.1 != y.1) = true := by simp; omega
            have q5 : decide (x.1.1 = y.1) = false := by simp; omega
            have HNP := Lib.hid hp
            clear hinj hp HNX
            gi_wp2_with (fail)
            refine wpIn_quiet_round rfl (by kernel_rfl) (by kernel_rfl) (by kernel_rfl) ?_
            repeat (gi_big_quiet_step (fail))
            refine wpQuietIn_nil ?_
            intro _ hw'
            obtain ⟨nq, hw''⟩ := hw'
            subst hw''
            gi_wp2_with (fail)
            exact ⟨KO.out nq _ _, .inl ⟨rfl, fun h => HNP.out (by rw [HNO2.out h])⟩⟩
        · have t1 : decide ((lexU s).length ≤ pre.length) = true := by simp; omega
          obtain ⟨Ao, co, hOV⟩ := owns_shape f7
          rw [hOV] at cWB
          clear f6 f7 HYES hOV
          gi_wp2_with (fail)
          refine wpIn_quiet_round rfl (by kernel_rfl) (by kernel_rfl) (by kernel_rfl) ?_
          repeat (gi_big_quiet_step (fail))
          refine wpQuietIn_nil ?_
          intro _ hw'
          obtain ⟨nq, hw''⟩ := hw'
          subst hw''
          gi_wp2_with (fail)
          exact ⟨KO.out nq _ _, .inl ⟨rfl, fun h => hn (HNO.out h).1⟩⟩
      case done =>
        rintro D ys Y hD hys ⟨i1, i2, i3, i4, i5⟩ hK
        have hlen : ys.length = (lexU s).length := by rw [← hys, List.length_map]
        rw [hlen] at i2
        have HE := Lib.hid (goes_next hnd i1 (fun D hD => ⟨(i5 D hD).1, (i5 D hD).2⟩) (fun D hD => by have := hdl D hD; omega) (by omega : M ≤ D) (by omega) hK)
        obtain ⟨f1, f2, f3, f4, f5, f6, f7, f8, f9, f10, f11, f12⟩ := i1
        obtain ⟨Ao, co, hOV⟩ := owns_shape f7
        have cWB := f2.cell
        rw [hOV] at cWB
        have cSt := f3.cell
        have cN := i2.cell
        clear f1 f2 f3 f4 f5 f6 f7 f8 f9 f10 f11 f12 i2 i3 i4 i5 hOV hI0 hst hdl hys hlen hG hds hbV hbV1
        gi_wp2_with (fail)
        first | exact ⟨D :: ds, rfl, HE.out.1, HE.out.2.1, HE.out.2.2⟩ | exact ⟨D :: ds, _, _, _, _, _, _, _, _, _, _, _, _, _, _, _, _, _, _, _, _, _, _, _, _, _, _, _, _, _, _, _, _, _, _, _, _, _, _, _, _, _, _, _, _, _, _, _, _, _, _, _, _, _, _, _, _, _, _, _, rfl, HE.out.1, HE.out.2.1, HE.out.2.2⟩
      case stop =>
        rintro D c pre Y hD hpre (⟨_, hno⟩ | ⟨rfl, ⟨i1, i2, i3, i4, i5⟩, hsp⟩) hK
        · exact absurd hpre hno
        · have HE := Lib.hid (goes_next hnd i1 (fun D hD => ⟨(i5 D hD).1, (i5 D hD).2⟩) (fun D hD => by have := hdl D hD; omega) (by omega : M ≤ D) (by omega) hK)
          obtain ⟨f1, f2, f3, f4, f5, f6, f7, f8, f9, f10, f11, f12⟩ := i1
          obtain ⟨Ao, co, hOV⟩ := owns_shape f7
          have cWB := f2.cell
          rw [hOV] at cWB
          have cSt := f3.cell
          rw [← hsp] at cSt
          clear hsp
          have cN := i2.cell
          have hpl := i4.length_le
          rw [List.length_map] at hpl
          have hU := lexU_len s
          clear f1 f2 f3 f4 f5 f6 f7 f8 f9 f10 f11 f12 i2 i3 i4 i5 hOV hI0 hst hdl hpre hG hds hbV hbV1
          by_cases hn : pre.length = (lexU s).length
          · rw [← hn] at cWB
            clear hn hpl
            gi_wp2_with (fail)
            first | exact ⟨D :: ds, rfl, HE.out.1, HE.out.2.1, HE.out.2.2⟩ | exact ⟨D :: ds, _, _, _, _, _, _, _, _, _, _, _, _, _, _, _, _, _, _, _, _, _, _, _, _, _, _, _, _, _, _, _, _, _, _, _, _, _, _, _, _, _, _, _, _, _, _, _, _, _, _, _, _, _, _, _, _, _, _, _, rfl, HE.out.1, HE.out.2.1, HE.out.2.2⟩
          · have t1 : decide (pre.length = (lexU s).length) = false := by simp; omega
            have t2 : (pre.length == (lexU s).length) = false := by simp; omega
            have t3 : (pre.length != (lexU s).length) = true := by simp; omega
            have t4 : ((pre.length : Int) == ((lexU s).length : Int)) = false := by simp; omega
            have t5 : ((pre.length : Int) != ((lexU s).length : Int)) = true := by simp; omega
            clear hn hpl
            gi_wp2_with (fail)
            all_goals first | exact ⟨D :: ds, rfl, HE.out.1, HE.out.2.1, HE.out.2.2⟩ | exact ⟨D :: ds, _, _, _, _, _, _, _, _, _, _, _, _, _, _, _, _, _, _, _, _, _, _, _, _, _, _, _, _, _, _, _, _, _, _, _, _, _, _, _, _, _, _, _, _, _, _, _, _, _, _, _, _, _, _, _, _, _, _, _, rfl, HE.out.1, HE.out.2.1, HE.out.2.2⟩
    · rintro a V ⟨ds, u0, u1, u2, u7, u9, u10, u11, u12, u13, u14, u15, u16, u17, u18, u19, u20, u21, u22, u23, u24, u26, u27, u28, u29, u30, u31, u32, u33, u34, u35, u36, u37, u38, u39, u40, u41, u42, u43, u44, u45, u46, u47, u48, u49, u50, u51, u52, u53, u54, u55, u56, u57, u58, u59, u60, u61, u62, u63, u64, rfl, hnd, hds, hG⟩
      clear HG0
      have cR := hG.out.2.2.2.1.cell
      have gR := hG.out.2.2.2.1.frozen
      have hlR := hG.out.2.2.2.1.lt
      have hbV := hG.out.2.2.2.2.2.2.2.1
      have hds2 : ∀ D ∈ ds, w.heap.size ≤ D ∧ (V.setCell ⟨w.heap.size + 1, 0, none⟩ (.bool true)).heap[D]? = some (.deferred (some [])) := fun D hD => ⟨(hds.out D hD).1, (KeepsOthers.setCell V ⟨w.heap.size + 1, 0, none⟩ (.bool true)).same D _ (hds.out D hD).2 rfl⟩
      have hc5 := shut_cell ds _ hnd (fun D hD => (hds2 D hD).2) (World.cell?_setCell_same' V ⟨w.heap.size + 1, 0, none⟩ (.bool true) (by rw [cR]; rfl))
      have hb5 := shut_below ds _ hnd hds2 (hbV.setCell (p := ⟨w.heap.size + 1, 0, none⟩) (by show _ ≤ w.heap.size + 1; omega) (.bool true)) (by simp [World.setCell]; omega)
      have HD2 := Lib.hid hds2
      have HC5 := Lib.hid hc5
      have HB5 := Lib.hid hb5
      clear hds2 hc5 hb5 hds hG hbV
      gi_wp2_with (fail)
      refine leaves_marks ds _ hnd (fun D hD => (HD2.out D hD).2) ?_
      refine ⟨.bool true, ?_, rfl, HB5.out⟩
      have hc6 := HC5.out
      simp [results, Tryd.f4, go_sem, hc6]

end Lx
end Go.Proofs.YtdalldhgfdnaeaaDoor
