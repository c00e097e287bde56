/- The walk of the statement ParseRowsOf: it returns true. Conditions: the error variables hold what they should; strconv's table of powers of ten holds them. -/
import Derived.Test.YtacgbogedpoojabDoorChecks
import Derived.Test.YtacgbogedpoojabDoorParTextT
import Derived.IntWalk
import Derived.LaidEql
namespace Go.Proofs.YtacgbogedpoojabDoor
namespace Lx
open Go Go.RowKit

theorem tmod_in (x : Int) (m : Nat) (hm : 0 < m) : -(m : Int) < x.tmod m ∧ x.tmod m < m := by
  rcases Int.le_total 0 x with h | h
  · rw [Int.tmod_eq_emod_of_nonneg h]
    have := Int.emod_nonneg x (show (m : Int) ≠ 0 by omega)
    have := Int.emod_lt_of_pos x (show (0 : Int) < m by omega)
    omega
  · have e : x = -(-x) := by omega
    rw [e, Int.neg_tmod, Int.tmod_eq_emod_of_nonneg (by omega)]
    have := Int.emod_nonneg (-x) (show (m : Int) ≠ 0 by omega)
    have := Int.emod_lt_of_pos (-x) (show (0 : Int) < m by omega)
    omega
theorem count12 (x : Int) : ∃ k : Nat, k < 12 ∧ (x.tmod 12 + 12).tmod 12 = (k : Int) ∧ -12 < x.tmod 12 ∧ x.tmod 12 < 12 := by
  have h := tmod_in x 12 (by decide)
  have h' : -12 < x.tmod 12 ∧ x.tmod 12 < 12 := h
  refine ⟨((x.tmod 12 + 12) % 12).toNat, by omega, ?_, h'⟩
  rw [Int.tmod_eq_emod_of_nonneg (by omega)]
  omega

/-- What okSrc says of what Source returns. -/
theorem src_said {f : Nat → Addr} {w w' : World} {v er : Value} {k : Nat} {o : Out (List ItemT)} (hk : okSrc k o = true) (h : TextR f (ArgsV 46 20 ItemV) (.slice none 0 0) w w' v er o) :
    (8 ≤ k ∧ v = .slice none 0 0 ∧ er = errP (f 1)) ∨ (k < 8 ∧ er = .nilIface ∧ ∃ g cap s c, v = .slice (some ⟨g, 0, none⟩) 1 cap ∧ w'.cell? ⟨g, 7, none⟩ = some (.slice s (k + 1) c)) := by
  match o, hk, h with
  | .no i, hk, h =>
    simp only [okSrc, Bool.and_eq_true, decide_eq_true_eq, beq_iff_eq] at hk
    obtain ⟨h1, rfl⟩ := hk
    exact .inl ⟨h1, h.1, h.2⟩
  | .ok [it] _, hk, ⟨he, hv⟩ =>
    simp only [okSrc, Bool.and_eq_true, decide_eq_true_eq, beq_iff_eq] at hk
    refine .inr ⟨hk.1, he, ?_⟩
    rcases hv with ⟨h, _⟩ | ⟨g, cap, vs, rfl, _, hown, hit⟩
    · cases h
    match vs, hit with
    | [v1], ⟨⟨p, q, _, _, _, hv⟩, _⟩ =>
      obtain ⟨vv, vc, vt, vi, va, b0, b1, b2, b3, b4, b5, b6, b7, b8, b9, b10, b11, rfl, _, _, _, _, ha, _⟩ := hv
      rcases ha with ⟨h, _⟩ | ⟨g2, cap2, vs2, rfl, _, _⟩
      · rw [h] at hk; exact absurd hk.2 (by simp)
      · rw [hk.2] at hown
        exact ⟨g, cap, _, _, rfl, hown.cellAt 7 (show 7 < 20 by decide)⟩
theorem any_said {α : Type} {f : Nat → Addr} {V : Holds α} {z : Value} {w w' : World} {v er : Value} {k : Nat} {o : Out α} (hk : okAny k o = true) (h : TextR f V z w w' v er o) : (8 ≤ k ∧ er = errP (f 1)) ∨ (k < 8 ∧ er = .nilIface) := by
  match o, hk, h with
  | .no i, hk, h =>
    simp only [okAny, Bool.and_eq_true, decide_eq_true_eq, beq_iff_eq] at hk
    obtain ⟨h1, rfl⟩ := hk
    exact .inl ⟨h1, h.2⟩
  | .ok _ _, hk, ⟨he, _⟩ =>
    simp only [okAny, decide_eq_true_eq] at hk
    exact .inr ⟨hk, he⟩

theorem eql_same (a : Addr) (W : World) : (binOp .eql 30 (errP a) (errP a)).run Tryd.prog W = .ok (.bool true) W := by
  obtain ⟨i, hi, hc⟩ : ∃ i, Tryd.prog.info? 125 = some i ∧ i.comparable = true := by
    have h : (Tryd.prog.info? 125).map (·.comparable) = some true := by kernel_rfl
    cases hq : Tryd.prog.info? 125 with
    | none => rw [hq] at h; cases h
    | some i => rw [hq] at h; exact ⟨i, rfl, Option.some.inj h⟩
  obtain ⟨j, hj⟩ : ∃ j, Tryd.prog.info? 127 = some j := by
    have h : (Tryd.prog.info? 127).isSome = true := by kernel_rfl
    exact Option.isSome_iff_exists.1 h
  exact run_eql_iface_ptr_same W a Tryd.underlying30 Tryd.underlying125 hi hc hj
theorem term_shape {f : Nat → Addr} {w w' : World} {v er : Value} {o : Out TermT} (h : TextR f (TermV 66) (.agg #[.int .i64 0, .string ⟨#[]⟩, .int .i64 0, .slice none 0 0]) w w' v er o) : ∃ z1 z2 z3 z4 z5 z6, v = .agg #[.int .i64 z1, .string z2, .int .i64 z3, .slice z4 z5 z6] := by
  cases o with
  | no i => exact ⟨_, _, _, _, _, _, h.1⟩
  | ok x k => exact TermV.shape h.2
def p1 (k : Nat) : List UInt8 := [112, 40] ++ sL k
def p2 (k : Nat) : List UInt8 := [109, 111, 100, 101, 32, 112, 40] ++ wL k
def p3 (k : Nat) : List UInt8 := [102, 40] ++ sL k
theorem add_bs (a b : List UInt8) (h : a.length + b.length ≤ 10000) : ∀ W : World, (Op.stringOp .add (bs a) (bs b)).run Tryd.prog W = .ok (.string (bs (a ++ b))) W := fun W => by
  rw [run_string_add_sum (P := Tryd.prog) W (bs a) (bs b) (by rw [bs_len, bs_len]; omega), bs_app]

set_option maxRecDepth 100000 in
set_option maxHeartbeats 2000000 in
theorem lawRowsOf_pre (HTE : ∀ (s : ByteArray) (w : World), Env w → ∀ f : Nat → Addr, Errs4 w f → Calls Tryd.prog 9 #[.string s] w fun e w' => ∃ v er, e = .returned (.tuple #[v, er]) ∧ Below w.heap.size w w' ∧ TextR f (TermV 66) (.agg #[.int .i64 0, .string ⟨#[]⟩, .int .i64 0, .slice none 0 0]) w w' v er (textO (fun ts => termO ts 66 0 0) s))
    (x : Int) (w : World) (hE : Env w) (f : Nat → Addr) (h4 : Errs4 w f) :
    Calls Tryd.prog 5 #[.int .i64 x] w fun e w' => e = .returned (.bool true) ∧ Below w.heap.size w w' := by
  obtain ⟨k, hk, hkx, hx1, hx2⟩ := count12 x
  obtain ⟨hc1, hc2, hc3⟩ := check k hk
  have HC1 := Lib.hid hc1
  have HC2 := Lib.hid hc2
  have HC3 := Lib.hid hc3
  have HA := Lib.hid (alive_any w hE f h4)
  have HV := Lib.hid hE
  have HW := Lib.hid h4
  have HS1 := Lib.hid (fun w hE h4 => textIt_any (bs (t1 k)) w hE f h4)
  have HS2 := Lib.hid (fun w hE h4 => textIt_any (bs (t2 k)) w hE f h4)
  have HS3 := Lib.hid (fun w hE h4 => HTE (bs (t3 k)) w hE f h4)
  rw [textO_bs] at HS1 HS2 HS3
  have hw1 : IntKind.i64.wrap (x.tmod 12 + 12) = x.tmod 12 + 12 := IntWalk.i64_in _ (by omega)
  have hw2 : IntKind.i64.wrap (1 + (k : Int)) = 1 + (k : Int) := IntWalk.i64_in _ (by omega)
  clear hE h4 hc1 hc2 hc3 HTE
  go_enter Tryd.func5, Tryd.ntmps5
  go_wp2_with fail
  refine HA.out.mono ?_
  rintro e w1 ⟨rfl, hb1⟩
  have hsl := sL_len k
  have hwl := wL_len k
  have l1 : (p1 k).length = 3 + 3 * k := by simp [p1]; omega
  have l2 : (p2 k).length = 9 + 4 * k := by simp [p2]; omega
  have l3 : (p3 k).length = 3 + 3 * k := by simp [p3]; omega
  have c1 : ∀ W : World, (Op.stringOp .add ⟨#[112, 40]⟩ (bs (sL k))).run Tryd.prog W = .ok (.string (bs (p1 k))) W := add_bs [112, 40] (sL k) (by simp; omega)
  have c2 : ∀ W : World, (Op.stringOp .add (bs (p1 k)) ⟨#[41, 46]⟩).run Tryd.prog W = .ok (.string (bs (t1 k))) W := add_bs (p1 k) [41, 46] (by simp; omega)
  have c3 : ∀ W : World, (Op.stringOp .add ⟨#[109, 111, 100, 101, 32, 112, 40]⟩ (bs (wL k))).run Tryd.prog W = .ok (.string (bs (p2 k))) W := add_bs [109, 111, 100, 101, 32, 112, 40] (wL k) (by simp; omega)
  have c4 : ∀ W : World, (Op.stringOp .add (bs (p2 k)) ⟨#[41, 32, 105, 115, 32, 100, 101, 116, 46]⟩).run Tryd.prog W = .ok (.string (bs (t2 k))) W := add_bs (p2 k) [41, 32, 105, 115, 32, 100, 101, 116, 46] (by simp; omega)
  have c5 : ∀ W : World, (Op.stringOp .add ⟨#[102, 40]⟩ (bs (sL k))).run Tryd.prog W = .ok (.string (bs (p3 k))) W := add_bs [102, 40] (sL k) (by simp; omega)
  have c6 : ∀ W : World, (Op.stringOp .add (bs (p3 k)) ⟨#[41]⟩).run Tryd.prog W = .ok (.string (bs (t3 k))) W := add_bs (p3 k) [41] (by simp; omega)
  clear l1 l2 l3
  clear hsl hwl
  have HB1 := Lib.hid hb1
  clear hb1
  go_wp2_with fail
  go_loopw [3, 4, 20] (fun s t i wr => ∃ j : Nat, j ≤ k ∧ s = .string (bs (sL j)) ∧ t = .string (bs (wL j)) ∧ i = .int .i64 j ∧ wr = w1) (fun _ _ i _ => k - (intOf i).toNat)
  case atStart => exact ⟨0, Nat.zero_le _, rfl, rfl, rfl, rfl⟩
  case round =>
    obtain ⟨j, hj, rfl, rfl, rfl, rfl⟩ := hrel
    by_cases hlt : j < k
    · have q1 : ∀ W : World, (Op.stringOp .add (bs (sL j)) ⟨#[44, 32, 88]⟩).run Tryd.prog W = .ok (.string (bs (sL (j + 1)))) W := add_bs (sL j) [44, 32, 88] (by have := sL_len j; simp; omega)
      have q2 : ∀ W : World, (Op.stringOp .add (bs (wL j)) ⟨#[44, 32, 105, 110]⟩).run Tryd.prog W = .ok (.string (bs (wL (j + 1)))) W := add_bs (wL j) [44, 32, 105, 110] (by have := wL_len j; simp; omega)
      have hdc : decide ((j : Int) < 1 + (k : Int) - 1) = true := by simp; omega
      clear c1 c2 c3 c4 c5 c6
      go_wp2_with fail
      go_roundw
      case rel => exact ⟨j + 1, hlt, rfl, rfl, rfl, trivial⟩
      case measure => simp [intOf]; omega
    · obtain rfl : j = k := by omega
      have hdc : decide ((j : Int) < 1 + (j : Int) - 1) = false := by simp; omega
      go_wp2_with fail
      go_at_call 10
      refine (HS1.out _ (HV.out.below HB1.out) (HW.out.below HB1.out)).mono ?_
      rintro e w2 ⟨v1, er1, rfl, hb2, ht1⟩
      have HB2 := Lib.hid (HB1.out.trans (hb2.mono HB1.out.size))
      have hw12 := hb2.size
      rcases src_said HC1.out ht1 with ⟨h8, rfl, rfl⟩ | ⟨h8, rfl, g, cap, s, c, rfl, c7⟩
      · have hn8 : decide ((8 : Int) < 1 + (j : Int)) = true := by simp; omega
        clear ht1 hb2
        go_wp2_with fail
        go_at_call 10
        refine (HS2.out _ (HV.out.below HB2.out) (HW.out.below HB2.out)).mono ?_
        rintro e w3 ⟨v2, er2, rfl, hb3, ht2⟩
        have HB3 := Lib.hid (HB2.out.trans (hb3.mono HB2.out.size))
        rcases any_said HC2.out ht2 with ⟨_, rfl⟩ | ⟨h9, _⟩
        · clear ht2 hb3
          go_wp2_with fail
          go_at_call 9
          refine (HS3.out _ (HV.out.below HB3.out) (HW.out.below HB3.out)).mono ?_
          rintro e w4 ⟨v3, er3, rfl, hb4, ht3⟩
          have HB4 := Lib.hid (HB3.out.trans (hb4.mono HB3.out.size))
          obtain ⟨z1, z2, z3, z4, z5, z6, rfl⟩ := term_shape ht3
          rcases any_said HC3.out ht3 with ⟨_, rfl⟩ | ⟨h9, _⟩
          · have hlg := (HW.out.below HB4.out).large
            have hlt4 := World.block_lt_of_cell? _ _ hlg
            have hes := eql_same (f 1)
            clear ht3 hb4
            go_wp2_with fail
            go_ret
            exact ⟨rfl, HB4.out.alloc HB4.out.size _⟩
          · omega
        · omega
      · have hn8 : decide ((8 : Int) < 1 + (j : Int)) = false := by simp; omega
        clear ht1
        go_wp2_with fail
        go_at_call 10
        refine (HS2.out _ (HV.out.below HB2.out) (HW.out.below HB2.out)).mono ?_
        rintro e w3 ⟨v2, er2, rfl, hb3, ht2⟩
        have HB3 := Lib.hid (HB2.out.trans (hb3.mono HB2.out.size))
        have c73 := (hb3.cell (World.block_lt_of_cell? _ _ c7)).trans c7
        rcases any_said HC2.out ht2 with ⟨h9, _⟩ | ⟨_, rfl⟩
        · omega
        · clear ht2 hb3 hb2 c7
          go_wp2_with fail
          go_at_call 9
          refine (HS3.out _ (HV.out.below HB3.out) (HW.out.below HB3.out)).mono ?_
          rintro e w4 ⟨v3, er3, rfl, hb4, ht3⟩
          have HB4 := Lib.hid (HB3.out.trans (hb4.mono HB3.out.size))
          have c74 := (hb4.cell (World.block_lt_of_cell? _ _ c73)).trans c73
          have hg4 := World.block_lt_of_cell? _ _ c74
          obtain ⟨z1, z2, z3, z4, z5, z6, rfl⟩ := term_shape ht3
          rcases any_said HC3.out ht3 with ⟨h9, _⟩ | ⟨_, rfl⟩
          · omega
          · have hq : ((j : Int) + 1 == 1 + (j : Int)) = true := by simp; omega
            clear ht3 hb4 c73
            go_wp2_with fail
            go_ret
            exact ⟨rfl, HB4.out.alloc HB4.out.size _⟩

theorem lawRowsOf_any (x : Int) (_ : (Lit.int .i64 x).wf = true) (w : World) (hE : Env w) (f : Nat → Addr) (h4 : Errs4 w f) :
    Calls Tryd.prog 5 #[.int .i64 x] w fun e w' => e = .returned (.bool true) ∧ Below w.heap.size w w' :=
  lawRowsOf_pre (fun s w hE f h4 => textTe_any s w hE f h4) x w hE f h4

end Lx
end Go.Proofs.YtacgbogedpoojabDoor
