/- The walk of the statement ParseRows: it returns true. Conditions: each text takes at most 140737488351232 bytes; the error variables hold what they should; strconv's table of powers of ten holds them. -/
import Derived.Test.YtbbbbfglhphffaaDoorPlainSim
import Derived.Test.YtbbbbfglhphffaaDoorRowAdd
import Derived.Test.YtbbbbfglhphffaaDoorLawBits
namespace Go.Proofs.YtbbbbfglhphffaaDoor
set_option linter.unusedSimpArgs false
set_option linter.unusedVariables false
namespace Lx
open Go Go.RowKit

abbrev srcF : List Tok → Out (List ItemT) := fun ts => sourceO ts 0 0
theorem srcF_inv {s : ByteArray} {x : List ItemT} {k : Nat} (h : textO srcF s = .ok x k) : s.size ≤ 16384 ∧ whole s.data.toList = true ∧ srcF (toks s.data.toList) = .ok x k ∧ ¬ k < (toks s.data.toList).length := by
  rcases Nat.lt_or_ge 16384 s.size with hs | hs
  · rw [textO_large srcF hs] at h; cases h
  · cases hw : whole s.data.toList with
    | false => rw [textO_bad srcF hs hw] at h; cases h
    | true =>
      rw [textO_good srcF hs hw] at h
      refine ⟨hs, rfl, ?_⟩
      cases hr : srcF (toks s.data.toList) with
      | no i => rw [hr] at h; cases h
      | ok y q =>
        rw [hr] at h
        have h' : (if q < (toks s.data.toList).length then Out.no 2 else Out.ok y q) = Out.ok x k := h
        by_cases hq : q < (toks s.data.toList).length
        · rw [if_pos hq] at h'; cases h'
        · rw [if_neg hq] at h'
          injection h' with h1 h2
          subst h1 h2
          exact ⟨rfl, hq⟩
theorem src_both {s t : ByteArray} {la lb : List ItemT} {p q : Nat} (h1 : textO srcF s = .ok la p) (h2 : textO srcF t = .ok lb q) (hl : s.size + t.size < 16384) (hn : la.length + lb.length ≤ 512) :
    ∃ k, textO srcF (s ++ ⟨#[10]⟩ ++ t) = .ok (la ++ lb) k := by
  obtain ⟨a1, a2, a3, _⟩ := srcF_inv h1
  obtain ⟨b1, b2, b3, _⟩ := srcF_inv h2
  have e : (s ++ ⟨#[10]⟩ ++ t).data.toList = s.data.toList ++ 10 :: t.data.toList := by simp
  have hz : (s ++ ⟨#[10]⟩ ++ t).size = s.size + 1 + t.size := by
    rw [ByteArray.size_append, ByteArray.size_append]
    rfl
  obtain ⟨c1, c2⟩ := toks_app (m := t.data.toList) a2
  have hso := sourceO_app a3 b3 hn
  refine ⟨(toks s.data.toList ++ toks t.data.toList).length, ?_⟩
  rw [textO_good srcF (by rw [hz]; omega) (by rw [e, c2]; exact b2), e, c1]
  show endO _ (srcF _) = _
  rw [show srcF (toks s.data.toList ++ toks t.data.toList) = _ from hso]
  exact if_neg (Nat.lt_irrefl _)

set_option maxRecDepth 100000 in
set_option maxHeartbeats 2000000 in
theorem rows_no1 (s t : ByteArray) (hs : s.size ≤ 140737488351232) (ht : t.size ≤ 140737488351232) (i : Nat) (ho1 : textO srcF s = .no i) (w : World) (hE : Env w) (f : Nat → Addr) (h4 : Errs4 w f) :
    Calls Tryd.prog 3 #[.string s, .string t] w fun e w' => e = .returned (.bool true) ∧ Below w.heap.size w w' := by
  have HA := Lib.hid (alive_any w hE f h4)
  have HV := Lib.hid hE
  have HW := Lib.hid h4
  have c1 : ∀ W : World, (Op.stringOp .add s ⟨#[10]⟩).run Tryd.prog W = .ok (.string (s ++ ⟨#[10]⟩)) W := fun W => run_string_add_sum W _ _ (by show s.size + 1 ≤ _; omega)
  have c2 : ∀ W : World, (Op.stringOp .add (s ++ ⟨#[10]⟩) t).run Tryd.prog W = .ok (.string (s ++ ⟨#[10]⟩ ++ t)) W := fun W => run_string_add_sum W _ _ (by rw [ByteArray.size_append]; show s.size + 1 + t.size ≤ _; omega)
  have HS1 := Lib.hid (fun w hE h4 => textIt_any s w hE f h4)
  have HS2 := Lib.hid (fun w hE h4 => textIt_any t w hE f h4)
  have HS3 := Lib.hid (fun w hE h4 => textIt_any (s ++ ⟨#[10]⟩ ++ t) w hE f h4)
  rw [ho1] at HS1
  generalize s ++ ⟨#[10]⟩ ++ t = u2 at *
  generalize s ++ ⟨#[10]⟩ = u1 at *
  have q0 : (0 : Int) ≤ (s.size : Int) := by omega
  have q1 : (s.size : Int) ≤ 140737488351232 := by omega
  have q2 : (0 : Int) ≤ (t.size : Int) := by omega
  have q3 : (t.size : Int) ≤ 140737488351232 := by omega
  clear hE h4 hs ht
  go_enter Tryd.func3, Tryd.ntmps3
  go_wp2_with fail
  refine HA.out.mono ?_
  rintro e w1 ⟨rfl, hb1⟩
  have HB1 := Lib.hid hb1
  clear hb1
  go_wp2_with fail
  go_at_call 10
  refine (HS1.out _ (HV.out.below HB1.out) (HW.out.below HB1.out)).mono ?_
  rintro e w2 ⟨v1, er1, rfl, hb2, ht1⟩
  have HB2 := Lib.hid (HB1.out.trans (hb2.mono HB1.out.size))
  obtain ⟨x11, x12, x13, rfl⟩ := src_shape ht1
  obtain rfl : er1 = errP (f i) := ht1.2
  clear ht1 hb2 ho1
  go_wp2_with fail
  go_at_call 10
  refine (HS2.out _ (HV.out.below HB2.out) (HW.out.below HB2.out)).mono ?_
  rintro e w3 ⟨v2, er2, rfl, hb3, ht2⟩
  have HB3 := Lib.hid (HB2.out.trans (hb3.mono HB2.out.size))
  obtain ⟨x21, x22, x23, rfl⟩ := src_shape ht2
  clear ht2 hb3
  go_wp2_with fail
  go_at_call 10
  refine (HS3.out _ (HV.out.below HB3.out) (HW.out.below HB3.out)).mono ?_
  rintro e w4 ⟨v3, er3, rfl, hb4, ht3⟩
  have HB4 := Lib.hid (HB3.out.trans (hb4.mono HB3.out.size))
  obtain ⟨x31, x32, x33, rfl⟩ := src_shape ht3
  clear ht3 hb4
  go_wp2_with fail
  go_ret
  exact ⟨rfl, HB4.out⟩

set_option maxRecDepth 100000 in
set_option maxHeartbeats 2000000 in
theorem rows_no2 (s t : ByteArray) (hs : s.size ≤ 140737488351232) (ht : t.size ≤ 140737488351232) (la : List ItemT) (p : Nat) (ho1 : textO srcF s = .ok la p) (i : Nat) (ho2 : textO srcF t = .no i) (w : World) (hE : Env w) (f : Nat → Addr) (h4 : Errs4 w f) :
    Calls Tryd.prog 3 #[.string s, .string t] w fun e w' => e = .returned (.bool true) ∧ Below w.heap.size w w' := by
  have HA := Lib.hid (alive_any w hE f h4)
  have HV := Lib.hid hE
  have HW := Lib.hid h4
  have c1 : ∀ W : World, (Op.stringOp .add s ⟨#[10]⟩).run Tryd.prog W = .ok (.string (s ++ ⟨#[10]⟩)) W := fun W => run_string_add_sum W _ _ (by show s.size + 1 ≤ _; omega)
  have c2 : ∀ W : World, (Op.stringOp .add (s ++ ⟨#[10]⟩) t).run Tryd.prog W = .ok (.string (s ++ ⟨#[10]⟩ ++ t)) W := fun W => run_string_add_sum W _ _ (by rw [ByteArray.size_append]; show s.size + 1 + t.size ≤ _; omega)
  have HS1 := Lib.hid (fun w hE h4 => textIt_any s w hE f h4)
  have HS2 := Lib.hid (fun w hE h4 => textIt_any t w hE f h4)
  have HS3 := Lib.hid (fun w hE h4 => textIt_any (s ++ ⟨#[10]⟩ ++ t) w hE f h4)
  rw [ho1] at HS1
  rw [ho2] at HS2
  generalize s ++ ⟨#[10]⟩ ++ t = u2 at *
  generalize s ++ ⟨#[10]⟩ = u1 at *
  have q0 : (0 : Int) ≤ (s.size : Int) := by omega
  have q1 : (s.size : Int) ≤ 140737488351232 := by omega
  have q2 : (0 : Int) ≤ (t.size : Int) := by omega
  have q3 : (t.size : Int) ≤ 140737488351232 := by omega
  clear hE h4 hs ht
  go_enter Tryd.func3, Tryd.ntmps3
  go_wp2_with fail
  refine HA.out.mono ?_
  rintro e w1 ⟨rfl, hb1⟩
  have HB1 := Lib.hid hb1
  clear hb1
  go_wp2_with fail
  go_at_call 10
  refine (HS1.out _ (HV.out.below HB1.out) (HW.out.below HB1.out)).mono ?_
  rintro e w2 ⟨v1, er1, rfl, hb2, ht1⟩
  have HB2 := Lib.hid (HB1.out.trans (hb2.mono HB1.out.size))
  obtain ⟨x11, x12, x13, rfl⟩ := src_shape ht1
  obtain rfl : er1 = .nilIface := ht1.1
  clear ht1 hb2 ho1
  go_wp2_with fail
  go_at_call 10
  refine (HS2.out _ (HV.out.below HB2.out) (HW.out.below HB2.out)).mono ?_
  rintro e w3 ⟨v2, er2, rfl, hb3, ht2⟩
  have HB3 := Lib.hid (HB2.out.trans (hb3.mono HB2.out.size))
  obtain ⟨x21, x22, x23, rfl⟩ := src_shape ht2
  obtain rfl : er2 = errP (f i) := ht2.2
  clear ht2 hb3 ho2
  go_wp2_with fail
  go_at_call 10
  refine (HS3.out _ (HV.out.below HB3.out) (HW.out.below HB3.out)).mono ?_
  rintro e w4 ⟨v3, er3, rfl, hb4, ht3⟩
  have HB4 := Lib.hid (HB3.out.trans (hb4.mono HB3.out.size))
  obtain ⟨x31, x32, x33, rfl⟩ := src_shape ht3
  clear ht3 hb4
  go_wp2_with fail
  go_ret
  exact ⟨rfl, HB4.out⟩

set_option maxRecDepth 100000 in
set_option maxHeartbeats 2000000 in
theorem rows_large (s t : ByteArray) (hs : s.size ≤ 140737488351232) (ht : t.size ≤ 140737488351232) (la lb : List ItemT) (p q : Nat) (ho1 : textO srcF s = .ok la p) (ho2 : textO srcF t = .ok lb q) (hl : 16384 ≤ s.size + t.size) (w : World) (hE : Env w) (f : Nat → Addr) (h4 : Errs4 w f) :
    Calls Tryd.prog 3 #[.string s, .string t] w fun e w' => e = .returned (.bool true) ∧ Below w.heap.size w w' := by
  have HA := Lib.hid (alive_any w hE f h4)
  have HV := Lib.hid hE
  have HW := Lib.hid h4
  have c1 : ∀ W : World, (Op.stringOp .add s ⟨#[10]⟩).run Tryd.prog W = .ok (.string (s ++ ⟨#[10]⟩)) W := fun W => run_string_add_sum W _ _ (by show s.size + 1 ≤ _; omega)
  have c2 : ∀ W : World, (Op.stringOp .add (s ++ ⟨#[10]⟩) t).run Tryd.prog W = .ok (.string (s ++ ⟨#[10]⟩ ++ t)) W := fun W => run_string_add_sum W _ _ (by rw [ByteArray.size_append]; show s.size + 1 + t.size ≤ _; omega)
  have HS1 := Lib.hid (fun w hE h4 => textIt_any s w hE f h4)
  have HS2 := Lib.hid (fun w hE h4 => textIt_any t w hE f h4)
  have HS3 := Lib.hid (fun w hE h4 => textIt_any (s ++ ⟨#[10]⟩ ++ t) w hE f h4)
  rw [ho1] at HS1
  rw [ho2] at HS2
  generalize s ++ ⟨#[10]⟩ ++ t = u2 at *
  generalize s ++ ⟨#[10]⟩ = u1 at *
  have q0 : (0 : Int) ≤ (s.size : Int) := by omega
  have q1 : (s.size : Int) ≤ 140737488351232 := by omega
  have q2 : (0 : Int) ≤ (t.size : Int) := by omega
  have q3 : (t.size : Int) ≤ 140737488351232 := by omega
  have hd : decide ((16384 : Int) ≤ (s.size : Int) + (t.size : Int)) = true := by simp; omega
  clear hl
  clear hE h4 hs ht
  go_enter Tryd.func3, Tryd.ntmps3
  go_wp2_with fail
  refine HA.out.mono ?_
  rintro e w1 ⟨rfl, hb1⟩
  have HB1 := Lib.hid hb1
  clear hb1
  go_wp2_with fail
  go_at_call 10
  refine (HS1.out _ (HV.out.below HB1.out) (HW.out.below HB1.out)).mono ?_
  rintro e w2 ⟨v1, er1, rfl, hb2, ht1⟩
  have HB2 := Lib.hid (HB1.out.trans (hb2.mono HB1.out.size))
  obtain ⟨x11, x12, x13, rfl⟩ := src_shape ht1
  obtain rfl : er1 = .nilIface := ht1.1
  clear ht1 hb2 ho1
  go_wp2_with fail
  go_at_call 10
  refine (HS2.out _ (HV.out.below HB2.out) (HW.out.below HB2.out)).mono ?_
  rintro e w3 ⟨v2, er2, rfl, hb3, ht2⟩
  have HB3 := Lib.hid (HB2.out.trans (hb3.mono HB2.out.size))
  obtain ⟨x21, x22, x23, rfl⟩ := src_shape ht2
  obtain rfl : er2 = .nilIface := ht2.1
  clear ht2 hb3 ho2
  go_wp2_with fail
  go_at_call 10
  refine (HS3.out _ (HV.out.below HB3.out) (HW.out.below HB3.out)).mono ?_
  rintro e w4 ⟨v3, er3, rfl, hb4, ht3⟩
  have HB4 := Lib.hid (HB3.out.trans (hb4.mono HB3.out.size))
  obtain ⟨x31, x32, x33, rfl⟩ := src_shape ht3
  clear ht3 hb4
  go_wp2_with fail
  go_ret
  exact ⟨rfl, HB4.out⟩

set_option maxRecDepth 100000 in
set_option maxHeartbeats 2000000 in
theorem rows_many (s t : ByteArray) (hs : s.size ≤ 140737488351232) (ht : t.size ≤ 140737488351232) (la lb : List ItemT) (p q : Nat) (ho1 : textO srcF s = .ok la p) (ho2 : textO srcF t = .ok lb q) (hl : s.size + t.size < 16384) (hn : 512 < la.length + lb.length) (hn1 : la.length ≤ 512) (hn2 : lb.length ≤ 512) (w : World) (hE : Env w) (f : Nat → Addr) (h4 : Errs4 w f) :
    Calls Tryd.prog 3 #[.string s, .string t] w fun e w' => e = .returned (.bool true) ∧ Below w.heap.size w w' := by
  have HA := Lib.hid (alive_any w hE f h4)
  have HV := Lib.hid hE
  have HW := Lib.hid h4
  have c1 : ∀ W : World, (Op.stringOp .add s ⟨#[10]⟩).run Tryd.prog W = .ok (.string (s ++ ⟨#[10]⟩)) W := fun W => run_string_add_sum W _ _ (by show s.size + 1 ≤ _; omega)
  have c2 : ∀ W : World, (Op.stringOp .add (s ++ ⟨#[10]⟩) t).run Tryd.prog W = .ok (.string (s ++ ⟨#[10]⟩ ++ t)) W := fun W => run_string_add_sum W _ _ (by rw [ByteArray.size_append]; show s.size + 1 + t.size ≤ _; omega)
  have HS1 := Lib.hid (fun w hE h4 => textIt_any s w hE f h4)
  have HS2 := Lib.hid (fun w hE h4 => textIt_any t w hE f h4)
  have HS3 := Lib.hid (fun w hE h4 => textIt_any (s ++ ⟨#[10]⟩ ++ t) w hE f h4)
  rw [ho1] at HS1
  rw [ho2] at HS2
  generalize s ++ ⟨#[10]⟩ ++ t = u2 at *
  generalize s ++ ⟨#[10]⟩ = u1 at *
  have q0 : (0 : Int) ≤ (s.size : Int) := by omega
  have q1 : (s.size : Int) ≤ 140737488351232 := by omega
  have q2 : (0 : Int) ≤ (t.size : Int) := by omega
  have q3 : (t.size : Int) ≤ 140737488351232 := by omega
  have hd : decide ((16384 : Int) ≤ (s.size : Int) + (t.size : Int)) = false := by simp; omega
  have hm : decide ((512 : Int) < (la.length : Int) + (lb.length : Int)) = true := by simp; omega
  have n1 : (la.length : Int) ≤ 512 := by omega
  have n2 : (lb.length : Int) ≤ 512 := by omega
  have n3 : (0 : Int) ≤ (la.length : Int) := by omega
  have n4 : (0 : Int) ≤ (lb.length : Int) := by omega
  clear hl hn hn1 hn2
  clear hE h4 hs ht
  go_enter Tryd.func3, Tryd.ntmps3
  go_wp2_with fail
  refine HA.out.mono ?_
  rintro e w1 ⟨rfl, hb1⟩
  have HB1 := Lib.hid hb1
  clear hb1
  go_wp2_with fail
  go_at_call 10
  refine (HS1.out _ (HV.out.below HB1.out) (HW.out.below HB1.out)).mono ?_
  rintro e w2 ⟨v1, er1, rfl, hb2, ht1⟩
  have HB2 := Lib.hid (HB1.out.trans (hb2.mono HB1.out.size))
  obtain ⟨A1, k1, rfl, _⟩ := ht1.2.at (fun _ _ _ _ _ h => ItemV.cells h) (by decide)
  obtain rfl : er1 = .nilIface := ht1.1
  clear ht1 hb2 ho1
  go_wp2_with fail
  go_at_call 10
  refine (HS2.out _ (HV.out.below HB2.out) (HW.out.below HB2.out)).mono ?_
  rintro e w3 ⟨v2, er2, rfl, hb3, ht2⟩
  have HB3 := Lib.hid (HB2.out.trans (hb3.mono HB2.out.size))
  obtain ⟨A2, k2, rfl, _⟩ := ht2.2.at (fun _ _ _ _ _ h => ItemV.cells h) (by decide)
  obtain rfl : er2 = .nilIface := ht2.1
  clear ht2 hb3 ho2
  go_wp2_with fail
  go_at_call 10
  refine (HS3.out _ (HV.out.below HB3.out) (HW.out.below HB3.out)).mono ?_
  rintro e w4 ⟨v3, er3, rfl, hb4, ht3⟩
  have HB4 := Lib.hid (HB3.out.trans (hb4.mono HB3.out.size))
  obtain ⟨x31, x32, x33, rfl⟩ := src_shape ht3
  clear ht3 hb4
  go_wp2_with fail
  go_ret
  exact ⟨rfl, HB4.out⟩

set_option maxRecDepth 100000 in
set_option maxHeartbeats 2000000 in
theorem rows_all (s t : ByteArray) (hs : s.size ≤ 140737488351232) (ht : t.size ≤ 140737488351232) (la lb : List ItemT) (p q k : Nat) (ho1 : textO srcF s = .ok la p) (ho2 : textO srcF t = .ok lb q) (hl : s.size + t.size < 16384) (hn : la.length + lb.length ≤ 512) (ho3 : textO srcF (s ++ ⟨#[10]⟩ ++ t) = .ok (la ++ lb) k) (w : World) (hE : Env w) (f : Nat → Addr) (h4 : Errs4 w f) :
    Calls Tryd.prog 3 #[.string s, .string t] w fun e w' => e = .returned (.bool true) ∧ Below w.heap.size w w' := by
  have HA := Lib.hid (alive_any w hE f h4)
  have HV := Lib.hid hE
  have HW := Lib.hid h4
  have c1 : ∀ W : World, (Op.stringOp .add s ⟨#[10]⟩).run Tryd.prog W = .ok (.string (s ++ ⟨#[10]⟩)) W := fun W => run_string_add_sum W _ _ (by show s.size + 1 ≤ _; omega)
  have c2 : ∀ W : World, (Op.stringOp .add (s ++ ⟨#[10]⟩) t).run Tryd.prog W = .ok (.string (s ++ ⟨#[10]⟩ ++ t)) W := fun W => run_string_add_sum W _ _ (by rw [ByteArray.size_append]; show s.size + 1 + t.size ≤ _; omega)
  have HS1 := Lib.hid (fun w hE h4 => textIt_any s w hE f h4)
  have HS2 := Lib.hid (fun w hE h4 => textIt_any t w hE f h4)
  have HS3 := Lib.hid (fun w hE h4 => textIt_any (s ++ ⟨#[10]⟩ ++ t) w hE f h4)
  rw [ho1] at HS1
  rw [ho2] at HS2
  rw [ho3] at HS3
  clear ho3
  generalize s ++ ⟨#[10]⟩ ++ t = u2 at *
  generalize s ++ ⟨#[10]⟩ = u1 at *
  have q0 : (0 : Int) ≤ (s.size : Int) := by omega
  have q1 : (s.size : Int) ≤ 140737488351232 := by omega
  have q2 : (0 : Int) ≤ (t.size : Int) := by omega
  have q3 : (t.size : Int) ≤ 140737488351232 := by omega
  have hd : decide ((16384 : Int) ≤ (s.size : Int) + (t.size : Int)) = false := by simp; omega
  have hm : decide ((512 : Int) < (la.length : Int) + (lb.length : Int)) = false := by simp; omega
  have n1 : (la.length : Int) ≤ 512 := by omega
  have n2 : (lb.length : Int) ≤ 512 := by omega
  have n3 : (0 : Int) ≤ (la.length : Int) := by omega
  have n4 : (0 : Int) ≤ (lb.length : Int) := by omega
  have HN := Lib.hid hn
  clear hl hn
  clear hE h4 hs ht
  go_enter Tryd.func3, Tryd.ntmps3
  go_wp2_with fail
  refine HA.out.mono ?_
  rintro e w1 ⟨rfl, hb1⟩
  have HB1 := Lib.hid hb1
  clear hb1
  go_wp2_with fail
  go_at_call 10
  refine (HS1.out _ (HV.out.below HB1.out) (HW.out.below HB1.out)).mono ?_
  rintro e w2 ⟨v1, er1, rfl, hb2, ht1⟩
  have HB2 := Lib.hid (HB1.out.trans (hb2.mono HB1.out.size))
  obtain ⟨rfl, hv1⟩ := ht1
  obtain ⟨A1, k1, rfl, _⟩ := hv1.at (fun _ _ _ _ _ h => ItemV.cells h) (by decide)
  have HV1 := Lib.hid hv1
  have hsz2 := hb2.size
  clear hv1 hb2 ho1
  go_wp2_with fail
  go_at_call 10
  refine (HS2.out _ (HV.out.below HB2.out) (HW.out.below HB2.out)).mono ?_
  rintro e w3 ⟨v2, er2, rfl, hb3, ht2⟩
  have HB3 := Lib.hid (HB2.out.trans (hb3.mono HB2.out.size))
  obtain ⟨rfl, hv2⟩ := ht2
  obtain ⟨A2, k2, rfl, _⟩ := hv2.at (fun _ _ _ _ _ h => ItemV.cells h) (by decide)
  have HV2 := Lib.hid hv2
  have HV1b := Lib.hid (same_of_below (ArgsV.stable _ _ ItemV.stable) HV1.out hb3 (Nat.le_refl _))
  have hsz3 := hb3.size
  clear hv2 hb3 ho2
  go_wp2_with fail
  go_at_call 10
  refine (HS3.out _ (HV.out.below HB3.out) (HW.out.below HB3.out)).mono ?_
  rintro e w4 ⟨v3, er3, rfl, hb4, ht3⟩
  have HB4 := Lib.hid (HB3.out.trans (hb4.mono HB3.out.size))
  obtain ⟨rfl, hv3⟩ := ht3
  obtain ⟨A3, n5, k3, rfl⟩ := hv3.slice
  have HV3 := Lib.hid hv3
  have HV1c := Lib.hid (same_of_below (ArgsV.stable _ _ ItemV.stable) HV1b.out hb4 (by omega))
  have HV2c := Lib.hid (same_of_below (ArgsV.stable _ _ ItemV.stable) HV2.out hb4 (Nat.le_refl _))
  have hsz4 := hb4.size
  clear hv3 hb4
  obtain ⟨va, ra, ea⟩ := HV1c.out.hasRow
  obtain ⟨vb, rb, eb⟩ := HV2c.out.hasRow
  have HRA := Lib.hid ra
  have HRB := Lib.hid rb
  have HEA := Lib.hid (ea.to (lo' := w1.heap.size) (hi' := w4.heap.size) (w' := w4) ItemV.stable (by omega) (by omega) (fun _ _ _ => rfl))
  have HEB := Lib.hid (eb.to (lo' := w1.heap.size) (hi' := w4.heap.size) (w' := w4) ItemV.stable (by omega) (by omega) (fun _ _ _ => rfl))
  clear ra rb ea eb
  have hm4 : Below w4.heap.size w4 (w4.alloc (.cells #[] 50)) := (Below.refl _ _).alloc (Nat.le_refl _) _
  have ho4 : (w4.alloc (.cells #[] 50)).ownsRow w4.heap.size 50 20 (.slice (some ⟨w4.heap.size, 0, none⟩) 0 0) 0 [] := World.ownsRow_made w4 #[] 0 (Nat.le_refl _) (by unfold maxLen; omega) rfl
  have HM4 := Lib.hid hm4
  have HO4 := Lib.hid ho4
  have HZ4 : Hid (w1.heap.size ≤ w4.heap.size) := Lib.hid (by omega)
  clear hm4 ho4 hsz2 hsz3
  go_wp2_with (first | (at_builtin; refine wpList_append_row rfl (.tmp 57) (.tmp 58) rfl w4.heap.size _ 0 [] rfl HO4.out _ la.length (va.flatMap cellsL) rfl (HRA.out.below HM4.out) (one_flat HEA.out) (by have := HN.out; omega) HM4.out.size ?_; intro v5 w5 ho5 hg5; simp only [Nat.zero_add, List.nil_append] at ho5; obtain ⟨A5, c5, rfl⟩ := owns_shape ho5; have HB5 := Lib.hid (HM4.out.grown hg5 HM4.out.size (fun k hk => (HO4.out.lt k hk).1)); have HO5 := Lib.hid ho5; clear ho5 hg5) | (at_builtin; refine wpList_append_row rfl (.tmp 59) (.tmp 60) rfl w4.heap.size _ _ _ rfl HO5.out _ lb.length (vb.flatMap cellsL) rfl (HRB.out.below HB5.out) (one_flat HEB.out) (by have := HN.out; omega) HB5.out.size ?_; intro v6 w6 ho6 hg6; obtain ⟨A6, c6, rfl⟩ := owns_shape ho6; have HB6 := Lib.hid (HB5.out.grown hg6 HB5.out.size (fun k hk => (HO5.out.lt k hk).1)); have HO6 := Lib.hid ho6; clear ho6 hg6))
  go_at_call 11
  have hsz6 := HB6.out.size
  have he6 := Each.to (lo' := w1.heap.size) (hi' := w4.heap.size) (w' := w6) ItemV.stable (Nat.le_refl _) (Nat.le_refl _) (fun j _ j2 => HB6.out.block j j2) (Each.app HEB.out HEA.out)
  have hov : w6.ownsRow w4.heap.size 50 20 (.slice A6 (la.length + lb.length) c6) (la ++ lb).length ((va ++ vb).flatMap cellsL) := by
    rw [List.length_append, List.flatMap_append]
    exact HO6.out
  have hr6 := argsV_of_own hov he6 (Nat.le_refl _) HZ4.out hsz6
  have h36 := same_of_below (ArgsV.stable _ _ ItemV.stable) HV3.out HB6.out (Nat.le_refl _)
  refine (sameItems_any (la ++ lb) _ _ _ _ _ _ w6 h36 hr6 hsz6 (Nat.le_refl _)).mono ?_
  rintro e w7 ⟨rfl, hb7⟩
  have HB7 := Lib.hid ((HB4.out.trans (HB6.out.mono HB4.out.size)).trans (hb7.mono (HB4.out.trans (HB6.out.mono HB4.out.size)).size))
  clear hb7 hr6 h36 hov he6
  go_wp2_with fail
  go_ret
  exact ⟨rfl, HB7.out⟩

theorem srcLoop_few (b : List Tok) : ∀ (m k : Nat) (acc l : List ItemT) (k' : Nat), srcLoop b 0 m k acc = .ok l k' → acc.length ≤ 512 → l.length ≤ 512
  | 0, _, _, _, _, h, _ => by simp [srcLoop] at h
  | m + 1, k, acc, l, k', h, ha => by
    rw [srcLoop] at h
    split at h
    · split at h
      · cases h
      · rename_i h5
        split at h
        · cases h
        · split at h
          · cases h
          · exact srcLoop_few b m _ _ l k' h (by rw [List.length_append]; simp; omega)
    · injection h with h1 h2
      subst h1
      exact ha
theorem src_few {s : ByteArray} {x : List ItemT} {k : Nat} (h : textO srcF s = .ok x k) : x.length ≤ 512 := srcLoop_few _ _ _ _ _ _ (srcF_inv h).2.2.1 (Nat.zero_le _)
theorem lawRows_any (s t : ByteArray) (hs : s.size ≤ 140737488351232) (ht : t.size ≤ 140737488351232) (w : World) (hE : Env w) (f : Nat → Addr) (h4 : Errs4 w f) :
    Calls Tryd.prog 3 #[.string s, .string t] w fun e w' => e = .returned (.bool true) ∧ Below w.heap.size w w' := by
  cases ho1 : textO srcF s with
  | no i => exact rows_no1 s t hs ht i ho1 w hE f h4
  | ok la p =>
    cases ho2 : textO srcF t with
    | no i => exact rows_no2 s t hs ht la p ho1 i ho2 w hE f h4
    | ok lb q =>
      rcases Nat.lt_or_ge (s.size + t.size) 16384 with hl | hl
      · rcases Nat.lt_or_ge 512 (la.length + lb.length) with hn | hn
        · exact rows_many s t hs ht la lb p q ho1 ho2 hl hn (src_few ho1) (src_few ho2) w hE f h4
        · obtain ⟨k, ho3⟩ := src_both ho1 ho2 hl hn
          exact rows_all s t hs ht la lb p q k ho1 ho2 hl hn ho3 w hE f h4
      · exact rows_large s t hs ht la lb p q ho1 ho2 hl w hE f h4

end Lx
end Go.Proofs.YtbbbbfglhphffaaDoor
