/- The walk of the statement ParseBlanks: it returns true. Conditions: the sixteen error variables hold pointers to cells of their own; strconv's table of powers of ten holds them. -/
import Derived.Test.YtnahhlhkbfdlhaaGreatDoorNum4
import Derived.Test.YtnahhlhkbfdlhaaGreatDoorRefB
import Derived.Test.YtnahhlhkbfdlhaaGreatDoorSameIts
import Derived.Test.YtnahhlhkbfdlhaaGreatDoorTextI
import Derived.Test.YtnahhlhkbfdlhaaGreatDoorPlainWv
import Derived.Test.YtnahhlhkbfdlhaaGreatDoorPlainBlanks
namespace Go.Proofs.YtnahhlhkbfdlhaaGreatDoor
set_option linter.unusedSimpArgs false
set_option linter.unusedVariables false
namespace Lx
open Go Go.RowKit

abbrev srcF : List Tok → Out (List ItemT) := fun ts => sourceO ts 0 0
theorem pb_ext (x y : ByteArray) : (x ++ y).data.toList = x.data.toList ++ y.data.toList := by simp
theorem pb_add (x y : ByteArray) (h : x.size + y.size ≤ 9000000000000000000) : ∀ W : World, (Op.stringOp .add x y).run Tryz.prog W = .ok (.string (x ++ y)) W := fun W => run_string_add_sum W _ _ (by show x.size + y.size ≤ _; omega)
theorem erN_lo64 (i : Nat) : -9223372036854775808 ≤ erN i := Int.le_trans (by decide) (erN_lo i)
theorem erN_hi64 (i : Nat) : erN i ≤ 9223372036854775807 := Int.le_trans (erN_hi i) (by decide)
theorem src_bad (s : ByteArray) (h : 16384 < s.size ∨ (s.size ≤ 16384 ∧ whole s.data.toList = false)) : ∃ i, textO srcF s = .no i ∧
    (∀ w, Calls Tryz.prog 20 #[.string s] w fun e w' => e = .returned (.tuple #[.slice none 0 0, .int .i64 (erN i)]) ∧ Below w.heap.size w w') ∧ erN i ≠ 0 := by
  rcases h with h | ⟨h, hw⟩
  · refine ⟨1, textO_large _ h, fun w => (refLex_any s w).mono ?_, by decide⟩
    rintro e w' ⟨hb, h1 | h1 | h1⟩
    · exact ⟨h1.2, hb⟩
    · exact absurd h1.1 (by omega)
    · exact absurd h1.1 (by omega)
  · refine ⟨3, textO_bad _ h hw, fun w => (refLex_any s w).mono ?_, by decide⟩
    rintro e w' ⟨hb, h1 | h1 | h1⟩
    · exact absurd h1.1 (by omega)
    · exact ⟨h1.2.2, hb⟩
    · rw [hw] at h1; exact absurd h1.2.1 (by decide)

set_option maxRecDepth 100000 in
set_option maxHeartbeats 2000000 in
/-- The text is no row of tokens. -/
theorem pb_bad (s : ByteArray) (h : 16384 < s.size ∨ (s.size ≤ 16384 ∧ whole s.data.toList = false)) (x : Int) (w : World) (hE : Env w) (f : Nat → Addr) (hS : Sents w f) :
    Calls Tryz.prog 5 #[.string s, .int .i64 x] w fun e w' => e = .returned (.bool true) ∧ Below w.heap.size w w' := by
  obtain ⟨i, ho, hl, hn⟩ := src_bad s h
  have HA := Lib.hid (alive_any w hE _ hS.four)
  have HV := Lib.hid hE
  have HS := Lib.hid hS
  have HL := Lib.hid hl
  have HT := Lib.hid (fun w hE h4 => textIt_any s w hE (four f) h4)
  rw [ho] at HT
  have HN := Lib.hid (fun w hS => num_four f i w hS)
  have n0 := erN_lo64 i
  have n1 := erN_hi64 i
  have hq : (erN i != 0) = true := by simpa using hn
  generalize erN i = n at *

  clear h hE hS ho hl hn
  go_enter Tryz.func5, Tryz.ntmps5
  go_wp2_with fail
  refine HA.out.mono ?_
  rintro e w1 ⟨rfl, hb1⟩
  have HB1 := Lib.hid hb1
  clear hb1
  go_wp2_with fail
  go_at_call 20
  refine (HL.out _).mono ?_
  rintro e w2 ⟨rfl, hb2⟩
  have HB2 := Lib.hid (HB1.out.trans (hb2.mono HB1.out.size))
  clear hb2
  go_wp2_with fail
  go_at_call 7
  refine (HT.out _ (HV.out.below HB2.out) (HS.out.below HB2.out).four).mono ?_
  rintro e w3 ⟨v1, er1, rfl, hb3, rfl, rfl⟩
  have HB3 := Lib.hid (HB2.out.trans (hb3.mono HB2.out.size))
  clear hb3
  go_wp2_with fail
  go_at_call 10
  refine (HN.out _ (HS.out.below HB3.out)).mono ?_
  rintro e w4 ⟨rfl, hb4⟩
  have HB4 := Lib.hid (HB3.out.trans (hb4.mono HB3.out.size))
  clear hb4
  go_wp2_with fail
  go_ret
  exact ⟨rfl, HB4.out⟩

theorem wv_bound (b : List UInt8) (hb : b.length ≤ 6) : ∀ ts : List Tok, (∀ t ∈ ts, t.text.length ≤ 16384) → (wv b ts).length ≤ ts.length * 20000
  | [], _ => Nat.zero_le _
  | t :: r, h => by
    have h1 := h t (List.mem_cons_self ..)
    have h2 := wv_bound b hb r (fun x hx => h x (List.mem_cons_of_mem _ hx))
    simp only [wv, List.length_append, List.length_cons]
    omega
theorem wv_step {b y x : ByteArray} {ts : List Tok} {k : Nat} (hk : k < ts.length) (hy : y.data.toList = b.data.toList ++ wv b.data.toList (ts.take k)) (hx : x.data.toList = ts[k].text) :
    (y ++ (x ++ b)).data.toList = b.data.toList ++ wv b.data.toList (ts.take (k + 1)) := by
  rw [pb_ext, pb_ext, wv_take _ _ _ hk, hy, hx, List.append_assoc]
/-- The text with blanks comes to the same. -/
theorem src_same {s y : ByteArray} (h : s.size ≤ 16384) (hw : whole s.data.toList = true) (h2 : y.size ≤ 16384) (hw2 : whole y.data.toList = true) (ht : toks y.data.toList = toks s.data.toList) : textO srcF y = textO srcF s := by
  rw [textO_good _ h2 hw2, textO_good _ h hw, ht]

/-- The row of tokens that the reference's Lex gives. -/
def TokRow (w : World) (A : Option Addr) (ts : List Tok) : Prop := ts ≠ [] → ∃ g, A = some ⟨g, 0, none⟩ ∧ g < w.heap.size ∧ ∀ j, j < 3 * ts.length → w.cell? ⟨g, j, none⟩ = (cellsT ts)[j]?
theorem tok_row {w : World} {v : Value} {ts : List Tok} {base : Nat} (ho : w.ownsRow base 62 3 v ts.length (cellsT ts)) : ∃ A c, v = .slice A ts.length c ∧ TokRow w A ts := by
  have ho' := ho
  rcases ho.2 with ⟨rfl, h⟩ | ⟨g, cap, cur, rfl, _⟩
  · exact ⟨none, 0, by rw [h], fun hn => absurd (List.eq_nil_of_length_eq_zero h) hn⟩
  · exact ⟨_, cap, rfl, fun _ => ⟨g, rfl, (ho'.lt g rfl).2, fun j hj => ho'.cellAt j (by omega)⟩⟩
theorem tok_at {w wr : World} {A : Option Addr} {ts : List Tok} (h : TokRow w A ts) (hb : Below w.heap.size w wr) (k : Nat) (hk : k < ts.length) : ∃ g, A = some ⟨g, 0, none⟩ ∧ wr.cell? ⟨g, k * 3, none⟩ = some (.int .i64 (ts[k]).kind) ∧ wr.cell? ⟨g, k * 3 + 1, none⟩ = some (.string (bs (ts[k]).text)) ∧ wr.cell? ⟨g, k * 3 + 2, none⟩ = some (.int .i64 (ts[k]).num) := by
  obtain ⟨g, e, hg, hc⟩ := h (by intro e; subst e; simp at hk)
  have h1 := cellsP_at ts k hk
  rw [Nat.mul_comm 3 k] at h1
  exact ⟨g, e, ((hb.cell (p := ⟨g, _, none⟩) hg).trans (hc _ (by omega))).trans h1.1, ((hb.cell (p := ⟨g, _, none⟩) hg).trans (hc (k * 3 + 1) (by omega))).trans h1.2.1, ((hb.cell (p := ⟨g, _, none⟩) hg).trans (hc (k * 3 + 2) (by omega))).trans h1.2.2⟩
theorem toks_small' {l : List UInt8} {t : Tok} (h : t ∈ toks l) : t.text.length ≤ l.length := toks_small h
theorem blk5_cell (i : Nat) (h : i < 5) (W : World) : (W.alloc (.cells #[.string ⟨#[32]⟩, .string ⟨#[10]⟩, .string ⟨#[32, 37, 32, 115, 111, 10]⟩, .string ⟨#[9, 9]⟩, .string ⟨#[13, 10]⟩] 9)).cell? ⟨W.heap.size, i, none⟩ = some (.string (blk5 i)) := by
  rw [cell_of_row _ W.heap.size i _ _ _ (heap_alloc_new W _)]
  match i, h with
  | 0, _ => rfl
  | 1, _ => rfl
  | 2, _ => rfl
  | 3, _ => rfl
  | 4, _ => rfl
  | n + 5, h => exact absurd h (by omega)

set_option maxRecDepth 100000 in
set_option maxHeartbeats 4000000 in
theorem pb_good (s : ByteArray) (h : s.size ≤ 16384) (hw : whole s.data.toList = true) (x : Int) (wx : (Lit.int .i64 x).wf = true) (w : World) (hE : Env w) (f : Nat → Addr) (hS : Sents w f) :
    Calls Tryz.prog 5 #[.string s, .int .i64 x] w fun e w' => e = .returned (.bool true) ∧ Below w.heap.size w w' := by
  have HA := Lib.hid (alive_any w hE _ hS.four)
  have HV := Lib.hid hE
  have HS := Lib.hid hS
  have HL := Lib.hid (refLex_any s)
  have HT := Lib.hid (fun w hE h4 => textIt_any s w hE (four f) h4)
  obtain ⟨hx0, hx1⟩ : -9223372036854775808 ≤ x ∧ x ≤ 9223372036854775807 := by
    simp only [Lit.wf, Bool.and_eq_true, decide_eq_true_eq] at wx
    exact ⟨wx.1, wx.2⟩
  have hm0 : -5 < Int.tmod x 5 ∧ Int.tmod x 5 < 5 := ⟨by have := Int.lt_tmod_of_pos x (show (0 : Int) < 5 by decide); omega, Int.tmod_lt_of_pos x (by decide)⟩
  obtain ⟨i, hi5, hi⟩ : ∃ i : Nat, i < 5 ∧ Int.tmod (Int.tmod x 5 + 5) 5 = (i : Int) := by
    have h1 : 0 ≤ Int.tmod (Int.tmod x 5 + 5) 5 := Int.tmod_nonneg 5 (by omega)
    have h2 : Int.tmod (Int.tmod x 5 + 5) 5 < 5 := Int.tmod_lt_of_pos _ (by decide)
    exact ⟨(Int.tmod (Int.tmod x 5 + 5) 5).toNat, by omega, by omega⟩
  clear hE hS
  go_enter Tryz.func5, Tryz.ntmps5
  go_wp2_with fail
  refine HA.out.mono ?_
  rintro e w1 ⟨rfl, hb1⟩
  have HB1 := Lib.hid hb1
  clear hb1
  go_wp2_with fail
  go_at_call 20
  refine (HL.out _).mono ?_
  rintro e w2 ⟨hb2, ⟨h1, _⟩ | ⟨_, h1, _⟩ | ⟨_, _, v2, rfl, ho⟩⟩
  · exact absurd h1 (by omega)
  · rw [hw] at h1
    cases h1
  have HB2 := Lib.hid (HB1.out.trans (hb2.mono HB1.out.size))
  obtain ⟨A2, c2, rfl, hrow⟩ := tok_row ho
  have HROW := Lib.hid hrow
  have HS2 : Hid (w1.heap.size ≤ w2.heap.size) := Lib.hid hb2.size
  have hN : (toks s.data.toList).length ≤ 16384 := by
    have := toks_len s.data.toList
    rw [show s.data.toList.length = s.size by simp] at this
    omega
  have HTG : Hid (∀ t ∈ toks s.data.toList, tokAt t.text = some t ∧ t.text.length ≤ 16384) := fun t ht => ⟨toks_good ht, by have := toks_small' ht; rw [show s.data.toList.length = s.size by simp] at this; omega⟩
  have HSZ := Lib.hid h
  have HWH := Lib.hid hw
  have HTT : Hid (toks s.data.toList = toks s.data.toList) := Lib.hid rfl
  obtain ⟨ts, hts⟩ : ∃ ts, ts = toks s.data.toList := ⟨_, rfl⟩
  have HTS := Lib.hid hts
  rw [← hts] at HROW hN HTG ⊢
  clear hts HTT hrow hb2 ho HA HL wx h hw
  obtain ⟨hj1, hj2⟩ := blk5_jump i hi5
  have hcell := blk5_cell i hi5 w2
  have hi6 : (i : Int) < 5 := by omega
  have hi7 : (0 : Int) ≤ (i : Int) := by omega
  generalize blk5 i = bq at hj1 hj2 hcell
  have HJ := Lib.hid hj1
  have HN := Lib.hid hN
  clear hj1
  go_wp2_with fail
  have HB3 : Hid (Below w2.heap.size w2 (w2.alloc (.cells #[.string ⟨#[32]⟩, .string ⟨#[10]⟩, .string ⟨#[32, 37, 32, 115, 111, 10]⟩, .string ⟨#[9, 9]⟩, .string ⟨#[13, 10]⟩] 9))) := Lib.hid ((Below.refl _ _).alloc (Nat.le_refl _) _)
  clear hcell
  generalize w2.alloc (.cells #[.string ⟨#[32]⟩, .string ⟨#[10]⟩, .string ⟨#[32, 37, 32, 115, 111, 10]⟩, .string ⟨#[9, 9]⟩, .string ⟨#[13, 10]⟩] 9) = w3 at HB3 ⊢
  clear hi hi5 hi6 hi7 hm0 hx0 hx1
  go_loopw [10, 45] (fun y i wr => ∃ (k : Nat) (y' : ByteArray), k ≤ ts.length ∧ i = .int .i64 k ∧ y = .string y' ∧ Hid (y'.data.toList = bq.data.toList ++ wv bq.data.toList (ts.take k)) ∧ Hid (Below w2.heap.size w2 wr)) (fun _ i _ => ts.length - (intOf i).toNat)
  case atStart => exact ⟨0, bq, Nat.zero_le _, rfl, rfl, Lib.hid (by simp [wv]), HB3⟩
  case round =>
    obtain ⟨k, y, hk, rfl, rfl, hy, hbr⟩ := hrel
    have hyb : y.size ≤ 6 + 16384 * 20000 := by
      have h1 : y.size = y.data.toList.length := by simp
      rw [h1, hy.out, List.length_append]
      have h2 := wv_bound bq.data.toList (by simpa using hj2) (ts.take k) (fun t ht => (HTG.out t (List.mem_of_mem_take ht)).2)
      have h3 : (ts.take k).length ≤ 16384 := by rw [List.length_take]; omega
      have h4 : (ts.take k).length * 20000 ≤ 16384 * 20000 := Nat.mul_le_mul_right _ h3
      have h5 : bq.data.toList.length ≤ 6 := by simpa using hj2
      omega
    by_cases hlt : k < ts.length
    · obtain ⟨g, rfl, a0, a1, a2⟩ := tok_at HROW.out hbr.out k hlt
      have hk0 : (0 : Int) ≤ (k : Int) := by omega
      have hk1 : (k : Int) < (ts.length : Int) := by omega
      have htz := (HTG.out ts[k] (List.getElem_mem hlt)).2
      have hxl : (bs ts[k].text).data.toList = ts[k].text := rfl
      have hxz : (bs ts[k].text).size ≤ 16384 := by rw [bs_size]; exact htz
      have HST := Lib.hid (fun (X : ByteArray) (h : X.data.toList = ts[k].text) => wv_step (b := bq) hlt hy.out h)
      have HXL := Lib.hid hxl
      generalize bs ts[k].text = x at *
      have r1 := pb_add x bq (by omega)
      have r2 := pb_add y (x ++ bq) (by rw [ByteArray.size_append]; omega)
      have HLT := Lib.hid hlt
      clear hxl htz hyb hxz
      go_wp2_with fail
      go_roundw
      case rel => exact ⟨k + 1, _, HLT.out, by go_num, rfl, Lib.hid (HST.out x HXL.out), Lib.hid (hbr.out.alloc hbr.out.size _)⟩
      case measure => have := HLT.out; simp [intOf]; omega
    · obtain rfl : k = ts.length := by omega
      have hyt := hy.out
      rw [List.take_length] at hyt
      have hpt := wv_toks HJ.out (ts := ts) (fun t ht => (HTG.out t ht).1)
      rw [← hyt] at hpt
      have HPT := Lib.hid hpt
      have hq : decide ((ts.length : Int) < (ts.length : Int)) = false := by simp
      have HW := Lib.hid (HB2.out.trans (hbr.out.mono HB2.out.size))
      clear hpt hyt hlt
      rcases Nat.lt_or_ge 16384 y.size with hbig | hsm
      · have hq2 : decide ((16384 : Int) < (y.size : Int)) = true := by simp; omega
        clear hbig
        go_wp2
        go_ret
        exact ⟨rfl, HW.out⟩
      · have hq2 : decide ((16384 : Int) < (y.size : Int)) = false := by simp; omega
        have HSAME : Hid (textO srcF y = textO srcF s) := Lib.hid (src_same HSZ.out HWH.out hsm HPT.out.2 (HPT.out.1.trans HTS.out))
        have HTY := Lib.hid (fun w hE h4 => textIt_any y w hE (four f) h4)
        obtain ⟨z, E, n, ⟨n0, n1⟩, hx, hn, _⟩ := text_one (ArgsV 67 20 ItemV) (.slice none 0 0) [] (fun _ _ _ => .inl ⟨rfl, rfl⟩) f (textO srcF s)
        have HX := Lib.hid hx
        have HNM := Lib.hid hn
        clear hsm hx hn
        go_wp2_with fail
        go_at_call 7
        refine (HT.out _ (HV.out.below HW.out) (HS.out.below HW.out).four).mono ?_
        rintro e w4 ⟨v4, er4, rfl, hb4, ht⟩
        obtain ⟨rfl, hv4⟩ := HX.out _ _ _ _ ht
        have HB4 := Lib.hid (HW.out.trans (hb4.mono HW.out.size))
        obtain ⟨A4, m4, c4, rfl⟩ := hv4.slice
        have HV4 := Lib.hid hv4
        clear ht hv4 hb4 HT
        go_wp2_with fail
        go_at_call 7
        refine (HTY.out _ (HV.out.below HB4.out) (HS.out.below HB4.out).four).mono ?_
        rintro e w5 ⟨v5, er5, rfl, hb5, ht⟩
        rw [show textO (fun ts => sourceO ts 0 0) y = textO srcF s from HSAME.out] at ht
        obtain ⟨rfl, hv5⟩ := HX.out _ _ _ _ ht
        have HB5 := Lib.hid (HB4.out.trans (hb5.mono HB4.out.size))
        obtain ⟨A5, m5, c5, rfl⟩ := hv5.slice
        have HV5 := Lib.hid hv5
        have HV4b := Lib.hid (same_of_below (ArgsV.stable _ _ ItemV.stable) HV4.out hb5 (Nat.le_refl _))
        have HS5 : Hid (w4.heap.size ≤ w5.heap.size) := Lib.hid hb5.size
        clear ht hv5 hb5 HTY HV4 HX
        go_wp2_with fail
        go_at_call 10
        refine (HNM.out _ (HS.out.below HB5.out)).mono ?_
        rintro e w6 ⟨rfl, hb6⟩
        have HB6 := Lib.hid (HB5.out.trans (hb6.mono HB5.out.size))
        have HV4c := Lib.hid (same_of_below (ArgsV.stable _ _ ItemV.stable) HV4b.out hb6 HS5.out)
        have HV5c := Lib.hid (same_of_below (ArgsV.stable _ _ ItemV.stable) HV5.out hb6 (Nat.le_refl _))
        have HS6 : Hid (w5.heap.size ≤ w6.heap.size) := Lib.hid hb6.size
        clear hb6 HV4b HV5
        go_wp2_with fail
        go_at_call 10
        refine (HNM.out _ (HS.out.below HB6.out)).mono ?_
        rintro e w7 ⟨rfl, hb7⟩
        have HB7 := Lib.hid (HB6.out.trans (hb7.mono HB6.out.size))
        have HV4d := Lib.hid (same_of_below (ArgsV.stable _ _ ItemV.stable) HV4c.out hb7 (Nat.le_trans HS5.out HS6.out))
        have HV5d := Lib.hid (same_of_below (ArgsV.stable _ _ ItemV.stable) HV5c.out hb7 HS6.out)
        have HS7 : Hid (w6.heap.size ≤ w7.heap.size) := Lib.hid hb7.size
        clear hb7 HV4c HV5c
        go_wp2_with fail
        go_at_call 9
        refine (sameItems_any z _ _ _ _ _ _ w7 HV4d.out HV5d.out (Nat.le_trans HS5.out (Nat.le_trans HS6.out HS7.out)) (Nat.le_trans HS6.out HS7.out)).mono ?_
        rintro e w8 ⟨rfl, hb8⟩
        have HB8 := Lib.hid (HB7.out.trans (hb8.mono HB7.out.size))
        clear hb8
        go_wp2_with fail
        go_ret
        exact ⟨rfl, HB8.out⟩

theorem lawBlanks_any (s : ByteArray) (x : Int) (wx : (Lit.int .i64 x).wf = true) (w : World) (hE : Env w) (f : Nat → Addr) (hS : Sents w f) :
    Calls Tryz.prog 5 #[.string s, .int .i64 x] w fun e w' => e = .returned (.bool true) ∧ Below w.heap.size w w' := by
  rcases lex_cases s with h | h | ⟨h, hw⟩
  · exact pb_bad s (.inl h) x w hE f hS
  · exact pb_bad s (.inr h) x w hE f hS
  · exact pb_good s h hw x wx w hE f hS

end Lx
end Go.Proofs.YtnahhlhkbfdlhaaGreatDoor
