/- The walk of the statement LexBlanks: it returns true. Conditions: the error variables hold an error; strconv's variables hold what they should; the blanks are at most 1048576 texts of at most 1048576 bytes each. -/
import Derived.Test.YtdalldhgfdnaeaaDoorSrc
import Derived.Test.YtdalldhgfdnaeaaDoorRefAll
import Derived.Test.YtdalldhgfdnaeaaDoorPlainBlanks
import Derived.Deep.Cut
import Derived.WalkArith
namespace Go.Proofs.YtdalldhgfdnaeaaDoor
namespace Lx
open Go Go.RowKit

/-- The slice's cells hold the texts bb, in a block below B. -/
def StrRow (w : World) (B : Nat) (A : Option Addr) (bb : List ByteArray) : Prop := bb ≠ [] → ∃ b off, A = some ⟨b, off, none⟩ ∧ b < B ∧ ∀ j, j < bb.length → w.cell? ⟨b, off + j, none⟩ = some (.string (bb.getD j ⟨#[]⟩))
theorem StrRow.below {w w' : World} {B : Nat} {A : Option Addr} {bb : List ByteArray} (h : StrRow w B A bb) (hb : Below B w w') : StrRow w' B A bb := fun hne => by
  obtain ⟨b, off, e, hl, hc⟩ := h hne
  exact ⟨b, off, e, hl, fun j hj => (hb.cell (p := ⟨b, off + j, none⟩) hl).trans (hc j hj)⟩

/-- All of a text with an end of line: whether it has the end, and how many tokens. -/
theorem refAll_nl (b : ByteArray) (hb : b.size ≤ 1048576) (w : World) :
    Calls Tryd.prog 16 #[.string (b ++ ⟨#[10]⟩)] w fun e w' => ∃ pv A c, e = .returned (.tuple #[pv, .slice A (toks (b.data.toList ++ [10])).length c, .bool (whole (b.data.toList ++ [10]))]) ∧ Below w.heap.size w w' := by
  have hz : (b ++ ⟨#[10]⟩).size = b.size + 1 := by rw [ByteArray.size_append]; rfl
  have hd : (b ++ ⟨#[10]⟩).data.toList = b.data.toList ++ [10] := by simp
  refine (refAll_any _ (by omega) w).mono ?_
  rintro e w' ⟨hb, pv, ov, he, _, ho⟩
  rw [hd] at he ho
  rw [show (lex false 0 (b.data.toList ++ [10])).1.length = (toks (b.data.toList ++ [10])).length by unfold toks; rw [List.length_map]] at ho
  rcases ho.2 with ⟨rfl, h0⟩ | ⟨g, cap, cur, rfl, _⟩
  · exact ⟨pv, none, 0, by rw [he, h0], hb⟩
  · exact ⟨pv, _, cap, he, hb⟩

theorem ext_data (x y : ByteArray) : (x ++ y).data.toList = x.data.toList ++ y.data.toList := by simp
theorem arr_eq {x y : ByteArray} (h : x.data.toList = y.data.toList) : x = y := by
  cases x; cases y
  simp only [ByteArray.mk.injEq]
  exact Array.toList_inj.1 h

/-- How many ways a blank is chosen. -/
theorem bsel_ways (b : ByteArray) : (whole (b.data.toList ++ [10]) = false ∧ bsel b.data.toList = []) ∨ (whole (b.data.toList ++ [10]) = true ∧ 0 < (toks (b.data.toList ++ [10])).length ∧ bsel b.data.toList = []) ∨
    (whole (b.data.toList ++ [10]) = true ∧ (toks (b.data.toList ++ [10])).length = 0 ∧ 100 < b.size ∧ bsel b.data.toList = []) ∨ (whole (b.data.toList ++ [10]) = true ∧ (toks (b.data.toList ++ [10])).length = 0 ∧ b.size ≤ 100 ∧ bsel b.data.toList = b.data.toList) := by
  have hz : b.data.toList.length = b.size := by simp
  cases hw : whole (b.data.toList ++ [10]) with
  | false => exact .inl ⟨rfl, bsel_no1 hw⟩
  | true =>
    cases ht : toks (b.data.toList ++ [10]) with
    | cons t r => exact .inr (.inl ⟨rfl, by simp, bsel_no2 (by rw [ht]; simp)⟩)
    | nil =>
      rcases Nat.lt_or_ge 100 b.size with h | h
      · exact .inr (.inr (.inl ⟨rfl, rfl, h, bsel_no3 (by omega)⟩))
      · exact .inr (.inr (.inr ⟨rfl, rfl, h, bsel_yes hw ht (by omega)⟩))

theorem y_next {y b x : ByteArray} {k : Nat} {bb : List ByteArray} {ts : List Tok} {t : Tok} (hy : y.data.toList = weave (prs bb ts k) ∧ y.size ≤ k * 20000) (hp : prs bb ts (k + 1) = prs bb ts k ++ [(b.data.toList, t)]) (hx : x.data.toList = t.text) (hb : b.size ≤ 100) (hxs : x.size ≤ 16384) :
    (y ++ (b ++ ⟨#[10]⟩ ++ x)).data.toList = weave (prs bb ts (k + 1)) ∧ (y ++ (b ++ ⟨#[10]⟩ ++ x)).size ≤ (k + 1) * 20000 := by
  refine ⟨?_, ?_⟩
  · rw [hp, weave_snoc, ext_data, ext_data, ext_data, hy.1, hx]
  · rw [ByteArray.size_append, ByteArray.size_append, ByteArray.size_append, show (ByteArray.mk #[10]).size = 1 from rfl]
    omega
theorem run_add (x y : ByteArray) (h : x.size + y.size ≤ 9000000000000000000) : ∀ W : World, (Op.stringOp .add x y).run Tryd.prog W = .ok (.string (x ++ y)) W := fun W => run_string_add_sum W _ _ (by show x.size + y.size ≤ _; omega)

set_option maxRecDepth 100000 in
set_option maxHeartbeats 2000000 in
theorem lawBlanks_go (s : ByteArray) (hg : good s = true) (w : World) (hE : Env w) (el et : Value) (hR : Errs w el et) (A : Option Addr) (c : Nat) (bb : List ByteArray) (hne : bb ≠ []) (hB : StrRow w w.heap.size A bb) (hbz : ∀ x ∈ bb, x.size ≤ 1048576) (hbl : bb.length ≤ 1048576) :
    Calls Tryd.prog 6 #[.string s, .slice A bb.length c] w fun e w' => e = .returned (.bool true) ∧ Below w.heap.size w w' := by
  have HA := Lib.hid (alive_any w hE el et hR)
  have hsz := hE.size
  have HV := Lib.hid hE
  have HW := Lib.hid hR
  have hl := toks_len s.data.toList
  rw [show s.data.toList.length = s.size by simp] at hl
  have hs0 : s.size ≤ 16384 := by simp only [good, Bool.and_eq_true, decide_eq_true_eq] at hg; exact hg.1
  have HTG : Hid (∀ t ∈ toks s.data.toList, tokAt t.text = some t ∧ t.text.length ≤ 16384) := fun t ht => ⟨toks_good ht, by have := toks_small ht; rw [show s.data.toList.length = s.size by simp] at this; omega⟩
  have h1 := fun w hE el et hR => lex_good s hg w hE el et hR
  have hN : (toks s.data.toList).length ≤ 16384 := by omega
  clear hE hR hl hg hs0
  generalize toks s.data.toList = ts at *
  have HL := Lib.hid h1
  have HN := Lib.hid hN
  have HBZ := Lib.hid hbz
  have hb0 : 0 < bb.length := List.length_pos_iff.2 hne
  obtain ⟨bk, off, rfl, hbk, hcb⟩ := hB hne
  have HCB := Lib.hid hcb
  have HALL := Lib.hid (fun b hb w => refAll_nl b hb w)
  have h0q : ((bb.length : Int) == 0) = false := by simp; omega
  clear h1 hN hbz hcb hB hne
  go_enter Tryd.func6, Tryd.ntmps6
  go_wp2_with fail
  refine HA.out.mono ?_
  rintro e w1 ⟨rfl, hb1⟩
  go_wp2_with fail
  refine (HL.out _ (HV.out.below hb1) _ _ (HW.out.below hsz hb1)).mono ?_
  rintro e w2 ⟨v, rfl, hb2, ho2⟩
  have hs2 := Lib.hid (Src.of_own ho2)
  obtain ⟨A2, c2, rfl, _⟩ := hs2.out.shape
  have hb2 := hb1.trans (hb2.mono hb1.size)
  clear ho2
  have HB2 := Lib.hid hb2
  have hz2 := hb2.size
  clear hb2 hb1
  go_wp2_with fail
  go_loopw [7, 31] (fun x i wr => ∃ (k : Nat) (y : ByteArray), k ≤ ts.length ∧ i = .int .i64 k ∧ x = .string y ∧ Hid (y.data.toList = weave (prs bb ts k) ∧ y.size ≤ k * 20000) ∧ Hid (Below w2.heap.size w2 wr)) (fun _ i _ => ts.length - (intOf i).toNat)
  case atStart => exact ⟨0, ⟨#[]⟩, Nat.zero_le _, rfl, rfl, Lib.hid ⟨rfl, Nat.zero_le _⟩, Lib.hid (Below.refl _ _)⟩
  case round =>
    obtain ⟨k, y, hk, rfl, rfl, hy, hbr⟩ := hrel
    by_cases hlt : k < ts.length
    · obtain ⟨g, rfl, a0, a1, a2⟩ := (hs2.out.below hbr.out).rowT.at_ k hlt
      have hk0 : (0 : Int) ≤ (k : Int) := by omega
      have hk1 : (k : Int) < (ts.length : Int) := by omega
      have hb1 : (0 : Int) < (bb.length : Int) := by omega
      have hts := HTG.out ts[k] (List.getElem_mem hlt)
      have hk2 : (k : Int) < 16384 := by have := HN.out; omega
      have hm0 : (0 : Int) ≤ (k : Int) % (bb.length : Int) := Int.emod_nonneg _ (by omega)
      have hm1 : (k : Int) % (bb.length : Int) < (bb.length : Int) := Int.emod_lt_of_pos _ hb1
      have hcl : wr.cell? ⟨bk, off + k % bb.length, none⟩ = some (.string (bb.getD (k % bb.length) ⟨#[]⟩)) := by
        exact ((HB2.out.trans (hbr.out.mono hz2)).cell (p := ⟨bk, off + k % bb.length, none⟩) hbk).trans (HCB.out _ (Nat.mod_lt _ hb0))
      have hbkr : bk < wr.heap.size := by have := hbr.out.size; omega
      have hp := prs_succ bb ts k
      have hbs : (bb.getD (k % bb.length) ⟨#[]⟩).size ≤ 1048576 := by
        rw [List.getD_eq_getElem?_getD, List.getElem?_eq_getElem (Nat.mod_lt _ hb0)]
        exact HBZ.out _ (List.getElem_mem _)
      rw [List.getD_eq_getElem?_getD (l := ts), List.getElem?_eq_getElem hlt, Option.getD_some] at hp
      generalize bb.getD (k % bb.length) ⟨#[]⟩ = b at *
      have hyz := hy.out.2
      have hxl : (bs ts[k].text).data.toList = ts[k].text := rfl
      have hxz : (bs ts[k].text).size ≤ 16384 := by rw [bs_size]; exact hts.2
      have hkk : k * 20000 ≤ 16384 * 20000 := Nat.mul_le_mul_right _ (by have := HN.out; omega)
      generalize bs ts[k].text = x at *
      have r1 := run_add b ⟨#[10]⟩ (by show b.size + 1 ≤ _; omega)
      clear hts
      have HP := Lib.hid hp
      have HXL := Lib.hid hxl
      have HBS := Lib.hid hbs
      have HC := Lib.hid (fun w => HALL.out b hbs w)
      clear hp hxl
      have hway := bsel_ways b
      generalize whole (b.data.toList ++ [10]) = ok at *
      generalize (toks (b.data.toList ++ [10])).length = n at *
      rcases hway with ⟨rfl, he⟩ | ⟨rfl, hn, he⟩ | ⟨rfl, rfl, hq, he⟩ | ⟨rfl, rfl, hq, he⟩
      · have hn0 : True := trivial
        have hp' := HP.out
        rw [he] at hp'
        have HY := Lib.hid (y_next (b := ⟨#[]⟩) hy.out hp' HXL.out (by decide) hxz)
        clear hp' he
        have r2 := run_add ⟨#[]⟩ ⟨#[10]⟩ (by decide)
        have r3 := run_add (⟨#[]⟩ ++ ⟨#[10]⟩) x (by rw [ByteArray.size_append, show (ByteArray.mk #[10]).size = 1 from rfl]; have : (⟨#[]⟩ : ByteArray).size ≤ 100 := (by decide); omega)
        have r4 := run_add y (⟨#[]⟩ ++ ⟨#[10]⟩ ++ x) (by rw [ByteArray.size_append, ByteArray.size_append, show (ByteArray.mk #[10]).size = 1 from rfl]; have : (⟨#[]⟩ : ByteArray).size ≤ 100 := (by decide); omega)
        clear hyz hxz hkk
        go_wp2_with (go_at_call 16; refine (HC.out _).mono ?_; rintro e w' ⟨pv, A', c', rfl, hb3⟩; have hx1 := (hb3.cell (p := ⟨wr.heap.size, 1, none⟩) (by simp)).trans (tok_cells (heap_alloc_new wr _)).2.1; have hb4 := Lib.hid ((hbr.out.alloc hbr.out.size _).trans (hb3.mono (by simp; have := hbr.out.size; omega))))
        go_roundw
        case rel => exact ⟨k + 1, _, by omega, by go_num, rfl, HY, hb4⟩
        case measure => simp [intOf]; omega
      · have hn0 : (0 : Int) < (n : Int) := by omega
        have hp' := HP.out
        rw [he] at hp'
        have HY := Lib.hid (y_next (b := ⟨#[]⟩) hy.out hp' HXL.out (by decide) hxz)
        clear hp' he
        have r2 := run_add ⟨#[]⟩ ⟨#[10]⟩ (by decide)
        have r3 := run_add (⟨#[]⟩ ++ ⟨#[10]⟩) x (by rw [ByteArray.size_append, show (ByteArray.mk #[10]).size = 1 from rfl]; have : (⟨#[]⟩ : ByteArray).size ≤ 100 := (by decide); omega)
        have r4 := run_add y (⟨#[]⟩ ++ ⟨#[10]⟩ ++ x) (by rw [ByteArray.size_append, ByteArray.size_append, show (ByteArray.mk #[10]).size = 1 from rfl]; have : (⟨#[]⟩ : ByteArray).size ≤ 100 := (by decide); omega)
        clear hyz hxz hkk
        go_wp2_with (go_at_call 16; refine (HC.out _).mono ?_; rintro e w' ⟨pv, A', c', rfl, hb3⟩; have hx1 := (hb3.cell (p := ⟨wr.heap.size, 1, none⟩) (by simp)).trans (tok_cells (heap_alloc_new wr _)).2.1; have hb4 := Lib.hid ((hbr.out.alloc hbr.out.size _).trans (hb3.mono (by simp; have := hbr.out.size; omega))))
        go_roundw
        case rel => exact ⟨k + 1, _, by omega, by go_num, rfl, HY, hb4⟩
        case measure => simp [intOf]; omega
      · have hn0 : (100 : Int) < (b.size : Int) := by omega
        have hp' := HP.out
        rw [he] at hp'
        have HY := Lib.hid (y_next (b := ⟨#[]⟩) hy.out hp' HXL.out (by decide) hxz)
        clear hp' he
        have r2 := run_add ⟨#[]⟩ ⟨#[10]⟩ (by decide)
        have r3 := run_add (⟨#[]⟩ ++ ⟨#[10]⟩) x (by rw [ByteArray.size_append, show (ByteArray.mk #[10]).size = 1 from rfl]; have : (⟨#[]⟩ : ByteArray).size ≤ 100 := (by decide); omega)
        have r4 := run_add y (⟨#[]⟩ ++ ⟨#[10]⟩ ++ x) (by rw [ByteArray.size_append, ByteArray.size_append, show (ByteArray.mk #[10]).size = 1 from rfl]; have : (⟨#[]⟩ : ByteArray).size ≤ 100 := (by decide); omega)
        clear hyz hxz hkk
        go_wp2_with (go_at_call 16; refine (HC.out _).mono ?_; rintro e w' ⟨pv, A', c', rfl, hb3⟩; have hx1 := (hb3.cell (p := ⟨wr.heap.size, 1, none⟩) (by simp)).trans (tok_cells (heap_alloc_new wr _)).2.1; have hb4 := Lib.hid ((hbr.out.alloc hbr.out.size _).trans (hb3.mono (by simp; have := hbr.out.size; omega))))
        go_roundw
        case rel => exact ⟨k + 1, _, by omega, by go_num, rfl, HY, hb4⟩
        case measure => simp [intOf]; omega
      · have hn0 : decide ((100 : Int) < (b.size : Int)) = false := by simp; omega
        have hp' := HP.out
        rw [he] at hp'
        have HY := Lib.hid (y_next (b := b) hy.out hp' HXL.out hq hxz)
        clear hp' he
        have r3 := run_add (b ++ ⟨#[10]⟩) x (by rw [ByteArray.size_append, show (ByteArray.mk #[10]).size = 1 from rfl]; have : (b : ByteArray).size ≤ 100 := hq; omega)
        have r4 := run_add y (b ++ ⟨#[10]⟩ ++ x) (by rw [ByteArray.size_append, ByteArray.size_append, show (ByteArray.mk #[10]).size = 1 from rfl]; have : (b : ByteArray).size ≤ 100 := hq; omega)
        clear hyz hxz hkk
        go_wp2_with (go_at_call 16; refine (HC.out _).mono ?_; rintro e w' ⟨pv, A', c', rfl, hb3⟩; have hx1 := (hb3.cell (p := ⟨wr.heap.size, 1, none⟩) (by simp)).trans (tok_cells (heap_alloc_new wr _)).2.1; have hb4 := Lib.hid ((hbr.out.alloc hbr.out.size _).trans (hb3.mono (by simp; have := hbr.out.size; omega))))
        go_roundw
        case rel => exact ⟨k + 1, _, by omega, by go_num, rfl, HY, hb4⟩
        case measure => simp [intOf]; omega
    · obtain rfl : k = ts.length := by omega
      have hpt := prs_toks bb (fun t ht => (HTG.out t ht).1)
      obtain ⟨hy1, hyz⟩ := hy.out
      rw [← hy1] at hpt
      have hyz2 : y.size ≤ 16384 * 20000 := Nat.le_trans hyz (Nat.mul_le_mul_right _ HN.out)
      have hq : decide ((ts.length : Int) < (ts.length : Int)) = false := by simp
      rcases Nat.lt_or_ge 16384 y.size with hbig | hsm
      · have hq2 : decide ((16384 : Int) < (y.size : Int)) = true := by simp; omega
        clear hpt hy1 hyz
        go_wp2
        go_ret
        exact ⟨rfl, HB2.out.trans (hbr.out.mono hz2)⟩
      · have hgy : good y = true := by simp only [good, Bool.and_eq_true, decide_eq_true_eq]; exact ⟨hsm, hpt.2⟩
        have hq2 : decide ((16384 : Int) < (y.size : Int)) = false := by simp; omega
        have hL := fun w hE el et hR => lex_good y hgy w hE el et hR
        rw [hpt.1] at hL
        have HLY := Lib.hid hL
        clear hpt hy1 hyz hL hgy
        have hbw := HB2.out.trans (hbr.out.mono hz2)
        have HBW := Lib.hid hbw
        clear hbw
        go_wp2_with fail
        refine (HLY.out _ (HV.out.below HBW.out) _ _ (HW.out.below hsz HBW.out)).mono ?_
        rintro e w4 ⟨v4, rfl, hb4, ho4⟩
        have hs4 := Lib.hid (Src.of_own ho4)
        obtain ⟨A4, c4, rfl, _⟩ := hs4.out.shape
        have hs3 := Lib.hid (((hs2.out.below hbr.out).mono hbr.out.size).below hb4)
        have hb5 := HBW.out.trans (hb4.mono HBW.out.size)
        clear ho4
        have HQ := Lib.hid (same_true w4 ts A2 A4 c2 c4 hs3.out.rowT hs4.out.rowT (by have := HN.out; omega))
        go_wp2_with (go_at_call 14; refine HQ.out.mono ?_; rintro e w5 ⟨rfl, nq, rfl⟩)
        go_ret
        exact ⟨rfl, below_dN hb5 nq⟩

theorem lawBlanks_any (s : ByteArray) (w : World) (hE : Env w) (el et : Value) (hR : Errs w el et) (A : Option Addr) (c : Nat) (bb : List ByteArray) (hB : StrRow w w.heap.size A bb) (hbz : ∀ x ∈ bb, x.size ≤ 1048576) (hbl : bb.length ≤ 1048576) :
    Calls Tryd.prog 6 #[.string s, .slice A bb.length c] w fun e w' => e = .returned (.bool true) ∧ Below w.heap.size w w' := by
  have HA := Lib.hid (alive_any w hE el et hR)
  have hsz := hE.size
  have HV := Lib.hid hE
  have HW := Lib.hid hR
  cases hg : good s with
  | false =>
    have HS := Lib.hid (lex_bad' s hg)
    clear hg hE hR hB hbz hbl
    go_enter Tryd.func6, Tryd.ntmps6
    go_wp2_with fail
    refine HA.out.mono ?_
    rintro e w1 ⟨rfl, hb1⟩
    go_wp2_with fail
    refine (HS.out _ (HV.out.below hb1) _ _ (HW.out.below hsz hb1)).mono ?_
    rintro e w2 ⟨tp, p, rfl, hb2⟩
    have hb2 := hb1.trans (hb2.mono hb1.size)
    go_wp2_with fail
    go_ret
    exact ⟨rfl, hb2⟩
  | true =>
    by_cases hne : bb = []
    · subst hne
      have HS := Lib.hid (lex_good s hg)
      clear hg hE hR hB hbz hbl
      go_enter Tryd.func6, Tryd.ntmps6
      go_wp2_with fail
      refine HA.out.mono ?_
      rintro e w1 ⟨rfl, hb1⟩
      go_wp2_with fail
      refine (HS.out _ (HV.out.below hb1) _ _ (HW.out.below hsz hb1)).mono ?_
      rintro e w2 ⟨v, rfl, hb2, _⟩
      have hb2 := hb1.trans (hb2.mono hb1.size)
      go_wp2_with fail
      go_ret
      exact ⟨rfl, hb2⟩
    · exact lawBlanks_go s hg w hE el et hR A c bb hne hB hbz hbl

end Lx
end Go.Proofs.YtdalldhgfdnaeaaDoor
