/- The contracts of lex.Join and of the reference's Join: the tokens' texts with a blank between each two. Conditions: at most 1048576 tokens, each of at most 1048576 bytes, lie in the slice's cells. -/
import Derived.Test.YtdalldhgfdnaeaaDoorBuilder
import Derived.Test.YtdalldhgfdnaeaaDoorShelfB
import Derived.Test.YtdalldhgfdnaeaaDoorSrc
import Derived.Test.YtdalldhgfdnaeaaDoorPlainMore
import Derived.Test.YtdalldhgfdnaeaaDoorLawBlanks
import Derived.Test.YtdalldhgfdnaeaaDoorSents
namespace Go.Proofs.YtdalldhgfdnaeaaDoor
namespace Lx
open Go Go.RowKit

/-- The slice's cells hold the tokens ts, in a block below B. -/
def RowO (w : World) (B : Nat) (A : Option Addr) (ts : List Tok) : Prop := ts ≠ [] → ∃ g off, A = some ⟨g, off, none⟩ ∧ g < B ∧ ∀ j, j < 3 * ts.length → w.cell? ⟨g, off + j, none⟩ = (cellsT ts)[j]?
theorem RowO.below {w w' : World} {B : Nat} {A : Option Addr} {ts : List Tok} (h : RowO w B A ts) (hb : Below B w w') : RowO w' B A ts := fun hne => by
  obtain ⟨g, off, e, hl, hc⟩ := h hne
  exact ⟨g, off, e, hl, fun j hj => (hb.cell (p := ⟨g, off + j, none⟩) hl).trans (hc j hj)⟩
theorem RowO.mono {w : World} {B B' : Nat} {A : Option Addr} {ts : List Tok} (h : RowO w B A ts) (hB : B ≤ B') : RowO w B' A ts := fun hne => by
  obtain ⟨g, off, e, hl, hc⟩ := h hne
  exact ⟨g, off, e, by omega, hc⟩
theorem RowO.at_ {w : World} {B : Nat} {A : Option Addr} {ts : List Tok} (h : RowO w B A ts) (k : Nat) (hk : k < ts.length) :
    ∃ g off, A = some ⟨g, off, none⟩ ∧ g < B ∧ w.cell? ⟨g, off + k * 3, none⟩ = some (.int .i64 (ts[k]).kind) ∧ w.cell? ⟨g, off + k * 3 + 1, none⟩ = some (.string (bs (ts[k]).text)) ∧ w.cell? ⟨g, off + k * 3 + 2, none⟩ = some (.int .i64 (ts[k]).num) := by
  obtain ⟨g, off, rfl, hl, hc⟩ := h (by intro e; subst e; simp at hk)
  have h1 := cellsT_at ts k hk
  rw [Nat.mul_comm 3 k] at h1
  exact ⟨g, off, rfl, hl, (hc _ (by omega)).trans h1.1, (hc (k * 3 + 1) (by omega)).trans h1.2.1, (hc (k * 3 + 2) (by omega)).trans h1.2.2⟩
theorem Src.rowO {w : World} {B n c : Nat} {A : Option Addr} {ts : List Tok} (h : Src w B (.slice A n c) ts) : RowO w B A ts := by
  rcases h with ⟨_, rfl⟩ | ⟨g, c', hv, hg, hc⟩
  · exact fun h => absurd rfl h
  · injection hv with hA _ _
    subst hA
    exact fun _ => ⟨g, 0, rfl, hg, fun j hj => by rw [Nat.zero_add]; exact hc j hj⟩

theorem joinL_snoc : ∀ (ts : List Tok) (t : Tok), joinL (ts ++ [t]) = if ts = [] then t.text else joinL ts ++ 32 :: t.text
  | [], t => rfl
  | [u], t => rfl
  | u :: v :: r, t => by
    rw [if_neg (by simp)]
    have ih := joinL_snoc (v :: r) t
    rw [if_neg (by simp)] at ih
    show u.text ++ 32 :: joinL (v :: (r ++ [t])) = (u.text ++ 32 :: joinL (v :: r)) ++ 32 :: t.text
    rw [show v :: (r ++ [t]) = (v :: r) ++ [t] from rfl, ih]
    simp
theorem joinL_take (ts : List Tok) (k : Nat) (hk : k < ts.length) : joinL (ts.take (k + 1)) = if k = 0 then (ts[k]).text else joinL (ts.take k) ++ 32 :: (ts[k]).text := by
  rw [List.take_succ_eq_append_getElem hk, joinL_snoc]
  by_cases h : k = 0
  · subst h; simp
  · rw [if_neg h, if_neg (by intro e; have := congrArg List.length e; rw [List.length_take, List.length_nil] at this; omega)]
theorem joinL_len (ts : List Tok) (M : Nat) (h : ∀ t ∈ ts, t.text.length ≤ M) : (joinL ts).length ≤ ts.length * (M + 1) := by
  induction ts with
  | nil => simp [joinL]
  | cons t r ih =>
    have h1 := h t (List.mem_cons_self ..)
    have h2 := ih (fun x hx => h x (List.mem_cons_of_mem _ hx))
    cases r with
    | nil => simp only [joinL, List.length_cons, List.length_nil]; omega
    | cons u q =>
      rw [show joinL (t :: u :: q) = t.text ++ 32 :: joinL (u :: q) from rfl, List.length_append, List.length_cons, List.length_cons (a := t), Nat.add_mul]
      omega
theorem joinL_bound (ts : List Tok) (h : ∀ t ∈ ts, t.text.length ≤ 1048576) (hn : ts.length ≤ 1048576) (k : Nat) : (joinL (ts.take k)).length ≤ 1099512676352 := by
  have h1 := joinL_len (ts.take k) 1048576 (fun t ht => h t (List.mem_of_mem_take ht))
  have h2 : (ts.take k).length ≤ 1048576 := by rw [List.length_take]; omega
  have h3 := Nat.mul_le_mul_right (1048576 + 1) h2
  omega

theorem isB_below {B b : Nat} {xs : List Value} {w w' : World} (h : IsB B b xs w) (hb : Below w.heap.size w w') : IsB B b xs w' := by
  have go : ∀ p, Lib.BuilderAt 57 5 B b p xs w → Lib.BuilderAt 57 5 B b p xs w' := by
    rintro p ⟨h1, v, h2, h3, h4⟩
    refine ⟨h1, v, (hb.block b (Array.getElem?_eq_some_iff.1 h2).1).trans h2, h3.kept (row := none) ⟨hb.os, hb.tape, hb.output, hb.size, fun k hk _ => hb.block k hk⟩ ?_, h4⟩
    cases v.ownBlock <;> simp
  rcases h with h | h
  · exact .inl (go _ h)
  · exact .inr (go _ h)

theorem byteCells_app (l m : List UInt8) : Lib.byteCells (l ++ m) = Lib.byteCells l ++ Lib.byteCells m := by simp [Lib.byteCells]

set_option maxRecDepth 100000 in
set_option maxHeartbeats 2000000 in
theorem lexJoin_any (ts : List Tok) (ht : ∀ t ∈ ts, t.text.length ≤ 1048576) (hn : ts.length ≤ 1048576) (w : World) (A : Option Addr) (c : Nat) (hrow : RowO w w.heap.size A ts) :
    Calls Tryd.prog 18 #[.slice A ts.length c] w fun e w' => e = .returned (.string (bs (joinL ts))) ∧ Below w.heap.size w w' := by
  have HR := Lib.hid hrow
  have HBD := Lib.hid (joinL_bound ts ht hn)
  have HT := Lib.hid ht
  clear hrow ht
  have hisb : IsB w.heap.size w.heap.size (Lib.byteCells (joinL (ts.take 0))) (w.alloc (.cells #[.pointer none, .slice none 0 0] 57)) :=
    .inl ⟨Nat.le_refl _, .slice none 0 0, heap_alloc_new w _, World.ownsRow_nil _ _ _ _, by simp [Value.ownBlock]⟩
  have HI0 := Lib.hid hisb
  clear hisb
  go_enter Tryd.func18, Tryd.ntmps18
  go_wp2_with fail
  go_loopw [8] (fun i wr => ∃ k : Nat, k ≤ ts.length ∧ i = .int .i64 k ∧ Hid (IsB w.heap.size w.heap.size (Lib.byteCells (joinL (ts.take k))) wr) ∧ Hid (Below w.heap.size w wr ∧ w.heap.size < wr.heap.size)) (fun i _ => ts.length - (intOf i).toNat)
  case atStart => exact ⟨0, Nat.zero_le _, rfl, HI0, Lib.hid ⟨(Below.refl _ _).alloc (Nat.le_refl _) _, by simp⟩⟩
  case round =>
    obtain ⟨k, hk, rfl, hI, hbr⟩ := hrel
    clear HI0
    by_cases hlt : k < ts.length
    · obtain ⟨g, off, rfl, hgl, a0, a1, a2⟩ := (HR.out.below hbr.out.1).at_ k hlt
      have hk0 : (0 : Int) ≤ (k : Int) := by omega
      have hk1 : (k : Int) < (ts.length : Int) := by omega
      have hk2 : (k : Int) < 1048576 := by omega
      have htk := HT.out ts[k] (List.getElem_mem hlt)
      have hjt := joinL_take ts k hlt
      have hb1 := HBD.out k
      have hgr : g < wr.heap.size := by have := hbr.out.2; omega
      have hxl : Lib.strCells (bs ts[k].text) = Lib.byteCells ts[k].text := rfl
      have hxz : (bs ts[k].text).size = ts[k].text.length := bs_size _
      generalize bs ts[k].text = x at *
      generalize ts[k].text = tx at *
      have hcl : (Lib.byteCells (joinL (ts.take k))).length = (joinL (ts.take k)).length := by simp [Lib.byteCells]
      have HI := hI
      have HB := hbr
      have HX := Lib.hid hxl
      have HJ := Lib.hid hjt
      clear hxl hjt hI hbr
      have hz0 := HB.out.2
      have HS := Lib.hid (And.intro hcl (And.intro hb1 (And.intro hxz htk)))
      clear hcl hb1 hxz htk
      generalize ts[k].kind = kd at *
      generalize ts[k].num = nm at *
      by_cases h0 : k = 0
      · have hk3 : decide (0 < k) = false := by simp; omega
        have HK := Lib.hid h0
        clear h0
        have hel : Lib.byteCells (joinL (ts.take (k + 1))) = Lib.byteCells (joinL (ts.take k)) ++ Lib.strCells x := by rw [HJ.out, if_pos HK.out, HX.out, HK.out]; rfl
        have HE := Lib.hid hel
        clear hel
        go_wp2_with (go_at_call 28; refine (writeString_any w.heap.size w.heap.size (Lib.byteCells (joinL (ts.take k))) x _ (isB_below HI.out ((Below.refl _ _).alloc (Nat.le_refl _) _)) (by obtain ⟨p1, p2, p3, p4⟩ := HS.out; omega) (by simp; omega)).mono ?_; rintro e w' ⟨rfl, hat, hb3, _⟩)
        go_roundw
        case rel => exact ⟨k + 1, by omega, by go_num, Lib.hid (by rw [HE.out]; exact .inr hat), Lib.hid ⟨(HB.out.1.alloc (by omega) _).trans hb3, by have := hb3.size; simp at this; omega⟩⟩
        case measure => simp [intOf]; omega
      · have hk3 : 0 < k := by omega
        have HK := Lib.hid h0
        clear h0
        have hel : Lib.byteCells (joinL (ts.take (k + 1))) = Lib.byteCells (joinL (ts.take k)) ++ [.int .u8 32] ++ Lib.strCells x := by rw [HJ.out, if_neg HK.out, HX.out, byteCells_app, List.append_assoc]; rfl
        have HE := Lib.hid hel
        clear hel
        go_wp2_with (first | (go_at_call 27; refine (writeByte_any w.heap.size w.heap.size (Lib.byteCells (joinL (ts.take k))) 32 _ (isB_below HI.out ((Below.refl _ _).alloc (Nat.le_refl _) _)) (by obtain ⟨p1, p2, p3, p4⟩ := HS.out; omega) (by simp; omega)).mono ?_; rintro e w' ⟨rfl, hat, hb3, hkt⟩; have hx1 := (tok_cells (hkt _ _ (heap_alloc_new wr _))).2.1; have hz3 : wr.heap.size + 1 ≤ w'.heap.size := (by have := hb3.size; simp at this; omega); have HT3 := Lib.hid hat; have HB3 := Lib.hid hb3; clear hat hb3 hkt) | (go_at_call 28; refine (writeString_any w.heap.size w.heap.size _ x _ (.inr HT3.out) (by obtain ⟨p1, p2, p3, p4⟩ := HS.out; rw [List.length_append]; simp; omega) (by omega)).mono ?_; rintro e w2 ⟨rfl, hat, hb4, _⟩))
        go_roundw
        case rel => exact ⟨k + 1, by omega, by go_num, Lib.hid (by rw [HE.out]; exact .inr hat), Lib.hid ⟨((HB.out.1.alloc (by omega) _).trans HB3.out).trans hb4, by have := hb4.size; omega⟩⟩
        case measure => simp [intOf]; omega
    · obtain rfl : k = ts.length := by omega
      have hq : decide ((ts.length : Int) < (ts.length : Int)) = false := by simp
      have hz0 := hbr.out.2
      go_wp2_with (go_at_call 29; refine (Tryd.Builder_String_any w.heap.size w.heap.size (joinL (ts.take ts.length)) wr hI.out (by omega)).mono ?_; rintro e w' ⟨rfl, hb⟩)
      go_ret
      exact ⟨rfl, hbr.out.1.trans hb⟩

theorem y_join0 {y x : ByteArray} {ts : List Tok} {k : Nat} {tx : List UInt8} (hy : y.data.toList = joinL (ts.take k)) (h0 : k = 0) (hj : joinL (ts.take (k + 1)) = if k = 0 then tx else joinL (ts.take k) ++ 32 :: tx) (hx : x.data.toList = tx) : (y ++ x).data.toList = joinL (ts.take (k + 1)) := by
  rw [hj, if_pos h0, ext_data, hy, hx, h0]
  rfl
theorem y_join1 {y x : ByteArray} {ts : List Tok} {k : Nat} {tx : List UInt8} (hy : y.data.toList = joinL (ts.take k)) (h0 : ¬ k = 0) (hj : joinL (ts.take (k + 1)) = if k = 0 then tx else joinL (ts.take k) ++ 32 :: tx) (hx : x.data.toList = tx) : (y ++ ⟨#[32]⟩ ++ x).data.toList = joinL (ts.take (k + 1)) := by
  rw [hj, if_neg h0, ext_data, ext_data, hy, hx, List.append_assoc]
  rfl

set_option maxRecDepth 100000 in
set_option maxHeartbeats 2000000 in
theorem refJoin_any (ts : List Tok) (ht : ∀ t ∈ ts, t.text.length ≤ 1048576) (hn : ts.length ≤ 1048576) (w : World) (A : Option Addr) (c : Nat) (hrow : RowO w w.heap.size A ts) :
    Calls Tryd.prog 19 #[.slice A ts.length c] w fun e w' => e = .returned (.string (bs (joinL ts))) ∧ Below w.heap.size w w' := by
  have HR := Lib.hid hrow
  have HBD := Lib.hid (joinL_bound ts ht hn)
  have HT := Lib.hid ht
  clear hrow ht
  go_enter Tryd.func19, Tryd.ntmps19
  go_wp2_with fail
  go_loopw [3, 8] (fun x i wr => ∃ (k : Nat) (y : ByteArray), k ≤ ts.length ∧ i = .int .i64 k ∧ x = .string y ∧ Hid (y.data.toList = joinL (ts.take k)) ∧ Hid (Below w.heap.size w wr)) (fun _ i _ => ts.length - (intOf i).toNat)
  case atStart => exact ⟨0, ⟨#[]⟩, Nat.zero_le _, rfl, rfl, Lib.hid rfl, Lib.hid (Below.refl _ _)⟩
  case round =>
    obtain ⟨k, y, hk, rfl, rfl, hy, hbr⟩ := hrel
    by_cases hlt : k < ts.length
    · obtain ⟨g, off, rfl, hgl, a0, a1, a2⟩ := (HR.out.below hbr.out).at_ k hlt
      have hk0 : (0 : Int) ≤ (k : Int) := by omega
      have hk1 : (k : Int) < (ts.length : Int) := by omega
      have hk2 : (k : Int) < 1048576 := by omega
      have htk := HT.out ts[k] (List.getElem_mem hlt)
      have hjt := joinL_take ts k hlt
      have hb1 := HBD.out k
      have hgr : g < wr.heap.size := by have := hbr.out.size; omega
      have hxl : (bs ts[k].text).data.toList = ts[k].text := rfl
      have hxz : (bs ts[k].text).size = ts[k].text.length := bs_size _
      have hyz : y.size ≤ 1099512676352 := by rw [← hy.out] at hb1; simpa using hb1
      generalize bs ts[k].text = x at *
      generalize ts[k].text = tx at *
      have HX := Lib.hid hxl
      have HJ := Lib.hid hjt
      have HS := Lib.hid (And.intro hyz (And.intro hxz htk))
      clear hxl hjt hb1 hxz htk hyz
      generalize ts[k].kind = kd at *
      generalize ts[k].num = nm at *
      by_cases h0 : k = 0
      · have hk3 : decide (0 < k) = false := by simp; omega
        have HY := Lib.hid (y_join0 hy.out h0 HJ.out HX.out)
        clear h0
        have r1 := run_add y x (by obtain ⟨p1, p2, p3⟩ := HS.out; omega)
        go_wp2_with fail
        go_roundw
        case rel => exact ⟨k + 1, _, by omega, by go_num, rfl, HY, Lib.hid (hbr.out.alloc hbr.out.size _)⟩
        case measure => simp [intOf]; omega
      · have hk3 : 0 < k := by omega
        have HY := Lib.hid (y_join1 hy.out h0 HJ.out HX.out)
        clear h0
        have r1 := run_add y ⟨#[32]⟩ (by obtain ⟨p1, p2, p3⟩ := HS.out; show y.size + 1 ≤ _; omega)
        have r2 := run_add (y ++ ⟨#[32]⟩) x (by obtain ⟨p1, p2, p3⟩ := HS.out; rw [ByteArray.size_append, show (ByteArray.mk #[32]).size = 1 from rfl]; omega)
        go_wp2_with fail
        go_roundw
        case rel => exact ⟨k + 1, _, by omega, by go_num, rfl, HY, Lib.hid (hbr.out.alloc hbr.out.size _)⟩
        case measure => simp [intOf]; omega
    · obtain rfl : k = ts.length := by omega
      have hq : decide ((ts.length : Int) < (ts.length : Int)) = false := by simp
      go_wp2_with fail
      go_ret
      refine ⟨?_, hbr.out⟩
      have e : y = bs (joinL ts) := by
        refine arr_eq ?_
        have := hy.out
        rw [List.take_length] at this
        exact this
      rw [← e]
      rfl

set_option maxRecDepth 100000 in
set_option maxHeartbeats 2000000 in
theorem lawJoins_any (s : ByteArray) (w : World) (hE : Env w) (a : Addr) (et : Value) (hR : Errs w (sentV a) et) (A : Option Addr) (c : Nat) (ls : List Tok) (hB : RowO w w.heap.size A ls) (hlz : ∀ t ∈ ls, t.text.length ≤ 1048576) (hll : ls.length ≤ 1048576) :
    Calls Tryd.prog 5 #[.string s, .slice A ls.length c] w fun e w' => e = .returned (.bool true) ∧ Below w.heap.size w w' := by
  have HA := Lib.hid (alive_any w hE _ et hR)
  have hsz := hE.size
  have HV := Lib.hid hE
  have HW := Lib.hid hR
  have HB := Lib.hid hB
  have J1 := Lib.hid (fun w hr => lexJoin_any ls hlz hll w A c hr)
  have J2 := Lib.hid (fun w hr => refJoin_any ls hlz hll w A c hr)
  generalize bs (joinL ls) = jl at *
  clear hE hR hB hlz hll
  cases hg : good s with
  | false =>
    have HS := Lib.hid (lex_bad' s hg)
    clear hg
    go_enter Tryd.func5, Tryd.ntmps5
    go_wp2_with fail
    refine HA.out.mono ?_
    rintro e w1 ⟨rfl, hb1⟩
    go_wp2_with fail
    refine (J1.out _ ((HB.out.below hb1).mono hb1.size)).mono ?_
    rintro e w2 ⟨rfl, hb2⟩
    have hb2 := hb1.trans (hb2.mono hb1.size)
    go_wp2_with fail
    refine (J2.out _ ((HB.out.below hb2).mono hb2.size)).mono ?_
    rintro e w3 ⟨rfl, hb3⟩
    have hb3 := hb2.trans (hb3.mono hb2.size)
    go_wp2_with fail
    refine (HS.out _ (HV.out.below hb3) _ _ (HW.out.below hsz hb3)).mono ?_
    rintro e w4 ⟨tp, p, rfl, hb4⟩
    have hb4 := hb3.trans (hb4.mono hb3.size)
    go_wp2_with fail
    go_ret
    exact ⟨rfl, hb4⟩
  | true =>
    have hl := toks_len s.data.toList
    rw [show s.data.toList.length = s.size by simp] at hl
    have hs0 : s.size ≤ 16384 := by simp only [good, Bool.and_eq_true, decide_eq_true_eq] at hg; exact hg.1
    have hts : ∀ t ∈ toks s.data.toList, tokAt t.text = some t ∧ t.text.length ≤ 16384 := fun t ht => ⟨toks_good ht, by have := toks_small ht; rw [show s.data.toList.length = s.size by simp] at this; omega⟩
    have h1 := fun w hE el et hR => lex_good s hg w hE el et hR
    have hN : (toks s.data.toList).length ≤ 16384 := by omega
    clear hl hg hs0
    generalize toks s.data.toList = ts at *
    have HL := Lib.hid h1
    have HN := Lib.hid hN
    have J3 := Lib.hid (fun w A c hr => lexJoin_any ts (fun t ht => by have := (hts t ht).2; omega) (by omega) w A c hr)
    have hjt := join_toks ts (fun t ht => (hts t ht).1)
    have hjl : (bs (joinL ts)).data.toList = joinL ts := rfl
    generalize bs (joinL ts) = J at *
    rw [← hjl] at hjt
    clear h1 hN hts hjl
    have HJT := Lib.hid hjt
    clear hjt
    go_enter Tryd.func5, Tryd.ntmps5
    go_wp2_with fail
    refine HA.out.mono ?_
    rintro e w1 ⟨rfl, hb1⟩
    go_wp2_with fail
    refine (J1.out _ ((HB.out.below hb1).mono hb1.size)).mono ?_
    rintro e w2 ⟨rfl, hb2⟩
    have hb2 := hb1.trans (hb2.mono hb1.size)
    go_wp2_with fail
    refine (J2.out _ ((HB.out.below hb2).mono hb2.size)).mono ?_
    rintro e w3 ⟨rfl, hb3⟩
    have hb3 := hb2.trans (hb3.mono hb2.size)
    go_wp2_with fail
    refine (HL.out _ (HV.out.below hb3) _ _ (HW.out.below hsz hb3)).mono ?_
    rintro e w4 ⟨v, rfl, hb4, ho4⟩
    have hs4 := Lib.hid (Src.of_own ho4)
    obtain ⟨A4, c4, rfl, _⟩ := hs4.out.shape
    have hb4 := hb3.trans (hb4.mono hb3.size)
    clear ho4
    go_wp2_with fail
    refine (J3.out _ _ _ hs4.out.rowO).mono ?_
    rintro e w5 ⟨rfl, hb5⟩
    have hs5 := Lib.hid ((hs4.out.below hb5).mono hb5.size)
    have hb5 := hb4.trans (hb5.mono hb4.size)
    have HB5 := Lib.hid hb5
    clear hb1 hb2 hb3 hb4 hb5
    rcases Nat.lt_or_ge 16384 J.size with hbig | hsm
    · have HX := Lib.hid (lex_any J)
      have hq2 : decide ((16384 : Int) < (J.size : Int)) = true := by simp; omega
      go_wp2_with fail
      refine (HX.out _ (HV.out.below HB5.out) _ _ (HW.out.below hsz HB5.out)).mono ?_
      rintro e w6 ⟨hb6, h1 | h1 | h1⟩
      · obtain ⟨_, rfl⟩ := h1
        have hb7 := HB5.out.trans (hb6.mono HB5.out.size)
        have heq := eqlS_same a
        have hcl := (HW.out.below hsz hb7).large
        have HB7 := Lib.hid hb7
        clear hb6 hb7
        go_wp2_with fail
        go_ret
        exact ⟨rfl, HB7.out⟩
      · exact absurd h1.1 (by omega)
      · exact absurd h1.1 (by omega)
    · have hgJ : good J = true := by simp only [good, Bool.and_eq_true, decide_eq_true_eq]; exact ⟨hsm, HJT.out.2⟩
      have hq2 : decide ((16384 : Int) < (J.size : Int)) = false := by simp; omega
      have hL := fun w hE el et hR => lex_good J hgJ w hE el et hR
      rw [HJT.out.1] at hL
      have HLY := Lib.hid hL
      clear hL hgJ
      go_wp2_with fail
      refine (HLY.out _ (HV.out.below HB5.out) _ _ (HW.out.below hsz HB5.out)).mono ?_
      rintro e w6 ⟨v6, rfl, hb6, ho6⟩
      have hs6 := Lib.hid (Src.of_own ho6)
      obtain ⟨A6, c6, rfl, _⟩ := hs6.out.shape
      have hs5 := Lib.hid (hs5.out.below hb6)
      have hb7 := HB5.out.trans (hb6.mono HB5.out.size)
      clear ho6
      have HQ := Lib.hid (same_true w6 ts A4 A6 c4 c6 hs5.out.rowT hs6.out.rowT (by have := HN.out; omega))
      go_wp2_with (go_at_call 14; refine HQ.out.mono ?_; rintro e w7 ⟨rfl, nq, rfl⟩)
      go_ret
      exact ⟨rfl, below_dN hb7 nq⟩

end Lx
end Go.Proofs.YtdalldhgfdnaeaaDoor
