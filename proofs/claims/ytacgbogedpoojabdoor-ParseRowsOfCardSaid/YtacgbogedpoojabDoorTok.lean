/- The contracts of package lex's functions that find one token: token, word, number, mark, first: each returns the token that the plain function finds at the text's beginning. Conditions: the text is not empty and has at most 2^47 bytes; the two error variables of strconv hold an error; strconv's table of powers of ten holds them. -/
import Derived.Test.YtacgbogedpoojabDoorRun
import Derived.Test.YtacgbogedpoojabDoorShelf
import Derived.Deep.QuietTactic
import Derived.BigQuiet
import Derived.Lib.SmallJoins
import Derived.Lib.QuietBelow
namespace Go.Proofs.YtacgbogedpoojabDoor
namespace Lx
open Go Go.RowKit

theorem clone_any (s : ByteArray) (hs : s.size ≤ 281474976710656) (w : World) :
    Calls Tryd.prog 75 #[.string s] w fun e w' => e = .returned (.string s) ∧ Below w.heap.size w w' := by
  have HC := Lib.hid (Tryd.stringslite_Clone s)
  go_enter Tryd.func75, Tryd.ntmps75
  go_wp2_with (go_at_call 81; refine (HC.out _ hs).mono ?_; rintro e w1 ⟨rfl, hb1⟩)
  go_ret
  exact ⟨rfl, hb1⟩

theorem bcell {B : Nat} {W w1 : World} (hb : Below B W w1) : (∀ b o, b < B → w1.cell? ⟨b, o, none⟩ = W.cell? ⟨b, o, none⟩) ∧ (∀ b o, b < B → w1.frozen? ⟨b, o, none⟩ = W.frozen? ⟨b, o, none⟩) :=
  ⟨fun b o h => hb.cell (p := ⟨b, o, none⟩) h, fun b o h => hb.frozen (p := ⟨b, o, none⟩) h⟩

theorem token_any (k : Int) (s : ByteArray) (hs : s.size ≤ 281474976710656) (w : World) :
    Calls Tryd.prog 70 #[.int .i64 k, .string s] w fun e w' => e = .returned (.agg #[.int .i64 k, .string s, .int .i64 0]) ∧ Below w.heap.size w w' := by
  have HC := Lib.hid (clone_any s hs)
  go_enter Tryd.func70, Tryd.ntmps70
  go_wp2_with (go_at_call 75; refine (HC.out _).mono ?_; rintro e w1 ⟨rfl, hb1⟩; obtain ⟨hc, hf⟩ := bcell hb1)
  refine bodyPost_ret (v := .agg #[.int .i64 k, .string s, .int .i64 0]) (by simp [results, Tryd.results70, go_sem, hc]) rfl ⟨rfl, ?_⟩
  exact (((((Below.refl _ _).alloc (Nat.le_refl _) _).trans (hb1.mono (by simp))).setCell (Nat.le_refl _) _).setCell (Nat.le_refl _) _).setCell (Nat.le_refl _) _

/-- What the calls of this layer read of the program's variables: the two errors of strconv and its table. -/
structure Env (w : World) : Prop where
  size : 9 < w.heap.size
  syn : ∃ te pe, w.cell? ⟨4, 0, none⟩ = some (.iface te pe)
  rng : ∃ te pe, w.cell? ⟨5, 0, none⟩ = some (.iface te pe)
  tab : Lib.TabIs Tryd.prog w "internal/strconv.uint64pow10" .u64 Lib.pow10Tab

theorem Env.below {w w' : World} (h : Env w) (hb : Below w.heap.size w w') : Env w' := by
  have h0 := h.size
  refine ⟨Nat.le_trans h0 hb.size, ?_, ?_, Joins.tab_stays (g := 7) (by kernel_rfl) h.tab hb (Nat.le_refl _)⟩
  · obtain ⟨te, pe, h1⟩ := h.syn
    exact ⟨te, pe, (hb.cell (p := ⟨4, 0, none⟩) (by simp; omega)).trans h1⟩
  · obtain ⟨te, pe, h1⟩ := h.rng
    exact ⟨te, pe, (hb.cell (p := ⟨5, 0, none⟩) (by simp; omega)).trans h1⟩

/-- A token as the code holds it. -/
def bs (l : List UInt8) : ByteArray := ⟨l.toArray⟩
def tokV (t : Tok) : Value := .agg #[.int .i64 t.kind, .string (bs t.text), .int .i64 t.num]
def noTok : Value := .agg #[.int .i64 0, .string ⟨#[]⟩, .int .i64 0]
def tk (o : Option Tok) : Int := match o with
  | some t => t.kind
  | none => 0
def tx (o : Option Tok) : ByteArray := match o with
  | some t => bs t.text
  | none => ⟨#[]⟩
def tn (o : Option Tok) : Int := match o with
  | some t => t.num
  | none => 0
def tb (o : Option Tok) : Bool := match o with
  | some _ => true
  | none => false
/-- What a function that finds a token returns: the token and true; or no token and false. -/
def TokEnd (o : Option Tok) (w : World) (e : Ending) (w' : World) : Prop :=
  e = .returned (.tuple #[.agg #[.int .i64 (tk o), .string (tx o), .int .i64 (tn o)], .bool (tb o)]) ∧ Below w.heap.size w w'

theorem bs_size (l : List UInt8) : (bs l).size = l.length := by simp [bs, ByteArray.size]
theorem take_bs (s : ByteArray) (n : Nat) : s.extract 0 n = bs (s.data.toList.take n) := by
  unfold bs
  apply ByteArray.ext
  apply Array.ext'
  simp
theorem tail_list (s : ByteArray) : (s.extract 1 s.size).data.toList = s.data.toList.tail := by
  rw [ext_list]; simp

/-- A token's three cells, laid in a new block. -/
theorem below_dN {B : Nat} {a w : World} (h : Below B a w) (n : Nat) : Below B a (w.drewN n) := ⟨h.os, h.tape, h.output, h.size, h.block⟩
theorem below_tok {w w1 : World} {o : Obj} (h : Below (w.alloc o).heap.size (w.alloc o) w1) (a b c : Value) :
    Below w.heap.size w (((w1.setCell ⟨w.heap.size, 0, none⟩ a).setCell ⟨w.heap.size, 1, none⟩ b).setCell ⟨w.heap.size, 2, none⟩ c) :=
  (((((Below.refl _ _).alloc (Nat.le_refl _) _).trans (h.mono (by simp))).setCell (Nat.le_refl _) _).setCell (Nat.le_refl _) _).setCell (Nat.le_refl _) _

theorem wordt_any (k : Int) (s : ByteArray) (hs : s.size ≤ 140737488355328) (h0 : 0 < s.size) (w : World) :
    Calls Tryd.prog 62 #[.int .i64 k, .string s] w fun e w' => TokEnd (wordTok k s.data.toList) w e w' := by
  have HR := Lib.hid (run_word (s.extract 1 s.size) (by simp; omega))
  have HL := Lib.hid (tail_list s)
  have hle := runL_le wordI s.data.toList.tail
  simp at hle
  rw [HL.out] at HR
  have HE : Hid (TokEnd (wordTok k s.data.toList) = TokEnd (if 1 + runL wordI s.data.toList.tail ≤ 32 then some ⟨k, s.data.toList.take (1 + runL wordI s.data.toList.tail), 0⟩ else none)) := rfl
  rw [HE.out]
  clear HE
  generalize runL wordI s.data.toList.tail = n at *
  have HT := Lib.hid (take_bs s (1 + n))
  have HK := Lib.hid (token_any k (s.extract 0 (1 + n)) (by simp; omega))
  by_cases h : 1 + n ≤ 32
  · rw [if_pos h]
    have HP : Hid (∀ e w', (e = .returned (.tuple #[.agg #[.int .i64 k, .string (s.extract 0 (1 + n)), .int .i64 0], .bool true]) ∧ Below w.heap.size w w') → TokEnd (some ⟨k, s.data.toList.take (1 + n), 0⟩) w e w') := by
      rintro e w' ⟨rfl, hb⟩
      exact ⟨by rw [HT.out]; rfl, hb⟩
    refine Calls.mono ?_ HP.out
    clear HP HT HL
    go_enter Tryd.func62, Tryd.ntmps62
    go_wp2_with (first | (go_at_call 59; refine (HR.out _).mono ?_; rintro e w1 ⟨rfl, rfl⟩) | (go_at_call 70; refine (HK.out _).mono ?_; rintro e w1 ⟨rfl, hb1⟩; obtain ⟨hc, hf⟩ := bcell hb1))
    exact bodyPost_ret (v := .tuple #[.agg #[.int .i64 k, .string (s.extract 0 (1 + n)), .int .i64 0], .bool true]) (by simp [results, Tryd.results62, go_sem, hc]) rfl ⟨rfl, below_tok hb1 _ _ _⟩
  · rw [if_neg h]
    have h' : ¬ (1 + (n : Int) ≤ 32) := by omega
    clear HT HL HK
    go_enter Tryd.func62, Tryd.ntmps62
    go_wp2_with (go_at_call 59; refine (HR.out _).mono ?_; rintro e w1 ⟨rfl, rfl⟩)
    exact bodyPost_ret (v := .tuple #[noTok, .bool false]) (by simp [results, Tryd.results62, go_sem, noTok]) rfl ⟨rfl, (Below.refl _ _).alloc (Nat.le_refl _) _⟩

end Lx
end Go.Proofs.YtacgbogedpoojabDoor
