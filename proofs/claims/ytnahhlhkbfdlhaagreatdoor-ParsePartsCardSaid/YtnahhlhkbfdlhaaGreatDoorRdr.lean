/- The contracts of the reference's reader's small methods: end, is, got, fail, need, nest, word. Conditions: the reader's block is its own; at most 16384 tokens, each of which is one by itself. -/
import Derived.Test.YtnahhlhkbfdlhaaGreatDoorParSpec
import Derived.Test.YtnahhlhkbfdlhaaGreatDoorResvRef
import Derived.Test.YtnahhlhkbfdlhaaGreatDoorPlainA
namespace Go.Proofs.YtnahhlhkbfdlhaaGreatDoor
set_option linter.unusedSimpArgs false
set_option linter.unusedVariables false
namespace Lx
open Go Go.RowKit

/-- The reader in block b: its row of tokens, the next one's place, the first error's number. -/
def rdC (A : Option Addr) (n c : Nat) (k : Nat) (ne : Int) : Obj := .cells #[.slice A n c, .int .i64 k, .int .i64 ne] 80 (0, 0)
structure Rd (w : World) (b : Nat) (A : Option Addr) (c : Nat) (ts : List Tok) (k : Nat) (ne : Int) : Prop where
  blk : w.heap[b]? = some (rdC A ts.length c k ne)
  row : ts ≠ [] → ∃ g, A = some ⟨g, 0, none⟩ ∧ g ≠ b ∧ g < w.heap.size ∧ ∀ j, j < 3 * ts.length → w.cell? ⟨g, j, none⟩ = (cellsT ts)[j]?
  few : ts.length ≤ 16384
  near : k ≤ 20000
  nest0 : -100000 ≤ ne
  nest1 : ne ≤ 100000
section
variable {w w' : World} {b : Nat} {A : Option Addr} {c : Nat} {ts : List Tok} {k : Nat} {ne : Int}
theorem Rd.c0 (h : Rd w b A c ts k ne) : w.cell? ⟨b, 0, none⟩ = some (.slice A ts.length c) := (Lib.cell_of_heap h.blk 0).trans rfl
theorem Rd.c1 (h : Rd w b A c ts k ne) : w.cell? ⟨b, 1, none⟩ = some (.int .i64 k) := (Lib.cell_of_heap h.blk 1).trans rfl
theorem Rd.c2 (h : Rd w b A c ts k ne) : w.cell? ⟨b, 2, none⟩ = some (.int .i64 ne) := (Lib.cell_of_heap h.blk 2).trans rfl
theorem Rd.f1 (h : Rd w b A c ts k ne) : w.frozen? ⟨b, 1, none⟩ = false := Lib.frozen_of_heap h.blk 1
theorem Rd.f2 (h : Rd w b A c ts k ne) : w.frozen? ⟨b, 2, none⟩ = false := Lib.frozen_of_heap h.blk 2
theorem Rd.lt (h : Rd w b A c ts k ne) : b < w.heap.size := (Array.getElem?_eq_some_iff.1 h.blk).1
theorem Rd.drewN (h : Rd w b A c ts k ne) (n : Nat) : Rd (w.drewN n) b A c ts k ne := ⟨h.blk, h.row, h.few, h.near, h.nest0, h.nest1⟩
/-- A world in which the parser's block holds other numbers. -/
theorem Rd.move (h : Rd w b A c ts k ne) (hf : PFr b w w') {k' : Nat} {ne' : Int} (hb : w'.heap[b]? = some (rdC A ts.length c k' ne')) (hk : k' ≤ 20000) (h0 : -100000 ≤ ne') (h1 : ne' ≤ 100000) : Rd w' b A c ts k' ne' :=
  ⟨hb, fun hne => by
    obtain ⟨g, e, hg, hl, hc⟩ := h.row hne
    exact ⟨g, e, hg, Nat.lt_of_lt_of_le hl hf.size, fun j hj => (hf.cell (p := ⟨g, j, none⟩) hl hg).trans (hc j hj)⟩, h.few, hk, h0, h1⟩
theorem Rd.setAt (h : Rd w b A c ts k ne) (k' : Nat) (hk : k' ≤ 20000) : Rd (w.setCell ⟨b, 1, none⟩ (.int .i64 k')) b A c ts k' ne :=
  h.move ((PFr.refl b w).put 1 _) (blk_put w b 1 _ h.blk (by show 1 < 3; decide)) hk h.nest0 h.nest1
theorem Rd.setErr (h : Rd w b A c ts k ne) (ne' : Int) (h0 : -100000 ≤ ne') (h1 : ne' ≤ 100000) : Rd (w.setCell ⟨b, 2, none⟩ (.int .i64 ne')) b A c ts k ne' :=
  h.move ((PFr.refl b w).put 2 _) (blk_put w b 2 _ h.blk (by show 2 < 3; decide)) h.near h0 h1
theorem Rd.at_tok (h : Rd w b A c ts k ne) (hk : k < ts.length) : ∃ g, A = some ⟨g, 0, none⟩ ∧ g ≠ b ∧ w.cell? ⟨g, k * 3, none⟩ = some (.int .i64 (ts[k]).kind) ∧ w.cell? ⟨g, k * 3 + 1, none⟩ = some (.string (bs (ts[k]).text)) ∧ w.cell? ⟨g, k * 3 + 2, none⟩ = some (.int .i64 (ts[k]).num) := by
  obtain ⟨g, e, hg, _, hc⟩ := h.row (by intro e; subst e; simp at hk)
  have h1 := cellsP_at ts k hk
  rw [Nat.mul_comm 3 k] at h1
  exact ⟨g, e, hg, (hc _ (by omega)).trans h1.1, (hc (k * 3 + 1) (by omega)).trans h1.2.1, (hc (k * 3 + 2) (by omega)).trans h1.2.2⟩
end

theorem Rd.alloc {w : World} {b : Nat} {A : Option Addr} {c : Nat} {ts : List Tok} {k : Nat} {ne : Int} (h : Rd w b A c ts k ne) (o : Obj) : Rd (w.alloc o) b A c ts k ne :=
  h.move ((PFr.refl b w).alloc o) ((Below.heap_alloc w o b h.lt).trans h.blk) h.near h.nest0 h.nest1

theorem Rd.keep {w w' : World} {b : Nat} {A : Option Addr} {c : Nat} {ts : List Tok} {k : Nat} {ne : Int} (h : Rd w b A c ts k ne) (hf : PFr w.heap.size w w') : Rd w' b A c ts k ne ∧ PFr b w w' := by
  have hb := (hf.block b h.lt (Nat.ne_of_lt h.lt)).trans h.blk
  have hf2 : PFr b w w' := ⟨hf.os, hf.tape, hf.output, hf.size, fun k hk _ => hf.block k hk (Nat.ne_of_lt hk)⟩
  exact ⟨h.move hf2 hb h.near h.nest0 h.nest1, hf2⟩


def doneB (ts : List Tok) (k : Nat) (er : Int) : Bool := er != 0 || decide (ts.length ≤ k)
theorem doneB_err {ts : List Tok} {k : Nat} {er : Int} (h : er ≠ 0) : doneB ts k er = true := by simp [doneB, h]
theorem doneB_in {ts : List Tok} {k : Nat} (h : k < ts.length) : doneB ts k 0 = false := by simp [doneB]; omega
theorem doneB_out {ts : List Tok} {k : Nat} (h : ts.length ≤ k) : doneB ts k 0 = true := by simp [doneB, h]

theorem rend_any (w : World) (b : Nat) (A : Option Addr) (c : Nat) (ts : List Tok) (k : Nat) (er : Int) (h : Rd w b A c ts k er) :
    Calls Tryz.prog 24 #[.pointer (some ⟨b, 0, none⟩)] w fun e w' => e = .returned (.bool (doneB ts k er)) ∧ ∃ q, w' = w.drewN q := by
  have h0 := h.c0
  have h1 := h.c1
  have h2 := h.c2
  by_cases hz : er = 0
  · subst hz
    rcases Nat.lt_or_ge k ts.length with hl | hl
    · rw [doneB_in hl]
      have hd : decide (ts.length ≤ k) = false := by simp; omega
      clear h
      go_enter Tryz.func24, Tryz.ntmps24
      go_wp2
      go_quiet (fail)
      go_wp2
      go_ret
      exact ⟨rfl, _, rfl⟩
    · rw [doneB_out hl]
      have hd : decide (ts.length ≤ k) = true := by simpa using hl
      clear h
      go_enter Tryz.func24, Tryz.ntmps24
      go_wp2
      go_quiet (fail)
      go_wp2
      go_ret
      exact ⟨rfl, _, rfl⟩
  · rw [doneB_err hz]
    have hn : (er != 0) = true := by simpa using hz
    clear h
    go_enter Tryz.func24, Tryz.ntmps24
    go_wp2
    go_quiet (fail)
    go_wp2
    go_ret
    exact ⟨rfl, _, rfl⟩

/-- Each token is one by itself. -/
def WF (ts : List Tok) : Prop := ∀ t ∈ ts, tokAt t.text = some t
/-- The text of a word or a mark. -/
def KW (s : List UInt8) : Prop := s ≠ [] ∧ ∃ n : Int, (n = 1 ∨ n = 4) ∧ tokAt s = some ⟨n, s, 0⟩
theorem kw_kind {ts : List Tok} (hw : WF ts) {s : List UInt8} (hs : KW s) {k : Nat} (hk : k < ts.length) (ht : (ts[k]).text = s) : (ts[k]).kind = 1 ∨ (ts[k]).kind = 4 := by
  obtain ⟨_, n, hn, h1⟩ := hs
  have h2 := hw _ (List.getElem_mem hk)
  rw [ht, h1] at h2
  have h3 := Option.some.inj h2
  rw [← h3]
  exact hn
def isB (ts : List Tok) (k : Nat) (er : Int) (s : List UInt8) : Bool := er == 0 && hasT ts k s
theorem isB_err {ts : List Tok} {k : Nat} {er : Int} (h : er ≠ 0) (s : List UInt8) : isB ts k er s = false := by simp [isB, h]
theorem isB_ok (ts : List Tok) (k : Nat) (s : List UInt8) : isB ts k 0 s = hasT ts k s := by simp [isB]
theorem hasT_out {ts : List Tok} {k : Nat} (h : ts.length ≤ k) {s : List UInt8} (hs : s ≠ []) : hasT ts k s = false := by
  unfold hasT
  rw [peekT_out h]
  cases s with
  | nil => exact absurd rfl hs
  | cons a r => rfl

theorem ris_any (w : World) (b : Nat) (A : Option Addr) (c : Nat) (ts : List Tok) (hw : WF ts) (k : Nat) (er : Int) (s : ByteArray) (hs : KW s.data.toList) (h : Rd w b A c ts k er) :
    Calls Tryz.prog 73 #[.pointer (some ⟨b, 0, none⟩), .string s] w fun e w' => e = .returned (.bool (isB ts k er s.data.toList)) ∧ ∃ q, w' = w.drewN q := by
  have HE := Lib.hid (fun q => rend_any (w.drewN q) b A c ts k er (h.drewN q))
  have h0 := h.c0
  have h1 := h.c1
  by_cases hz : er = 0
  · subst hz
    rw [isB_ok]
    rcases Nat.lt_or_ge k ts.length with hl | hl
    · rw [doneB_in hl] at HE
      obtain ⟨g, rfl, _, d0, d1, _⟩ := h.at_tok hl
      have hk0 : (0 : Int) ≤ (k : Int) := by omega
      have hk1 : (k : Int) < (ts.length : Int) := by omega
      have hkk := kw_kind hw hs hl
      have hx : hasT ts k s.data.toList = ((bs (ts[k]).text).toList == s.toList) := by rw [← hasT_eq, peekT_in hl]
      have hxs : ((bs (ts[k]).text).toList == s.toList) = true → (ts[k]).text = s.data.toList := by
        intro e
        rw [← hx] at e
        unfold hasT at e
        rw [peekT_in hl] at e
        exact eq_of_beq e
      rw [hx]
      generalize (ts[k]).kind = x at *
      generalize (ts[k]).text = y at *
      cases hq : ((bs y).toList == s.toList) with
      | false =>
        clear h hw hs hx hxs hkk
        go_enter Tryz.func73, Tryz.ntmps73
        go_wp2
        go_quiet ((go_at_call 24; exact Calls.quiet_of (HE.out _)))
        go_wp2
        go_ret
        exact ⟨rfl, _, rfl⟩
      | true =>
        by_cases hx1 : x = 1
        · subst hx1
          clear h hw hs hx hxs hkk
          go_enter Tryz.func73, Tryz.ntmps73
          go_wp2
          go_quiet ((go_at_call 24; exact Calls.quiet_of (HE.out _)))
          go_wp2
          go_ret
          exact ⟨rfl, _, rfl⟩
        · have hx4 : x = 4 := (hkk (hxs hq)).resolve_left hx1
          subst hx4
          clear h hw hs hx hxs hkk hx1
          go_enter Tryz.func73, Tryz.ntmps73
          go_wp2
          go_quiet ((go_at_call 24; exact Calls.quiet_of (HE.out _)))
          go_wp2
          go_ret
          exact ⟨rfl, _, rfl⟩
    · rw [doneB_out hl] at HE
      rw [hasT_out hl hs.1]
      clear h hw hs
      go_enter Tryz.func73, Tryz.ntmps73
      go_wp2
      go_quiet ((go_at_call 24; exact Calls.quiet_of (HE.out _)))
      go_wp2
      go_ret
      exact ⟨rfl, _, rfl⟩
  · rw [doneB_err hz] at HE
    rw [isB_err hz]
    clear h hw hs
    go_enter Tryz.func73, Tryz.ntmps73
    go_wp2
    go_quiet ((go_at_call 24; exact Calls.quiet_of (HE.out _)))
    go_wp2
    go_ret
    exact ⟨rfl, _, rfl⟩

/-- 'got': the next token is taken if it has this text. -/
theorem rgot_any (w : World) (b : Nat) (A : Option Addr) (c : Nat) (ts : List Tok) (hw : WF ts) (k : Nat) (er : Int) (s : ByteArray) (hs : KW s.data.toList) (h : Rd w b A c ts k er) (hk : k < 20000) :
    Calls Tryz.prog 47 #[.pointer (some ⟨b, 0, none⟩), .string s] w fun e w' => e = .returned (.bool (isB ts k er s.data.toList)) ∧ Rd w' b A c ts (if isB ts k er s.data.toList = true then k + 1 else k) er ∧ PFr b w w' := by
  have HI := Lib.hid (ris_any w b A c ts hw k er s hs h)
  have HP := Lib.hid h
  clear h hw hs
  generalize isB ts k er s.data.toList = q at *
  cases q with
  | false =>
    simp only [Bool.false_eq_true, if_false]
    go_enter Tryz.func47, Tryz.ntmps47
    go_wp2_with fail
    go_at_call 73
    refine HI.out.mono ?_
    rintro e w1 ⟨rfl, n, rfl⟩
    go_wp2_with fail
    go_ret
    exact ⟨rfl, HP.out.drewN n, (PFr.refl b w).drewN n⟩
  | true =>
    simp only [if_true]
    have c1 := HP.out.c1
    have f1 := HP.out.f1
    go_enter Tryz.func47, Tryz.ntmps47
    go_wp2_with fail
    go_at_call 73
    refine HI.out.mono ?_
    rintro e w1 ⟨rfl, n, rfl⟩
    go_wp2_with fail
    go_ret
    exact ⟨rfl, (HP.out.drewN n).setAt (k + 1) (by omega), ((PFr.refl b w).drewN n).put 1 _⟩

def failE (er i : Int) : Int := if er = 0 then i else er
theorem rfail_any (w : World) (b : Nat) (A : Option Addr) (c : Nat) (ts : List Tok) (k : Nat) (er i : Int) (h : Rd w b A c ts k er) (hi : 0 ≤ i) (hi2 : i ≤ 100) :
    Calls Tryz.prog 25 #[.pointer (some ⟨b, 0, none⟩), .int .i64 i] w fun e w' => e = .returned (.tuple #[]) ∧ Rd w' b A c ts k (failE er i) ∧ PFr b w w' := by
  have HP := Lib.hid h
  have c2 := h.c2
  have f2 := h.f2
  unfold failE
  clear h
  by_cases hz : er = 0
  · subst hz
    simp only [if_true]
    go_enter Tryz.func25, Tryz.ntmps25
    go_wp2_with fail
    go_end0
    exact ⟨rfl, HP.out.setErr i (by omega) (by omega), (PFr.refl b w).put 2 _⟩
  · rw [if_neg hz]
    have hn : (er == 0) = false := by simpa using hz
    go_enter Tryz.func25, Tryz.ntmps25
    go_wp2_with fail
    go_end0
    exact ⟨rfl, HP.out, PFr.refl b w⟩

/-- 'need': a token that must have this text. -/
def needE (ts : List Tok) (k : Nat) (er : Int) (s : List UInt8) : Int := if er = 0 ∧ hasT ts k s = false then 2 else er
theorem rneed_any (w : World) (b : Nat) (A : Option Addr) (c : Nat) (ts : List Tok) (hw : WF ts) (k : Nat) (er : Int) (s : ByteArray) (hs : KW s.data.toList) (h : Rd w b A c ts k er) (hk : k < 20000) :
    Calls Tryz.prog 27 #[.pointer (some ⟨b, 0, none⟩), .string s] w fun e w' => e = .returned (.tuple #[]) ∧ Rd w' b A c ts (if isB ts k er s.data.toList = true then k + 1 else k) (needE ts k er s.data.toList) ∧ PFr b w w' := by
  have HP := Lib.hid h
  have HG := Lib.hid (rgot_any w b A c ts hw k er s hs h hk)
  have c2 := h.c2
  clear h hw hs
  unfold needE
  by_cases hz : er = 0
  · subst hz
    rw [isB_ok] at HG ⊢
    cases hq : hasT ts k s.data.toList with
    | true =>
      rw [hq] at HG
      simp only [Bool.true_eq_false, and_false, if_true, if_false] at HG ⊢
      go_enter Tryz.func27, Tryz.ntmps27
      go_wp2_with fail
      go_at_call 47
      refine HG.out.mono ?_
      rintro e w1 ⟨rfl, hp1, hf1⟩
      go_wp2_with fail
      go_end0
      exact ⟨rfl, hp1, hf1⟩
    | false =>
      rw [hq] at HG
      simp only [and_self, Bool.false_eq_true, if_true, if_false] at HG ⊢
      go_enter Tryz.func27, Tryz.ntmps27
      go_wp2_with fail
      go_at_call 47
      refine HG.out.mono ?_
      rintro e w1 ⟨rfl, hp1, hf1⟩
      go_wp2_with fail
      go_at_call 25
      refine (rfail_any w1 b A c ts k 0 2 hp1 (by decide) (by decide)).mono ?_
      rintro e w2 ⟨rfl, hp2, hf2⟩
      go_wp2_with fail
      go_end0
      exact ⟨rfl, hp2, hf1.trans hf2⟩
  · rw [isB_err hz]
    simp only [hz, false_and, Bool.false_eq_true, if_false]
    have hn : (er == 0) = false := by simpa using hz
    go_enter Tryz.func27, Tryz.ntmps27
    go_wp2_with fail
    go_end0
    exact ⟨rfl, HP.out, PFr.refl b w⟩

/-- 'nest': too deep, if something begins here. -/
def nestE (ts : List Tok) (k : Nat) (er n : Int) : Int := if 64 < n ∧ doneB ts k er = false then 3 else er
theorem rnest_any (w : World) (b : Nat) (A : Option Addr) (c : Nat) (ts : List Tok) (k : Nat) (er n : Int) (h : Rd w b A c ts k er) :
    Calls Tryz.prog 58 #[.pointer (some ⟨b, 0, none⟩), .int .i64 n] w fun e w' => e = .returned (.tuple #[]) ∧ Rd w' b A c ts k (nestE ts k er n) ∧ PFr b w w' := by
  have HP := Lib.hid h
  have HE := Lib.hid (rend_any w b A c ts k er h)
  have HZ : Hid (doneB ts k er = false → er = 0) := Lib.hid (fun hd => by
    by_cases hz : er = 0
    · exact hz
    · rw [doneB_err hz] at hd; cases hd)
  unfold nestE
  clear h
  by_cases hn : 64 < n
  · have hd : decide ((64 : Int) < n) = true := by simpa using hn
    cases hq : doneB ts k er with
    | true =>
      rw [hq] at HE
      simp only [Bool.true_eq_false, and_false, if_false]
      clear hn hq
      go_enter Tryz.func58, Tryz.ntmps58
      go_wp2_with fail
      go_at_call 24
      refine HE.out.mono ?_
      rintro e w1 ⟨rfl, m, rfl⟩
      go_wp2_with fail
      go_end0
      exact ⟨rfl, HP.out.drewN m, (PFr.refl b w).drewN m⟩
    | false =>
      obtain rfl := HZ.out hq
      rw [hq] at HE
      simp only [hn, and_self, if_true]
      clear hn hq
      go_enter Tryz.func58, Tryz.ntmps58
      go_wp2_with fail
      go_at_call 24
      refine HE.out.mono ?_
      rintro e w1 ⟨rfl, m, rfl⟩
      go_wp2_with fail
      go_at_call 25
      refine (rfail_any _ b A c ts k 0 3 (HP.out.drewN m) (by decide) (by decide)).mono ?_
      rintro e w2 ⟨rfl, hp2, hf2⟩
      go_wp2_with fail
      go_end0
      exact ⟨rfl, hp2, ((PFr.refl b w).drewN m).trans hf2⟩
  · have hd : decide ((64 : Int) < n) = false := by simpa using hn
    simp only [hn, false_and, if_false]
    clear hn
    go_enter Tryz.func58, Tryz.ntmps58
    go_wp2_with fail
    go_end0
    exact ⟨rfl, HP.out, PFr.refl b w⟩

end Lx
end Go.Proofs.YtnahhlhkbfdlhaaGreatDoor
