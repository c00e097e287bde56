/- What parse.Source, parse.Term and parse.Goal return at every text: the thing and no error, or no thing and one of the four errors. Conditions: the error variables hold what they should; strconv's table of powers of ten holds them. -/
import Derived.Test.YtacgbogedpoojabDoorParWholeI
import Derived.Laws.ResultCell
namespace Go.Proofs.YtacgbogedpoojabDoor
namespace Lx
open Go Go.RowKit

theorem results_cell_slot {P : Program} {fn : Func} {p u : Tmp} {ty : TypeId} (h : fn.results = #[.cell p ty, .tmp u]) (tmps : Array Value) (w : World) (R : Addr) (v er : Value) (hp : tmps.getD p undef = .pointer (some R)) (hu : tmps.getD u undef = er) (hR : (loadVar ty R).run P w = .ok v w) : (results fn tmps).run P w = .ok (.tuple #[v, er]) w := by
  have hp' : tmps[p]?.getD undef = .pointer (some R) := by simpa using hp
  have hu' : tmps[u]?.getD undef = er := by simpa using hu
  simp [results, h, hp', hu', asAddr, hR]
theorem TextR.moved {α : Type} {f : Nat → Addr} {V : Holds α} (hV : Stable V) (hW : ∀ x v lo hi lo' hi' w, V x v lo hi w → lo' ≤ lo → hi ≤ hi' → V x v lo' hi' w) {zero : Value} {w x w2 X : World} {v er : Value} {o : Out α} (h : TextR f V zero x w2 v er o) (hb : ∀ j, x.heap.size ≤ j → X.heap[j]? = w2.heap[j]?) (hl : w.heap.size ≤ x.heap.size) (hs : w2.heap.size ≤ X.heap.size) : TextR f V zero w X v er o := by
  cases o with
  | no i => exact h
  | ok y k => exact ⟨h.1, hW _ _ _ _ _ _ _ (hV _ _ _ _ _ X h.2 (fun j j1 _ => hb j j1)) hl hs⟩
theorem textO_large {α : Type} (rd : List Tok → Out α) {s : ByteArray} (hs : 16384 < s.size) : textO rd s = .no 1 := by unfold textO; rw [if_pos hs]
theorem textO_bad {α : Type} (rd : List Tok → Out α) {s : ByteArray} (hs : s.size ≤ 16384) (hw : whole s.data.toList = false) : textO rd s = .no 3 := by unfold textO; rw [if_neg (by omega), if_pos hw]
theorem textO_good {α : Type} (rd : List Tok → Out α) {s : ByteArray} (hs : s.size ≤ 16384) (hw : whole s.data.toList = true) : textO rd s = endO (toks s.data.toList).length (rd (toks s.data.toList)) := by
  unfold textO
  rw [if_neg (by omega), if_neg (by simp [hw])]
  cases rd (toks s.data.toList) with
  | no i => rfl
  | ok x k => rfl

theorem wholeIt_any {α : Type} (b : Nat) (s : ByteArray) (w : World) (hE : Env w) (f : Nat → Addr) (hR : Errs w (errP (f 1)) (errP (f 3))) (hP : PErrs w b f) (hb : w.heap[b]? = some (.cells #[.slice none 0 0, .int .i64 0, .int .i64 0] 49 (0, 0))) (V : Holds α) (hV : Stable V) (hW : ∀ x v lo hi lo' hi' w, V x v lo hi w → lo' ≤ lo → hi ≤ hi' → V x v lo' hi' w)
    (hT : ∀ x v lo hi w, V x v lo hi w → ∃ s1 s2 s3, v = .slice s1 s2 s3) (rd : List Tok → Out α)
    (HR : Hid (∀ w A c ts, Par w b A c ts 0 0 → PErrs w b f → Calls Tryd.prog 18 #[.pointer (some ⟨b, 0, none⟩)] w fun e w' => EndsV b A c ts 0 f V w (rd ts) e w')) :
    Calls Tryd.prog 17 #[.pointer (some ⟨b, 0, none⟩), .string s, .func (.func 18) #[.pointer (some ⟨b, 0, none⟩)] #[]] w fun e w' => ∃ v er, e = .returned (.tuple #[v, er]) ∧ PFr b w w' ∧ TextR f V (.slice none 0 0) w w' v er (textO rd s) := by
  rcases Nat.lt_or_ge 16384 s.size with hs | hs
  · rw [textO_large rd hs]
    refine (wholeIt_bad b s w hE f 1 _ hR hb (Lib.hid (fun w hE hR => (lex_any s w hE _ _ hR).mono (fun e w' h => ?_)))).mono (fun e w' h => ⟨_, _, h.1, h.2, rfl, rfl⟩)
    rcases h with ⟨hb, h | h | h⟩
    · exact ⟨h.2, hb⟩
    · exact absurd hs (by omega)
    · exact absurd hs (by omega)
  · cases hw : whole s.data.toList with
    | false =>
      rw [textO_bad rd hs hw]
      refine (wholeIt_bad b s w hE f 3 _ hR hb (Lib.hid (fun w hE hR => (lex_any s w hE _ _ hR).mono (fun e w' h => ?_)))).mono (fun e w' h => ⟨_, _, h.1, h.2, rfl, rfl⟩)
      rcases h with ⟨hb, h | h | h⟩
      · exact absurd hs (by omega)
      · exact ⟨h.2.2, hb⟩
      · exact absurd (h.2.1.symm.trans hw) (by decide)
    | true =>
      rw [textO_good rd hs hw]
      refine wholeIt_good b s w hE f hR hP hb V hV hW hT rd (toks s.data.toList) (by have := toks_len s.data.toList; have e : s.data.toList.length = s.size := (by simp); omega) HR (Lib.hid (fun w hE hR => (lex_any s w hE _ _ hR).mono (fun e w' h => ?_)))
      rcases h with ⟨hb, h | h | h⟩
      · exact absurd hs (by omega)
      · exact absurd (h.2.1.symm.trans hw) (by decide)
      · obtain ⟨_, _, v, he, ho⟩ := h
        exact ⟨v, he, hb, ho⟩

set_option maxRecDepth 100000 in
set_option maxHeartbeats 2000000 in
theorem textIt_any (s : ByteArray) (w : World) (hE : Env w) (f : Nat → Addr) (h4 : Errs4 w f) :
    Calls Tryd.prog 10 #[.string s] w fun e w' => ∃ v er, e = .returned (.tuple #[v, er]) ∧ Below w.heap.size w w' ∧ TextR f (ArgsV 46 20 ItemV) (.slice none 0 0) w w' v er (textO (fun ts => sourceO ts 0 0) s) := by
  have hmf : ∀ (fn : Fn) (first cap : Array Value) (w : World), (Instr.makeFunc fn first cap).run Tryd.prog w = .ok (.func fn first cap) w := fun _ _ _ _ => rfl
  have hW1 : Below w.heap.size w (w.alloc (.cells #[.slice none 0 0, .int .i64 0, .int .i64 0] 49)) := (Below.refl _ w).alloc (Nat.le_refl _) _
  have HW := Lib.hid (wholeIt_any w.heap.size s _ (hE.below hW1) f ((h4.below hW1).errs) (h4.perrs _) (heap_alloc_new w _) (ArgsV 46 20 ItemV) (ArgsV.stable _ _ ItemV.stable) (fun x v lo hi lo' hi' w h h1 h2 => h.wide h1 h2) (fun x v lo hi w h => h.slice) (fun ts => sourceO ts 0 0) (Lib.hid (fun w2 A c ts h hE => source_any w.heap.size A c ts f 0 (by decide) (by decide) w2 0 h hE (Nat.zero_le _))))
  clear hE h4 hW1
  go_enter Tryd.func10, Tryd.ntmps10
  go_wp2_with fail
  go_at_call 17
  refine HW.out.mono ?_
  rintro e w2 ⟨v, er, rfl, hf, ht⟩
  have HT := Lib.hid ht
  have HF := Lib.hid hf
  clear ht hf HW
  go_wp2_with fail
  go_ret2
  exact ⟨_, _, rfl, below_of_pfr HF.out, HT.out.lower (fun x v lo hi lo' hi' w h h1 h2 => h.wide h1 h2) (by simp)⟩

end Lx
end Go.Proofs.YtacgbogedpoojabDoor
