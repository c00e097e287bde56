/- The contract of the reference's Word at what is no letter, digit or '-'. Conditions: the place lies in the text; the text has at most 2^47 bytes. -/
import Derived.Test.YtdalldhgfdnaeaaDoorRefWord
import Derived.Lib.SlBytesConst
namespace Go.Proofs.YtdalldhgfdnaeaaDoor
namespace Lx
open Go Go.RowKit

def marks : List Int := [40, 41, 44, 46, 59, 124, 61]
def MarkEnd (s : ByteArray) (p : Nat) (x : Int) (e : Ending) : Prop :=
  (markI x = true ∧ e = .returned (.tuple #[.agg #[.int .i64 4, .string (s.extract p (p + 1)), .int .i64 0], .bool true])) ∨
  (markI x = false ∧ e = .returned (.tuple #[.agg #[.int .i64 0, .string ⟨#[]⟩, .int .i64 0], .bool false]))
theorem marks_none {x : Int} (h : ∀ m ∈ marks, m ≠ x) : markI x = false := by
  unfold markI
  simp only [marks, List.mem_cons, List.not_mem_nil, or_false, forall_eq_or_imp, forall_eq] at h
  obtain ⟨h1, h2, h3, h4, h5, h6, h7⟩ := h
  simp [Ne.symm h1, Ne.symm h2, Ne.symm h3, Ne.symm h4, Ne.symm h5, Ne.symm h6, Ne.symm h7]
theorem mark_some {x m : Int} (h : m ∈ marks) (hx : m = x) : markI x = true := by
  subst hx
  simp only [marks, List.mem_cons, List.not_mem_nil, or_false] at h
  rcases h with rfl | rfl | rfl | rfl | rfl | rfl | rfl <;> rfl

theorem mark_cell (w : World) (j : Nat) (v : Value) (h : #[Value.int .u8 40, .int .u8 41, .int .u8 44, .int .u8 46, .int .u8 59, .int .u8 124, .int .u8 61][j]? = some v) :
    ((w.alloc (.cells #[.int .i64 0, .string ⟨#[]⟩, .int .i64 0] 40)).alloc (.cells #[.int .u8 40, .int .u8 41, .int .u8 44, .int .u8 46, .int .u8 59, .int .u8 124, .int .u8 61] 5 (7, 8))).cell? ⟨w.heap.size + 1, j, none⟩ = some v := by
  rw [cell_of_row _ (w.heap.size + 1) j #[Value.int .u8 40, .int .u8 41, .int .u8 44, .int .u8 46, .int .u8 59, .int .u8 124, .int .u8 61] 5 (7, 8) ?_]
  · exact h
  · have h2 : ∀ (W : World) (o : Obj), (W.alloc o).heap[W.heap.size]? = some o := fun W o => by
      show (W.heap.push o)[W.heap.size]? = _
      simp
    have h3 := h2 (w.alloc (.cells #[.int .i64 0, .string ⟨#[]⟩, .int .i64 0] 40)) (.cells #[.int .u8 40, .int .u8 41, .int .u8 44, .int .u8 46, .int .u8 59, .int .u8 124, .int .u8 61] 5 (7, 8))
    rw [show (w.alloc (.cells #[.int .i64 0, .string ⟨#[]⟩, .int .i64 0] 40)).heap.size = w.heap.size + 1 by simp] at h3
    exact h3
theorem marks_step (k : Nat) (m x : Int) (h : ∀ y ∈ marks.take k, y ≠ x) (hk : marks[k]? = some m) (hm : (m == x) = false) : ∀ y ∈ marks.take (k + 1), y ≠ x := by
  intro y hy
  rw [List.take_add_one, hk] at hy
  rcases List.mem_append.1 hy with hy | hy
  · exact h y hy
  · simp only [Option.toList_some, List.mem_cons, List.not_mem_nil, or_false] at hy
    subst hy
    exact beq_eq_false_iff_ne.1 hm

set_option maxRecDepth 100000 in
set_option maxHeartbeats 20000000 in
theorem refWord_mark (s : ByteArray) (hs : s.size ≤ 140737488355328) (p : Nat) (hp : p < s.size) (hna : alfI ((s[p]).toNat : Int) = false) (hnd : digI ((s[p]).toNat : Int) = false) (h45 : (((s[p]).toNat : Int) == 45) = false)
    (har : (((s[p]).toNat : Int) == 58) = false ∨ ((((s[p]).toNat : Int) == 58) = true ∧ s.size ≤ p + 1) ∨ ((((s[p]).toNat : Int) == 58) = true ∧ ∃ h : p + 1 < s.size, (((s[p + 1]).toNat : Int) == 45) = false)) (w : World) :
    Calls Tryd.prog 25 #[.string s, .int .i64 p] w fun e w' => MarkEnd s p ((s[p]).toNat : Int) e ∧ Below w.heap.size w w' := by
  have h1 := letter_any ((s[p]).toNat : Int)
  rw [hna] at h1
  have H1 := Lib.hid h1
  have h2 := digit_any ((s[p]).toNat : Int)
  rw [hnd] at h2
  have H2 := Lib.hid h2
  clear h1 h2 hna hnd
  have hc0 : (convert 55 55 (.slice (some ⟨w.heap.size + 1, 0, none⟩) 7 7)).run Tryd.prog ((w.alloc (.cells #[.int .i64 0, .string ⟨#[]⟩, .int .i64 0] 40)).alloc (.cells #[.int .u8 40, .int .u8 41, .int .u8 44, .int .u8 46, .int .u8 59, .int .u8 124, .int .u8 61] 5)) = .ok (.slice (some ⟨w.heap.size + 1, 0, none⟩) 7 7) ((w.alloc (.cells #[.int .i64 0, .string ⟨#[]⟩, .int .i64 0] 40)).alloc (.cells #[.int .u8 40, .int .u8 41, .int .u8 44, .int .u8 46, .int .u8 59, .int .u8 124, .int .u8 61] 5 (7, 8))) := by
    have h := Lib.run_convert_bytes_const (P := Tryd.prog) (w.alloc (.cells #[.int .i64 0, .string ⟨#[]⟩, .int .i64 0] 40)) 55 5 #[.int .u8 40, .int .u8 41, .int .u8 44, .int .u8 46, .int .u8 59, .int .u8 124, .int .u8 61] 7 7 Tryd.underlying55 Tryd.underlying5
    rw [show (w.alloc (.cells #[.int .i64 0, .string ⟨#[]⟩, .int .i64 0] 40)).heap.size = w.heap.size + 1 by simp] at h
    exact h
  have q0 : (0 : Int) ≤ (p : Int) := by omega
  have q1 : (p : Int) < (s.size : Int) := by omega
  rcases har with har | ⟨har, hz⟩ | ⟨har, hz, hn⟩
  · skip
    go_enter Tryd.func25, Tryd.ntmps25
    go_wp2_with (first | (go_at_call 32; refine (H1.out _).mono ?_; rintro e w' ⟨rfl, rfl⟩) | (go_at_call 33; refine (H2.out _).mono ?_; rintro e w' ⟨rfl, rfl⟩))
    go_loop [121] (fun i => ∃ k : Nat, k ≤ 7 ∧ i = .int .i64 k ∧ Hid (∀ m ∈ marks.take k, m ≠ ((s[p]).toNat : Int))) (fun i => 7 - (intOf i).toNat)
    case atStart => exact ⟨0, by omega, rfl, Lib.hid (by simp)⟩
    case round =>
      obtain ⟨k, hk, rfl, hr⟩ := hrel
      have hcs : k = 0 ∨ k = 1 ∨ k = 2 ∨ k = 3 ∨ k = 4 ∨ k = 5 ∨ k = 6 ∨ k = 7 := by omega
      clear hk
      rcases hcs with rfl | rfl | rfl | rfl | rfl | rfl | rfl | rfl
      · have c0 := mark_cell w 0 _ rfl
        cases hm : ((40 : Int) == ((s[p]).toNat : Int)) with
        | true =>
          go_wp2
          exact bodyPost_ret (v := .tuple #[.agg #[.int .i64 4, .string (s.extract p (p + 1)), .int .i64 0], .bool true]) (by simp [results, Tryd.results25, go_sem]) rfl ⟨.inl ⟨mark_some (m := 40) (by decide) (eq_of_beq hm), rfl⟩, ((Below.refl _ _).alloc (Nat.le_refl _) _).alloc (by simp) _⟩
        | false =>
          have hm2 := Lib.hid (marks_step 0 40 _ hr.out rfl hm)
          go_wp2
          go_round
          case rel => exact ⟨1, by omega, by go_num, hm2⟩
          case measure => simp [intOf]
      · have c0 := mark_cell w 1 _ rfl
        cases hm : ((41 : Int) == ((s[p]).toNat : Int)) with
        | true =>
          go_wp2
          exact bodyPost_ret (v := .tuple #[.agg #[.int .i64 4, .string (s.extract p (p + 1)), .int .i64 0], .bool true]) (by simp [results, Tryd.results25, go_sem]) rfl ⟨.inl ⟨mark_some (m := 41) (by decide) (eq_of_beq hm), rfl⟩, ((Below.refl _ _).alloc (Nat.le_refl _) _).alloc (by simp) _⟩
        | false =>
          have hm2 := Lib.hid (marks_step 1 41 _ hr.out rfl hm)
          go_wp2
          go_round
          case rel => exact ⟨2, by omega, by go_num, hm2⟩
          case measure => simp [intOf]
      · have c0 := mark_cell w 2 _ rfl
        cases hm : ((44 : Int) == ((s[p]).toNat : Int)) with
        | true =>
          go_wp2
          exact bodyPost_ret (v := .tuple #[.agg #[.int .i64 4, .string (s.extract p (p + 1)), .int .i64 0], .bool true]) (by simp [results, Tryd.results25, go_sem]) rfl ⟨.inl ⟨mark_some (m := 44) (by decide) (eq_of_beq hm), rfl⟩, ((Below.refl _ _).alloc (Nat.le_refl _) _).alloc (by simp) _⟩
        | false =>
          have hm2 := Lib.hid (marks_step 2 44 _ hr.out rfl hm)
          go_wp2
          go_round
          case rel => exact ⟨3, by omega, by go_num, hm2⟩
          case measure => simp [intOf]
      · have c0 := mark_cell w 3 _ rfl
        cases hm : ((46 : Int) == ((s[p]).toNat : Int)) with
        | true =>
          go_wp2
          exact bodyPost_ret (v := .tuple #[.agg #[.int .i64 4, .string (s.extract p (p + 1)), .int .i64 0], .bool true]) (by simp [results, Tryd.results25, go_sem]) rfl ⟨.inl ⟨mark_some (m := 46) (by decide) (eq_of_beq hm), rfl⟩, ((Below.refl _ _).alloc (Nat.le_refl _) _).alloc (by simp) _⟩
        | false =>
          have hm2 := Lib.hid (marks_step 3 46 _ hr.out rfl hm)
          go_wp2
          go_round
          case rel => exact ⟨4, by omega, by go_num, hm2⟩
          case measure => simp [intOf]
      · have c0 := mark_cell w 4 _ rfl
        cases hm : ((59 : Int) == ((s[p]).toNat : Int)) with
        | true =>
          go_wp2
          exact bodyPost_ret (v := .tuple #[.agg #[.int .i64 4, .string (s.extract p (p + 1)), .int .i64 0], .bool true]) (by simp [results, Tryd.results25, go_sem]) rfl ⟨.inl ⟨mark_some (m := 59) (by decide) (eq_of_beq hm), rfl⟩, ((Below.refl _ _).alloc (Nat.le_refl _) _).alloc (by simp) _⟩
        | false =>
          have hm2 := Lib.hid (marks_step 4 59 _ hr.out rfl hm)
          go_wp2
          go_round
          case rel => exact ⟨5, by omega, by go_num, hm2⟩
          case measure => simp [intOf]
      · have c0 := mark_cell w 5 _ rfl
        cases hm : ((124 : Int) == ((s[p]).toNat : Int)) with
        | true =>
          go_wp2
          exact bodyPost_ret (v := .tuple #[.agg #[.int .i64 4, .string (s.extract p (p + 1)), .int .i64 0], .bool true]) (by simp [results, Tryd.results25, go_sem]) rfl ⟨.inl ⟨mark_some (m := 124) (by decide) (eq_of_beq hm), rfl⟩, ((Below.refl _ _).alloc (Nat.le_refl _) _).alloc (by simp) _⟩
        | false =>
          have hm2 := Lib.hid (marks_step 5 124 _ hr.out rfl hm)
          go_wp2
          go_round
          case rel => exact ⟨6, by omega, by go_num, hm2⟩
          case measure => simp [intOf]
      · have c0 := mark_cell w 6 _ rfl
        cases hm : ((61 : Int) == ((s[p]).toNat : Int)) with
        | true =>
          go_wp2
          exact bodyPost_ret (v := .tuple #[.agg #[.int .i64 4, .string (s.extract p (p + 1)), .int .i64 0], .bool true]) (by simp [results, Tryd.results25, go_sem]) rfl ⟨.inl ⟨mark_some (m := 61) (by decide) (eq_of_beq hm), rfl⟩, ((Below.refl _ _).alloc (Nat.le_refl _) _).alloc (by simp) _⟩
        | false =>
          have hm2 := Lib.hid (marks_step 6 61 _ hr.out rfl hm)
          go_wp2
          go_round
          case rel => exact ⟨7, by omega, by go_num, hm2⟩
          case measure => simp [intOf]
      · go_wp2
        exact bodyPost_ret (v := .tuple #[.agg #[.int .i64 0, .string ⟨#[]⟩, .int .i64 0], .bool false]) (by simp [results, Tryd.results25, go_sem]) rfl ⟨.inr ⟨marks_none hr.out, rfl⟩, ((Below.refl _ _).alloc (Nat.le_refl _) _).alloc (by simp) _⟩
  · have q2 : decide ((p : Int) < (s.size : Int) - 1) = false := by simp; omega
    go_enter Tryd.func25, Tryd.ntmps25
    go_wp2_with (first | (go_at_call 32; refine (H1.out _).mono ?_; rintro e w' ⟨rfl, rfl⟩) | (go_at_call 33; refine (H2.out _).mono ?_; rintro e w' ⟨rfl, rfl⟩))
    go_loop [121] (fun i => ∃ k : Nat, k ≤ 7 ∧ i = .int .i64 k ∧ Hid (∀ m ∈ marks.take k, m ≠ ((s[p]).toNat : Int))) (fun i => 7 - (intOf i).toNat)
    case atStart => exact ⟨0, by omega, rfl, Lib.hid (by simp)⟩
    case round =>
      obtain ⟨k, hk, rfl, hr⟩ := hrel
      have hcs : k = 0 ∨ k = 1 ∨ k = 2 ∨ k = 3 ∨ k = 4 ∨ k = 5 ∨ k = 6 ∨ k = 7 := by omega
      clear hk
      rcases hcs with rfl | rfl | rfl | rfl | rfl | rfl | rfl | rfl
      · have c0 := mark_cell w 0 _ rfl
        cases hm : ((40 : Int) == ((s[p]).toNat : Int)) with
        | true =>
          go_wp2
          exact bodyPost_ret (v := .tuple #[.agg #[.int .i64 4, .string (s.extract p (p + 1)), .int .i64 0], .bool true]) (by simp [results, Tryd.results25, go_sem]) rfl ⟨.inl ⟨mark_some (m := 40) (by decide) (eq_of_beq hm), rfl⟩, ((Below.refl _ _).alloc (Nat.le_refl _) _).alloc (by simp) _⟩
        | false =>
          have hm2 := Lib.hid (marks_step 0 40 _ hr.out rfl hm)
          go_wp2
          go_round
          case rel => exact ⟨1, by omega, by go_num, hm2⟩
          case measure => simp [intOf]
      · have c0 := mark_cell w 1 _ rfl
        cases hm : ((41 : Int) == ((s[p]).toNat : Int)) with
        | true =>
          go_wp2
          exact bodyPost_ret (v := .tuple #[.agg #[.int .i64 4, .string (s.extract p (p + 1)), .int .i64 0], .bool true]) (by simp [results, Tryd.results25, go_sem]) rfl ⟨.inl ⟨mark_some (m := 41) (by decide) (eq_of_beq hm), rfl⟩, ((Below.refl _ _).alloc (Nat.le_refl _) _).alloc (by simp) _⟩
        | false =>
          have hm2 := Lib.hid (marks_step 1 41 _ hr.out rfl hm)
          go_wp2
          go_round
          case rel => exact ⟨2, by omega, by go_num, hm2⟩
          case measure => simp [intOf]
      · have c0 := mark_cell w 2 _ rfl
        cases hm : ((44 : Int) == ((s[p]).toNat : Int)) with
        | true =>
          go_wp2
          exact bodyPost_ret (v := .tuple #[.agg #[.int .i64 4, .string (s.extract p (p + 1)), .int .i64 0], .bool true]) (by simp [results, Tryd.results25, go_sem]) rfl ⟨.inl ⟨mark_some (m := 44) (by decide) (eq_of_beq hm), rfl⟩, ((Below.refl _ _).alloc (Nat.le_refl _) _).alloc (by simp) _⟩
        | false =>
          have hm2 := Lib.hid (marks_step 2 44 _ hr.out rfl hm)
          go_wp2
          go_round
          case rel => exact ⟨3, by omega, by go_num, hm2⟩
          case measure => simp [intOf]
      · have c0 := mark_cell w 3 _ rfl
        cases hm : ((46 : Int) == ((s[p]).toNat : Int)) with
        | true =>
          go_wp2
          exact bodyPost_ret (v := .tuple #[.agg #[.int .i64 4, .string (s.extract p (p + 1)), .int .i64 0], .bool true]) (by simp [results, Tryd.results25, go_sem]) rfl ⟨.inl ⟨mark_some (m := 46) (by decide) (eq_of_beq hm), rfl⟩, ((Below.refl _ _).alloc (Nat.le_refl _) _).alloc (by simp) _⟩
        | false =>
          have hm2 := Lib.hid (marks_step 3 46 _ hr.out rfl hm)
          go_wp2
          go_round
          case rel => exact ⟨4, by omega, by go_num, hm2⟩
          case measure => simp [intOf]
      · have c0 := mark_cell w 4 _ rfl
        cases hm : ((59 : Int) == ((s[p]).toNat : Int)) with
        | true =>
          go_wp2
          exact bodyPost_ret (v := .tuple #[.agg #[.int .i64 4, .string (s.extract p (p + 1)), .int .i64 0], .bool true]) (by simp [results, Tryd.results25, go_sem]) rfl ⟨.inl ⟨mark_some (m := 59) (by decide) (eq_of_beq hm), rfl⟩, ((Below.refl _ _).alloc (Nat.le_refl _) _).alloc (by simp) _⟩
        | false =>
          have hm2 := Lib.hid (marks_step 4 59 _ hr.out rfl hm)
          go_wp2
          go_round
          case rel => exact ⟨5, by omega, by go_num, hm2⟩
          case measure => simp [intOf]
      · have c0 := mark_cell w 5 _ rfl
        cases hm : ((124 : Int) == ((s[p]).toNat : Int)) with
        | true =>
          go_wp2
          exact bodyPost_ret (v := .tuple #[.agg #[.int .i64 4, .string (s.extract p (p + 1)), .int .i64 0], .bool true]) (by simp [results, Tryd.results25, go_sem]) rfl ⟨.inl ⟨mark_some (m := 124) (by decide) (eq_of_beq hm), rfl⟩, ((Below.refl _ _).alloc (Nat.le_refl _) _).alloc (by simp) _⟩
        | false =>
          have hm2 := Lib.hid (marks_step 5 124 _ hr.out rfl hm)
          go_wp2
          go_round
          case rel => exact ⟨6, by omega, by go_num, hm2⟩
          case measure => simp [intOf]
      · have c0 := mark_cell w 6 _ rfl
        cases hm : ((61 : Int) == ((s[p]).toNat : Int)) with
        | true =>
          go_wp2
          exact bodyPost_ret (v := .tuple #[.agg #[.int .i64 4, .string (s.extract p (p + 1)), .int .i64 0], .bool true]) (by simp [results, Tryd.results25, go_sem]) rfl ⟨.inl ⟨mark_some (m := 61) (by decide) (eq_of_beq hm), rfl⟩, ((Below.refl _ _).alloc (Nat.le_refl _) _).alloc (by simp) _⟩
        | false =>
          have hm2 := Lib.hid (marks_step 6 61 _ hr.out rfl hm)
          go_wp2
          go_round
          case rel => exact ⟨7, by omega, by go_num, hm2⟩
          case measure => simp [intOf]
      · go_wp2
        exact bodyPost_ret (v := .tuple #[.agg #[.int .i64 0, .string ⟨#[]⟩, .int .i64 0], .bool false]) (by simp [results, Tryd.results25, go_sem]) rfl ⟨.inr ⟨marks_none hr.out, rfl⟩, ((Below.refl _ _).alloc (Nat.le_refl _) _).alloc (by simp) _⟩
  · have q2 : (p : Int) < (s.size : Int) - 1 := by omega
    have q3 : (p : Int) + 1 < (s.size : Int) := by omega
    go_enter Tryd.func25, Tryd.ntmps25
    go_wp2_with (first | (go_at_call 32; refine (H1.out _).mono ?_; rintro e w' ⟨rfl, rfl⟩) | (go_at_call 33; refine (H2.out _).mono ?_; rintro e w' ⟨rfl, rfl⟩))
    go_loop [121] (fun i => ∃ k : Nat, k ≤ 7 ∧ i = .int .i64 k ∧ Hid (∀ m ∈ marks.take k, m ≠ ((s[p]).toNat : Int))) (fun i => 7 - (intOf i).toNat)
    case atStart => exact ⟨0, by omega, rfl, Lib.hid (by simp)⟩
    case round =>
      obtain ⟨k, hk, rfl, hr⟩ := hrel
      have hcs : k = 0 ∨ k = 1 ∨ k = 2 ∨ k = 3 ∨ k = 4 ∨ k = 5 ∨ k = 6 ∨ k = 7 := by omega
      clear hk
      rcases hcs with rfl | rfl | rfl | rfl | rfl | rfl | rfl | rfl
      · have c0 := mark_cell w 0 _ rfl
        cases hm : ((40 : Int) == ((s[p]).toNat : Int)) with
        | true =>
          go_wp2
          exact bodyPost_ret (v := .tuple #[.agg #[.int .i64 4, .string (s.extract p (p + 1)), .int .i64 0], .bool true]) (by simp [results, Tryd.results25, go_sem]) rfl ⟨.inl ⟨mark_some (m := 40) (by decide) (eq_of_beq hm), rfl⟩, ((Below.refl _ _).alloc (Nat.le_refl _) _).alloc (by simp) _⟩
        | false =>
          have hm2 := Lib.hid (marks_step 0 40 _ hr.out rfl hm)
          go_wp2
          go_round
          case rel => exact ⟨1, by omega, by go_num, hm2⟩
          case measure => simp [intOf]
      · have c0 := mark_cell w 1 _ rfl
        cases hm : ((41 : Int) == ((s[p]).toNat : Int)) with
        | true =>
          go_wp2
          exact bodyPost_ret (v := .tuple #[.agg #[.int .i64 4, .string (s.extract p (p + 1)), .int .i64 0], .bool true]) (by simp [results, Tryd.results25, go_sem]) rfl ⟨.inl ⟨mark_some (m := 41) (by decide) (eq_of_beq hm), rfl⟩, ((Below.refl _ _).alloc (Nat.le_refl _) _).alloc (by simp) _⟩
        | false =>
          have hm2 := Lib.hid (marks_step 1 41 _ hr.out rfl hm)
          go_wp2
          go_round
          case rel => exact ⟨2, by omega, by go_num, hm2⟩
          case measure => simp [intOf]
      · have c0 := mark_cell w 2 _ rfl
        cases hm : ((44 : Int) == ((s[p]).toNat : Int)) with
        | true =>
          go_wp2
          exact bodyPost_ret (v := .tuple #[.agg #[.int .i64 4, .string (s.extract p (p + 1)), .int .i64 0], .bool true]) (by simp [results, Tryd.results25, go_sem]) rfl ⟨.inl ⟨mark_some (m := 44) (by decide) (eq_of_beq hm), rfl⟩, ((Below.refl _ _).alloc (Nat.le_refl _) _).alloc (by simp) _⟩
        | false =>
          have hm2 := Lib.hid (marks_step 2 44 _ hr.out rfl hm)
          go_wp2
          go_round
          case rel => exact ⟨3, by omega, by go_num, hm2⟩
          case measure => simp [intOf]
      · have c0 := mark_cell w 3 _ rfl
        cases hm : ((46 : Int) == ((s[p]).toNat : Int)) with
        | true =>
          go_wp2
          exact bodyPost_ret (v := .tuple #[.agg #[.int .i64 4, .string (s.extract p (p + 1)), .int .i64 0], .bool true]) (by simp [results, Tryd.results25, go_sem]) rfl ⟨.inl ⟨mark_some (m := 46) (by decide) (eq_of_beq hm), rfl⟩, ((Below.refl _ _).alloc (Nat.le_refl _) _).alloc (by simp) _⟩
        | false =>
          have hm2 := Lib.hid (marks_step 3 46 _ hr.out rfl hm)
          go_wp2
          go_round
          case rel => exact ⟨4, by omega, by go_num, hm2⟩
          case measure => simp [intOf]
      · have c0 := mark_cell w 4 _ rfl
        cases hm : ((59 : Int) == ((s[p]).toNat : Int)) with
        | true =>
          go_wp2
          exact bodyPost_ret (v := .tuple #[.agg #[.int .i64 4, .string (s.extract p (p + 1)), .int .i64 0], .bool true]) (by simp [results, Tryd.results25, go_sem]) rfl ⟨.inl ⟨mark_some (m := 59) (by decide) (eq_of_beq hm), rfl⟩, ((Below.refl _ _).alloc (Nat.le_refl _) _).alloc (by simp) _⟩
        | false =>
          have hm2 := Lib.hid (marks_step 4 59 _ hr.out rfl hm)
          go_wp2
          go_round
          case rel => exact ⟨5, by omega, by go_num, hm2⟩
          case measure => simp [intOf]
      · have c0 := mark_cell w 5 _ rfl
        cases hm : ((124 : Int) == ((s[p]).toNat : Int)) with
        | true =>
          go_wp2
          exact bodyPost_ret (v := .tuple #[.agg #[.int .i64 4, .string (s.extract p (p + 1)), .int .i64 0], .bool true]) (by simp [results, Tryd.results25, go_sem]) rfl ⟨.inl ⟨mark_some (m := 124) (by decide) (eq_of_beq hm), rfl⟩, ((Below.refl _ _).alloc (Nat.le_refl _) _).alloc (by simp) _⟩
        | false =>
          have hm2 := Lib.hid (marks_step 5 124 _ hr.out rfl hm)
          go_wp2
          go_round
          case rel => exact ⟨6, by omega, by go_num, hm2⟩
          case measure => simp [intOf]
      · have c0 := mark_cell w 6 _ rfl
        cases hm : ((61 : Int) == ((s[p]).toNat : Int)) with
        | true =>
          go_wp2
          exact bodyPost_ret (v := .tuple #[.agg #[.int .i64 4, .string (s.extract p (p + 1)), .int .i64 0], .bool true]) (by simp [results, Tryd.results25, go_sem]) rfl ⟨.inl ⟨mark_some (m := 61) (by decide) (eq_of_beq hm), rfl⟩, ((Below.refl _ _).alloc (Nat.le_refl _) _).alloc (by simp) _⟩
        | false =>
          have hm2 := Lib.hid (marks_step 6 61 _ hr.out rfl hm)
          go_wp2
          go_round
          case rel => exact ⟨7, by omega, by go_num, hm2⟩
          case measure => simp [intOf]
      · go_wp2
        exact bodyPost_ret (v := .tuple #[.agg #[.int .i64 0, .string ⟨#[]⟩, .int .i64 0], .bool false]) (by simp [results, Tryd.results25, go_sem]) rfl ⟨.inr ⟨marks_none hr.out, rfl⟩, ((Below.refl _ _).alloc (Nat.le_refl _) _).alloc (by simp) _⟩

set_option maxRecDepth 100000 in
theorem refWord_arrow (s : ByteArray) (hs : s.size ≤ 140737488355328) (p : Nat) (hp : p + 1 < s.size) (h58 : (((s[p]).toNat : Int) == 58) = true) (h45 : (((s[p + 1]).toNat : Int) == 45) = true) (w : World) :
    Calls Tryd.prog 25 #[.string s, .int .i64 p] w fun e w' => e = .returned (.tuple #[.agg #[.int .i64 4, .string ⟨#[58, 45]⟩, .int .i64 0], .bool true]) ∧ Below w.heap.size w w' := by
  have hx := eq_of_beq h58
  have h1 := letter_any ((s[p]).toNat : Int)
  have h2 := digit_any ((s[p]).toNat : Int)
  rw [show alfI ((s[p]).toNat : Int) = false by rw [hx]; rfl] at h1
  rw [show digI ((s[p]).toNat : Int) = false by rw [hx]; rfl] at h2
  have h3 : (((s[p]).toNat : Int) == 45) = false := by rw [hx]; rfl
  have H1 := Lib.hid h1
  have H2 := Lib.hid h2
  clear h1 h2 hx
  have q0 : (0 : Int) ≤ (p : Int) := by omega
  have q2 : (p : Int) < (s.size : Int) - 1 := by omega
  have q3 : (p : Int) + 1 < (s.size : Int) := by omega
  go_enter Tryd.func25, Tryd.ntmps25
  go_wp2_with (first | (go_at_call 32; refine (H1.out _).mono ?_; rintro e w' ⟨rfl, rfl⟩) | (go_at_call 33; refine (H2.out _).mono ?_; rintro e w' ⟨rfl, rfl⟩))
  exact bodyPost_ret (v := .tuple #[.agg #[.int .i64 4, .string ⟨#[58, 45]⟩, .int .i64 0], .bool true]) (by simp [results, Tryd.results25, go_sem]) rfl ⟨rfl, (Below.refl _ _).alloc (Nat.le_refl _) _⟩

end Lx
end Go.Proofs.YtdalldhgfdnaeaaDoor
