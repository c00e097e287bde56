/- The contract of package lex's Lex at every text: its tokens in a new row of cells and no error, or no token and one of the two errors. Conditions: the text has at most 2^47 bytes; the error variables hold an error; strconv's table of powers of ten holds them. -/
import Derived.Test.YtacgbogedpoojabDoorScan
namespace Go.Proofs.YtacgbogedpoojabDoor
namespace Lx
open Go Go.RowKit

/-- The two errors of package api that this layer returns. -/
structure Errs (w : World) (el et : Value) : Prop where
  large : w.cell? ⟨1, 0, none⟩ = some el
  text : w.cell? ⟨3, 0, none⟩ = some et
  islarge : ∃ tp p, el = .iface tp p
  istext : ∃ tp p, et = .iface tp p

theorem tok_cells {w : World} {b : Nat} {x y z : Value} (h : w.heap[b]? = some (.cells #[x, y, z] 66 (0, 0))) : w.cell? ⟨b, 0, none⟩ = some x ∧ w.cell? ⟨b, 1, none⟩ = some y ∧ w.cell? ⟨b, 2, none⟩ = some z :=
  ⟨by rw [cell_of_row w b 0 _ _ _ h]; rfl, by rw [cell_of_row w b 1 _ _ _ h]; rfl, by rw [cell_of_row w b 2 _ _ _ h]; rfl⟩

def ScanEnd (W : World) (B : Nat) (s : ByteArray) (et : Value) (e : Ending) (w' : World) : Prop :=
  e = .returned (if whole s.data.toList = true then .nilIface else et) ∧ Below W.heap.size W w' ∧ ∃ v, Held W.heap.size w' B v (toks s.data.toList)

theorem tok_kept {base : Nat} {w1 w2 : World} {B : Nat} {v : Value} {ts : List Tok} {x y z : Value} (hH : Held base w1 B v ts) (hbut : But2 B v (w1.alloc (.cells #[x, y, z] 66)) w2) :
    w2.heap[w1.heap.size]? = some (.cells #[x, y, z] 66 (0, 0)) := by
  have h1 := hH.lt
  rw [hbut.block w1.heap.size (by simp) (by omega) (fun e => by have := hH.2.2.lt _ e; omega)]
  show (w1.heap.push _)[w1.heap.size]? = _
  simp

theorem scan_list (s : ByteArray) (hs : s.size ≤ 16384) (W : World) (hE : Env W) (el et : Value) (hR : Errs W el et) (B : Nat) (w : World) (hb : Below W.heap.size W w) (hH : Held W.heap.size w B (.slice none 0 0) []) :
    Calls Tryd.prog 35 #[.string s, .func (.func 36) #[] #[.pointer (some ⟨B, 0, none⟩)]] w fun e w' => ScanEnd W B s et e w' := by
  have HS := Lib.hid (fun p hp w => skip_any s (by omega) p hp w)
  have hsz := hE.size
  obtain ⟨tp, pv, rfl⟩ := hR.istext
  have hbig : decide ((16384 : Int) < (s.size : Int)) = false := by simp; omega
  have HT := Lib.hid hR.text
  have HV := Lib.hid hE
  have HF : Hid (∀ k, k < s.size → ∀ w, Env w → Calls Tryd.prog 47 #[.string (s.extract k s.size)] w fun e w' => TokEnd (tokAt (s.data.toList.drop k)) w e w') := by
    intro k hk w hE
    have h := first_any (s.extract k s.size) (by simp; omega) (by simp; omega) w hE
    rwa [ext_list] at h
  have hst := found_start s.data.toList
  have HST := Lib.hid hst
  have hss : skipL false s.data.toList ≤ s.size := by have := hst.1.1; simpa using this
  have h0 : skipL false (s.data.toList.drop 0) = skipL false s.data.toList := by rw [List.drop_zero]
  have HZ := Lib.hid h0
  clear hst h0 hE
  go_enter Tryd.func35, Tryd.ntmps35
  go_wp2_with (go_at_call 46; refine (HS.out 0 (Nat.zero_le _) _).mono ?_; rw [HZ.out]; rintro e w' ⟨rfl, rfl⟩)
  go_loopw [5] (fun i wr => ∃ k pre v, k ≤ s.size ∧ i = .int .i64 k ∧ Hid (Found s.data.toList k pre) ∧ Held W.heap.size wr B v (pre.map (·.2)) ∧ Below W.heap.size W wr) (fun i _ => s.size - (intOf i).toNat)
  case atStart => exact ⟨_, [], _, hss, rfl, HST, hH, hb⟩
  case round =>
    obtain ⟨k, pre, v, hk, rfl, hfd, hH1, hb1⟩ := hrel
    clear hH hb HST HZ
    have hl : s.data.toList.length = s.size := by simp
    have HL := Lib.hid hl
    clear hl
    by_cases hlt : k < s.size
    · cases ht : tokAt (s.data.toList.drop k) with
      | none =>
        have HB := Lib.hid (found_bad hfd.out (by rw [HL.out]; exact hlt) ht)
        have hF := HF.out k hlt
        rw [ht] at hF
        have HF1 : Hid (∀ w, Env w → Calls Tryd.prog 47 #[.string (s.extract k s.size)] w fun e w' => e = .returned (.tuple #[.agg #[.int .i64 0, .string ⟨#[]⟩, .int .i64 0], .bool false]) ∧ Below w.heap.size w w') := Lib.hid hF
        clear hF ht
        go_wp2_with (go_at_call 47; refine (HF1.out _ (HV.out.below hb1)).mono ?_; rintro e w1 ⟨rfl, hb2⟩; have hb3 := hb1.trans (hb2.mono hb1.size); have hg : w1.cell? ⟨3, 0, none⟩ = some (.iface tp pv) := (hb3.cell (p := ⟨3, 0, none⟩) (by simp; omega)).trans HT.out; have hz : 3 < w1.heap.size := by (have := hb3.size; omega))
        go_ret
        obtain ⟨e1, e2⟩ := toks_of HB.out
        exact ⟨by rw [e2]; rfl, hb3.alloc hb3.size _, v, by rw [e1]; exact (hH1.below hb2).below ((Below.refl _ _).alloc (Nat.le_refl _) _)⟩
      | some t =>
        have hnx := found_next hfd.out (by rw [HL.out]; exact hlt) ht
        rw [HL.out, ← bs_size t.text] at hnx
        obtain ⟨hle, h1, hfn⟩ := hnx
        have HFN := Lib.hid hfn
        have hF := HF.out k hlt
        rw [ht] at hF
        have HF1 : Hid (∀ w, Env w → Calls Tryd.prog 47 #[.string (s.extract k s.size)] w fun e w' => e = .returned (.tuple #[.agg #[.int .i64 t.kind, .string (bs t.text), .int .i64 t.num], .bool true]) ∧ Below w.heap.size w w') := Lib.hid hF
        have hpk := hfd.out.2.1
        have hle2 := hfn.1.1
        rw [HL.out] at hle2
        have HY := Lib.hid (fun w B v ts p hH hn hbase => yield_any W.heap.size w B v ts t p hH hn hbase)
        clear hF ht hfn
        generalize bs t.text = x at *
        have hsk := HS.out (k + x.size) hle
        have hkk : k < k + x.size + skipL false (s.data.toList.drop (k + x.size)) := by omega
        generalize k + x.size + skipL false (s.data.toList.drop (k + x.size)) = k' at *
        rw [Int.natCast_add] at hsk
        have HSK := Lib.hid hsk
        clear hsk
        go_wp2_with (first | (go_at_call 47; refine (HF1.out _ (HV.out.below hb1)).mono ?_; rintro e w1 ⟨rfl, hb2⟩; have hb3 := hb1.trans (hb2.mono hb1.size); have hH2 := hH1.below hb2) | (go_at_call 36; refine (HY.out _ _ v _ _ (hH2.below ((Below.refl _ _).alloc (Nat.le_refl _) _)) (by rw [List.length_map]; omega) (hb3.alloc hb3.size _).size).mono ?_; rintro e w2 ⟨rfl, hbut, v', hH3⟩; have hk3 := Lib.hid (tok_kept hH2 hbut); obtain ⟨hc0, hc1, hc2⟩ := tok_cells hk3.out; have hb4 := Lib.hid ((hb3.alloc hb3.size _).trans (hbut.below hH2.2.1 (fun b e => (hH2.2.2.lt b e).1) (hb3.alloc hb3.size _).size))) | (go_at_call 46; refine (HSK.out _).mono ?_; rintro e w' ⟨rfl, rfl⟩))
        go_roundw
        case rel => exact ⟨k', pre ++ [(k, t)], v', hle2, rfl, HFN, by rw [List.map_append]; exact hH3, hb4.out⟩
        case measure => simp [intOf]; omega
    · have HB := Lib.hid (found_end hfd.out (by rw [HL.out]; omega))
      go_wp2
      go_ret
      obtain ⟨e1, e2⟩ := toks_of HB.out
      exact ⟨by rw [e2]; rfl, hb1, v, by rw [e1]; exact hH1⟩

/-- What Lex returns: the tokens and no error; or no token and an error. -/
def LexEnd (s : ByteArray) (el et : Value) (w : World) (e : Ending) (w' : World) : Prop :=
  Below w.heap.size w w' ∧ (
    (16384 < s.size ∧ e = .returned (.tuple #[.slice none 0 0, el])) ∨
    (s.size ≤ 16384 ∧ whole s.data.toList = false ∧ e = .returned (.tuple #[.slice none 0 0, et])) ∨
    (s.size ≤ 16384 ∧ whole s.data.toList = true ∧ ∃ v, e = .returned (.tuple #[v, .nilIface]) ∧ w'.ownsRow w.heap.size 66 3 v (toks s.data.toList).length (cellsT (toks s.data.toList))))

theorem scan_large (s : ByteArray) (hs : 16384 < s.size) (el : Value) (hl : ∃ tp p, el = .iface tp p) (f : Value) (w : World) (hc : w.cell? ⟨1, 0, none⟩ = some el) :
    Calls Tryd.prog 35 #[.string s, f] w fun e w' => e = .returned el ∧ w = w' := by
  obtain ⟨tp, pv, rfl⟩ := hl
  have hbig : (16384 : Int) < (s.size : Int) := by omega
  go_enter Tryd.func35, Tryd.ntmps35
  go_wp2
  go_ret
  exact ⟨rfl, rfl⟩

theorem lex_any (s : ByteArray) (w : World) (hE : Env w) (el et : Value) (hR : Errs w el et) :
    Calls Tryd.prog 19 #[.string s] w fun e w' => LexEnd s el et w e w' := by
  have hz : 1 < w.heap.size := by have := hE.size; omega
  rcases Nat.lt_or_ge 16384 s.size with hs | hs
  · have hc := hR.large
    have HC := Lib.hid (fun f w hc => scan_large s hs el hR.islarge f w hc)
    obtain ⟨tp, pv, rfl⟩ := hR.islarge
    have HG := Lib.hid hc
    clear hR hE hc
    go_enter Tryd.func19, Tryd.ntmps19
    go_wp2_with (go_at_call 35; refine (HC.out _ _ (((Below.refl _ w).alloc (Nat.le_refl _) _).cell (p := ⟨1, 0, none⟩) hz |>.trans HG.out)).mono ?_; rintro e w' ⟨rfl, rfl⟩)
    go_ret2
    exact ⟨(Below.refl _ _).alloc (Nat.le_refl _) _, .inl ⟨hs, rfl⟩⟩
  · have hH : Held w.heap.size (w.alloc (.cells #[.slice none 0 0] 47)) w.heap.size (.slice none 0 0) [] :=
      ⟨by show (w.heap.push _)[w.heap.size]? = _; simp, Nat.le_refl _, World.ownsRow_nil _ _ _ _⟩
    have hS := scan_list s hs w hE el et hR w.heap.size _ ((Below.refl _ w).alloc (Nat.le_refl _) _) hH
    obtain ⟨tp, pv, rfl⟩ := hR.istext
    clear hR hE hH
    cases hwh : whole s.data.toList with
    | false =>
      have hS2 := hS.mono (R' := fun e w' => e = .returned (.iface tp pv) ∧ Below w.heap.size w w') (fun e w' h => ⟨by rw [h.1, hwh]; rfl, h.2.1⟩)
      have HS := Lib.hid hS2
      have HW := Lib.hid hwh
      clear hS hS2 hwh
      go_enter Tryd.func19, Tryd.ntmps19
      go_wp2_with (go_at_call 35; refine HS.out.mono ?_; rintro e w' ⟨rfl, hb⟩)
      go_ret2
      exact ⟨hb, .inr (.inl ⟨hs, HW.out, rfl⟩)⟩
    | true =>
      have hS2 := hS.mono (R' := fun e w' => e = .returned .nilIface ∧ Below w.heap.size w w' ∧ ∃ v, Held w.heap.size w' w.heap.size v (toks s.data.toList)) (fun e w' h => ⟨by rw [h.1, hwh]; rfl, h.2.1, h.2.2⟩)
      have HS := Lib.hid hS2
      have HW := Lib.hid hwh
      clear hS hS2 hwh
      go_enter Tryd.func19, Tryd.ntmps19
      go_wp2_with (go_at_call 35; refine HS.out.mono ?_; rintro e w' ⟨rfl, hb, v, hH⟩; obtain ⟨A, c, rfl⟩ := owns_shape hH.2.2; have hc : w'.cell? ⟨w.heap.size, 0, none⟩ = some (.slice A (toks s.data.toList).length c) := by (rw [cell_of_row w' w.heap.size 0 _ _ _ hH.1]; rfl))
      go_ret2
      exact ⟨hb, .inr (.inr ⟨hs, HW.out, _, rfl, hH.2.2⟩)⟩

end Lx
end Go.Proofs.YtacgbogedpoojabDoor
