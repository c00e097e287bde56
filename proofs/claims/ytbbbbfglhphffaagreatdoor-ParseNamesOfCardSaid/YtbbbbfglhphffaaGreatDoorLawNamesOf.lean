/- The walk of the statement ParseNamesOf: it returns true. Conditions: the error variables hold what they should; strconv's table of powers of ten holds them. -/
import Derived.Test.YtbbbbfglhphffaaGreatDoorPlainName
import Derived.Test.YtbbbbfglhphffaaGreatDoorResvRef
import Derived.Test.YtbbbbfglhphffaaGreatDoorRefB
import Derived.Test.YtbbbbfglhphffaaGreatDoorTextT
import Derived.Test.YtbbbbfglhphffaaGreatDoorLawBits
namespace Go.Proofs.YtbbbbfglhphffaaGreatDoor
set_option linter.unusedSimpArgs false
set_option linter.unusedVariables false
namespace Lx
open Go Go.RowKit

/-- Where the text is no single name, nothing is asked. -/
theorem namesOf_bad (s : ByteArray) (n : Int) (hn : (n != 0) = true) (w : World) (HA : Hid (Calls Tryz.prog 9 #[] w fun e w' => e = .returned (.bool true) ∧ Below w.heap.size w w'))
    (HL : Hid (∀ w, Calls Tryz.prog 23 #[.string s] w fun e w' => e = .returned (.tuple #[.slice none 0 0, .int .i64 n]) ∧ Below w.heap.size w w')) :
    Calls Tryz.prog 6 #[.string s] w fun e w' => e = .returned (.bool true) ∧ Below w.heap.size w w' := by
  go_enter Tryz.func6, Tryz.ntmps6
  go_wp2_with fail
  refine HA.out.mono ?_
  rintro e w1 ⟨rfl, hb1⟩
  go_wp2_with fail
  go_at_call 23
  refine (HL.out _).mono ?_
  rintro e w2 ⟨rfl, hb2⟩
  have hb := hb1.trans (hb2.mono hb1.size)
  go_wp2_with fail
  go_ret
  exact ⟨rfl, hb⟩

set_option maxHeartbeats 1000000 in
theorem namesOf_good (s : ByteArray) (hs : s.size ≤ 16384) (ts : List Tok) (hok : toks s.data.toList = ts) (w : World) (hE : Env w) (f : Nat → Addr) (h4 : Errs4 w f) (HA : Hid (Calls Tryz.prog 9 #[] w fun e w' => e = .returned (.bool true) ∧ Below w.heap.size w w'))
    (HL : Hid (∀ w, Calls Tryz.prog 23 #[.string s] w fun e w' => ∃ v, e = .returned (.tuple #[v, .int .i64 0]) ∧ Below w.heap.size w w' ∧ w'.ownsRow w.heap.size 62 3 v ts.length (cellsT ts))) :
    Calls Tryz.prog 6 #[.string s] w fun e w' => e = .returned (.bool true) ∧ Below w.heap.size w w' := by
  have HV := Lib.hid hE
  have HW := Lib.hid h4
  by_cases h1 : ts.length = 1
  · obtain ⟨t, rfl⟩ : ∃ t, ts = [t] := by
      match ts, h1 with
      | [t], _ => exact ⟨t, rfl⟩
    have ht : tokAt t.text = some t := toks_good (l := s.data.toList) (by rw [hok]; simp)
    by_cases hk : t.kind = 1
    · by_cases hx : bs t.text = s
      · have hx' : t.text = s.data.toList := by rw [← hx]; simp [bs]
        obtain ⟨⟨a1, a2⟩, ⟨b1, b2⟩⟩ := name_toks ht hk rfl
        obtain ⟨e0, e1, e2, _⟩ := name_text ht hk rfl
        have hlen := e2
        generalize t.text = S at *
        subst e0
        subst hx
        have HS := Lib.hid (fun w hE h4 => textIt_any (bs (S ++ [46])) w hE f h4)
        have HT := Lib.hid (fun w hE h4 => textTe_any (bs S) w hE f h4)
        have HR := Lib.hid (fun w => refReserved_any (bs S) w)
        rw [resv_bs] at HR
        rw [textO_bs, show textL (fun ts => sourceO ts 0 0) (S ++ [46]) = endO 2 (sourceO [nmT S, dotT] 0 0) by
          unfold textL
          rw [if_neg (by simp; omega), b2, if_neg (by simp), b1]
          rfl] at HS
        rw [textO_bs, show textL (fun ts => termO ts 66 0 0) S = endO 1 (termO [nmT S] 66 0 0) by
          unfold textL
          rw [if_neg (by omega), a2, if_neg (by simp), a1]
          rfl, name_term] at HT
        have c1 : ∀ W : World, (Op.stringOp .add (bs S) ⟨#[46]⟩).run Tryz.prog W = .ok (.string (bs (S ++ [46]))) W := fun W => by
          rw [show (⟨#[46]⟩ : ByteArray) = bs [46] from rfl, run_string_add_sum (P := Tryz.prog) W (bs S) (bs [46]) (by rw [bs_len, bs_len]; simp; omega), bs_app]
        clear hE h4 a1 a2 b1 b2 e1 e2 ht hs hok hx' h1 hk
        cases hr : resv S with
        | false =>
          rw [name_item hr] at HS
          rw [hr] at HR HT
          simp only [if_true] at HT
          clear hr
          go_enter Tryz.func6, Tryz.ntmps6
          go_wp2_with fail
          refine HA.out.mono ?_
          rintro e w1 ⟨rfl, hb1⟩
          go_wp2_with fail
          go_at_call 23
          refine (HL.out _).mono ?_
          rintro e w2 ⟨v, rfl, hb2, ho⟩
          have HB2 := Lib.hid (hb1.trans (hb2.mono hb1.size))
          obtain ⟨A, c, rfl⟩ := owns_shape ho
          obtain ⟨g, rfl⟩ : ∃ g, A = some ⟨g, 0, none⟩ := by
            rcases ho.2 with ⟨h, _⟩ | ⟨g, _, _, h, _⟩
            · cases h
            · injection h with h _ _; exact ⟨g, h⟩
          have d0 := (ho.cellAt (g := g) 0 (by show 0 < 3; decide)).trans rfl
          have d1 := (ho.cellAt (g := g) 1 (by show 1 < 3; decide)).trans rfl
          simp only [cellsT, List.flatMap_cons, List.flatMap_nil, List.append_nil, List.getElem?_cons_zero, List.getElem?_cons_succ] at d0 d1
          clear ho hb1 hb2
          go_wp2_with fail
          go_at_call 10
          refine (HS.out _ (HV.out.below HB2.out) (HW.out.below HB2.out)).mono ?_
          rintro e w3 ⟨v3, er3, rfl, hb3, ht3⟩
          have HB3 := Lib.hid (HB2.out.trans (hb3.mono HB2.out.size))
          obtain ⟨z1, z2, z3, rfl⟩ := src_shape ht3
          obtain rfl : er3 = .nilIface := ht3.1
          clear ht3 hb3
          go_wp2_with fail
          go_at_call 14
          refine (HT.out _ (HV.out.below HB3.out) (HW.out.below HB3.out)).mono ?_
          rintro e w4 ⟨v4, er4, rfl, hb4, ht4⟩
          have HB4 := Lib.hid (HB3.out.trans (hb4.mono HB3.out.size))
          obtain ⟨y1, y2, y3, y4, y5, y6, rfl⟩ := term_shape ht4
          obtain rfl : er4 = .nilIface := ht4.1
          clear ht4 hb4
          go_wp2_with fail
          go_at_call 24
          refine (HR.out _).mono ?_
          rintro e w5 ⟨rfl, hb5⟩
          have hb4a := HB4.out.alloc HB4.out.size (.cells #[.int .i64 y1, .string y2, .int .i64 y3, .slice y4 y5 y6] 35)
          have HB5 := Lib.hid (hb4a.trans (hb5.mono hb4a.size))
          clear hb4a
          clear hb5
          go_wp2_with fail
          go_ret
          exact ⟨rfl, HB5.out⟩
        | true =>
          obtain ⟨_, e2, _⟩ := name_no hr
          rw [e2] at HS
          rw [hr] at HR HT
          simp only [Bool.true_eq_false, if_false] at HT
          clear hr e2
          go_enter Tryz.func6, Tryz.ntmps6
          go_wp2_with fail
          refine HA.out.mono ?_
          rintro e w1 ⟨rfl, hb1⟩
          go_wp2_with fail
          go_at_call 23
          refine (HL.out _).mono ?_
          rintro e w2 ⟨v, rfl, hb2, ho⟩
          have HB2 := Lib.hid (hb1.trans (hb2.mono hb1.size))
          obtain ⟨A, c, rfl⟩ := owns_shape ho
          obtain ⟨g, rfl⟩ : ∃ g, A = some ⟨g, 0, none⟩ := by
            rcases ho.2 with ⟨h, _⟩ | ⟨g, _, _, h, _⟩
            · cases h
            · injection h with h _ _; exact ⟨g, h⟩
          have d0 := (ho.cellAt (g := g) 0 (by show 0 < 3; decide)).trans rfl
          have d1 := (ho.cellAt (g := g) 1 (by show 1 < 3; decide)).trans rfl
          simp only [cellsT, List.flatMap_cons, List.flatMap_nil, List.append_nil, List.getElem?_cons_zero, List.getElem?_cons_succ] at d0 d1
          clear ho hb1 hb2
          go_wp2_with fail
          go_at_call 10
          refine (HS.out _ (HV.out.below HB2.out) (HW.out.below HB2.out)).mono ?_
          rintro e w3 ⟨v3, er3, rfl, hb3, ht3⟩
          have HB3 := Lib.hid (HB2.out.trans (hb3.mono HB2.out.size))
          obtain ⟨z1, z2, z3, rfl⟩ := src_shape ht3
          obtain rfl : er3 = errP (f 2) := ht3.2
          clear ht3 hb3
          go_wp2_with fail
          go_at_call 14
          refine (HT.out _ (HV.out.below HB3.out) (HW.out.below HB3.out)).mono ?_
          rintro e w4 ⟨v4, er4, rfl, hb4, ht4⟩
          have HB4 := Lib.hid (HB3.out.trans (hb4.mono HB3.out.size))
          obtain ⟨y1, y2, y3, y4, y5, y6, rfl⟩ := term_shape ht4
          obtain rfl : er4 = errP (f 2) := ht4.2
          clear ht4 hb4
          go_wp2_with fail
          go_at_call 24
          refine (HR.out _).mono ?_
          rintro e w5 ⟨rfl, hb5⟩
          have hb4a := HB4.out.alloc HB4.out.size (.cells #[.int .i64 y1, .string y2, .int .i64 y3, .slice y4 y5 y6] 35)
          have HB5 := Lib.hid (hb4a.trans (hb5.mono hb4a.size))
          clear hb4a
          have hsy := (HW.out.below HB5.out).syn
          have hlt5 := World.block_lt_of_cell? _ _ hsy
          have hes := eql_same (f 2)
          clear hb5
          go_wp2_with fail
          go_ret
          exact ⟨rfl, HB5.out⟩
      · have hxq : ((bs t.text).toList == s.toList) = false := by
          rw [beq_eq_false_iff_ne]
          intro he
          rw [ByteArray.toList_eq, ByteArray.toList_eq] at he
          exact hx (ByteArray.ext (Array.toList_inj.1 he))
        clear hE h4 HV HW hok h1 ht
        go_enter Tryz.func6, Tryz.ntmps6
        go_wp2_with fail
        refine HA.out.mono ?_
        rintro e w1 ⟨rfl, hb1⟩
        go_wp2_with fail
        go_at_call 23
        refine (HL.out _).mono ?_
        rintro e w2 ⟨v, rfl, hb2, ho⟩
        have HB2 := Lib.hid (hb1.trans (hb2.mono hb1.size))
        obtain ⟨A, c, rfl⟩ := owns_shape ho
        obtain ⟨g, rfl⟩ : ∃ g, A = some ⟨g, 0, none⟩ := by
          rcases ho.2 with ⟨h, _⟩ | ⟨g, _, _, h, _⟩
          · cases h
          · injection h with h _ _; exact ⟨g, h⟩
        have d0 := (ho.cellAt (g := g) 0 (by show 0 < 3; decide)).trans rfl
        have d1 := (ho.cellAt (g := g) 1 (by show 1 < 3; decide)).trans rfl
        simp only [cellsT, List.flatMap_cons, List.flatMap_nil, List.append_nil, List.getElem?_cons_zero, List.getElem?_cons_succ] at d0 d1
        rw [hk] at d0
        clear ho hb1 hb2 hk hx
        go_wp2_with fail
        go_ret
        exact ⟨rfl, HB2.out⟩
    · have hkq : (t.kind != 1) = true := by simpa using hk
      clear hE h4 HV HW hok h1 ht
      go_enter Tryz.func6, Tryz.ntmps6
      go_wp2_with fail
      refine HA.out.mono ?_
      rintro e w1 ⟨rfl, hb1⟩
      go_wp2_with fail
      go_at_call 23
      refine (HL.out _).mono ?_
      rintro e w2 ⟨v, rfl, hb2, ho⟩
      have HB2 := Lib.hid (hb1.trans (hb2.mono hb1.size))
      obtain ⟨A, c, rfl⟩ := owns_shape ho
      obtain ⟨g, rfl⟩ : ∃ g, A = some ⟨g, 0, none⟩ := by
        rcases ho.2 with ⟨h, _⟩ | ⟨g, _, _, h, _⟩
        · cases h
        · injection h with h _ _; exact ⟨g, h⟩
      have d0 := (ho.cellAt (g := g) 0 (by show 0 < 3; decide)).trans rfl
      simp only [cellsT, List.flatMap_cons, List.flatMap_nil, List.append_nil, List.getElem?_cons_zero, List.getElem?_cons_succ] at d0
      clear ho hb1 hb2 hk
      go_wp2_with fail
      go_ret
      exact ⟨rfl, HB2.out⟩
  · have hlq : ((ts.length : Int) != 1) = true := by simp; omega
    clear hE h4 HV HW hok h1
    go_enter Tryz.func6, Tryz.ntmps6
    go_wp2_with fail
    refine HA.out.mono ?_
    rintro e w1 ⟨rfl, hb1⟩
    go_wp2_with fail
    go_at_call 23
    refine (HL.out _).mono ?_
    rintro e w2 ⟨v, rfl, hb2, ho⟩
    have HB2 := Lib.hid (hb1.trans (hb2.mono hb1.size))
    obtain ⟨A, c, rfl⟩ := owns_shape ho
    clear ho hb1 hb2
    go_wp2_with fail
    go_ret
    exact ⟨rfl, HB2.out⟩

theorem lawNamesOf_any (s : ByteArray) (w : World) (hE : Env w) (f : Nat → Addr) (h4 : Errs4 w f) :
    Calls Tryz.prog 6 #[.string s] w fun e w' => e = .returned (.bool true) ∧ Below w.heap.size w w' := by
  have HA := Lib.hid (alive_any w hE f h4)
  rcases Nat.lt_or_ge 16384 s.size with h | h
  · refine namesOf_bad s 4 rfl w HA (Lib.hid (fun w => (refLex_any s w).mono ?_))
    rintro e w' ⟨hb, h1 | h1 | h1⟩
    · exact ⟨h1.2, hb⟩
    · exact absurd h1.1 (by omega)
    · exact absurd h1.1 (by omega)
  · cases hw : whole s.data.toList with
    | false =>
      refine namesOf_bad s 1 rfl w HA (Lib.hid (fun w => (refLex_any s w).mono ?_))
      rintro e w' ⟨hb, h1 | h1 | h1⟩
      · exact absurd h1.1 (by omega)
      · exact ⟨h1.2.2, hb⟩
      · rw [hw] at h1; exact absurd h1.2.1 (by decide)
    | true =>
      refine namesOf_good s h _ rfl w hE f h4 HA (Lib.hid (fun w => (refLex_any s w).mono ?_))
      rintro e w' ⟨hb, h1 | h1 | h1⟩
      · exact absurd h1.1 (by omega)
      · rw [hw] at h1; exact absurd h1.2.1 (by decide)
      · obtain ⟨_, _, v, he, ho⟩ := h1
        exact ⟨v, he, hb, ho⟩

end Lx
end Go.Proofs.YtbbbbfglhphffaaGreatDoor
