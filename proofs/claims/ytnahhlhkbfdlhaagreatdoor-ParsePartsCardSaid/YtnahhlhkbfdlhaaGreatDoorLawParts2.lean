/- The walk of the statement ParseParts: it returns true. Conditions: the sixteen error variables hold pointers to cells of their own; strconv's table of powers of ten holds them. -/
import Derived.Test.YtnahhlhkbfdlhaaGreatDoorNum4
import Derived.Test.YtnahhlhkbfdlhaaGreatDoorRdpt
import Derived.Test.YtnahhlhkbfdlhaaGreatDoorSameA
import Derived.Test.YtnahhlhkbfdlhaaGreatDoorTextI
namespace Go.Proofs.YtnahhlhkbfdlhaaGreatDoor
set_option linter.unusedSimpArgs false
set_option linter.unusedVariables false
namespace Lx
open Go Go.RowKit

theorem v_below {α : Type} {V : Holds α} (hV : Stable V) (hW : ∀ x v lo hi lo' hi' w, V x v lo hi w → lo' ≤ lo → hi ≤ hi' → V x v lo' hi' w) {x : α} {v : Value} {lo : Nat} {C N : World} (h : V x v lo C.heap.size C) (hb : Below C.heap.size C N) : V x v lo N.heap.size N :=
  hW _ _ _ _ _ _ _ (hV _ _ _ _ _ N h (fun k _ k2 => hb.block k k2)) (Nat.le_refl _) hb.size
theorem b_below {B : Nat} {C N : World} {ob : Obj} (h : C.heap[B]? = some ob) (hb : Below C.heap.size C N) : N.heap[B]? = some ob := (hb.block B (Array.getElem?_eq_some_iff.1 h).1).trans h
/-- What both readings of a text come to. -/
theorem both_one {α : Type} (V : Holds α) (zero : Value) (z : α) (hz : ∀ lo hi w, V z zero lo hi w) (f : Nat → Addr) (O : Out α) : ∃ (x : α) (E : Value) (n : Int), (-9223372036854775808 ≤ n ∧ n ≤ 9223372036854775807) ∧
    (∀ w w' v er, TextR (four f) V zero w w' v er O → er = E ∧ V x v w.heap.size w'.heap.size w') ∧
    (∀ w, Sents w f → Calls Tryz.prog 10 #[E] w fun e w' => e = .returned (.int .i64 n) ∧ Below w.heap.size w w') ∧
    (∀ w w' v m, PartR V zero w w' v m O → m = n ∧ V x v w.heap.size w'.heap.size w') := by
  obtain ⟨x, E, n, h1, h2, h3, hO⟩ := text_one V zero z hz f O
  refine ⟨x, E, n, h1, h2, h3, fun w w' v m h => ?_⟩
  rcases hO with ⟨i, ho, rfl, rfl⟩ | ⟨k, ho, rfl⟩
  · rw [ho] at h
    obtain ⟨rfl, rfl⟩ := h
    exact ⟨rfl, hz _ _ _⟩
  · rw [ho] at h
    exact h

set_option maxRecDepth 100000 in
set_option maxHeartbeats 8000000 in
theorem lawParts_any (s : ByteArray) (w : World) (hE : Env w) (f : Nat → Addr) (hS : Sents w f) :
    Calls Tryz.prog 4 #[.string s] w fun e w' => e = .returned (.bool true) ∧ Below w.heap.size w w' := by
  have HA := Lib.hid (alive_any w hE _ hS.four)
  have HV := Lib.hid hE
  have HS := Lib.hid hS
  obtain ⟨xT, ET, nT, ⟨lT, uT⟩, hxT, hnT, hpT⟩ := both_one (TermV 66) (.agg #[.int .i64 0, .string ⟨#[]⟩, .int .i64 0, .slice none 0 0]) zeroT zeroT_holds f (textO (fun ts => termO ts 66 0 0) s)
  have HXT := Lib.hid hxT
  have HNT := Lib.hid hnT
  have HQT := Lib.hid hpT
  obtain ⟨xG, EG, nG, ⟨lG, uG⟩, hxG, hnG, hpG⟩ := both_one (GoalV 134) (.agg #[.int .i64 0, .int .i64 0, .string ⟨#[]⟩, .int .i64 0, .slice none 0 0, .int .i64 0, .string ⟨#[]⟩, .int .i64 0, .slice none 0 0, .string ⟨#[]⟩, .slice none 0 0, .slice none 0 0]) zeroG zeroG_holds f (textO (fun ts => goalO (primO ts 66 0) ts 0) s)
  have HXG := Lib.hid hxG
  have HNG := Lib.hid hnG
  have HQG := Lib.hid hpG
  obtain ⟨xY, EY, nY, ⟨lY, uY⟩, hxY, hnY, hpY⟩ := both_one (TypeV 66) (.agg #[.bool false, .string ⟨#[]⟩, .slice none 0 0]) (.mk false [] []) (fun _ _ _ => ⟨_, rfl, .inl ⟨rfl, rfl⟩⟩) f (textO (fun ts => typeO ts 66 0 0) s)
  have HXY := Lib.hid hxY
  have HNY := Lib.hid hnY
  have HQY := Lib.hid hpY
  clear hE hS hxT hnT hpT hxG hnG hpG hxY hnY hpY
  go_enter Tryz.func4, Tryz.ntmps4
  go_wp2_with fail
  refine HA.out.mono ?_
  rintro e w1 ⟨rfl, hb1⟩
  have HB := Lib.hid hb1
  clear hb1 HA
  go_wp2_with fail
  go_at_call 11
  refine (textTe_any s _ (HV.out.below HB.out) (four f) (HS.out.below HB.out).four).mono ?_
  rintro e w2 ⟨v, er, rfl, hb, ht⟩
  obtain ⟨rfl, hv⟩ := HXT.out _ _ _ _ ht
  obtain ⟨a1, a2, a3, a4, a5, a6, rfl⟩ := TermV.sh _ _ _ _ _ hv
  have HBn := Lib.hid (HB.out.trans (hb.mono HB.out.size))
  have hal : Below w2.heap.size w2 (w2.alloc (.cells #[.int .i64 a1, .string a2, .int .i64 a3, .slice a4 a5 a6] 35)) := (Below.refl _ _).alloc (Nat.le_refl _) _
  have HBm := Lib.hid (HBn.out.alloc HBn.out.size (.cells #[.int .i64 a1, .string a2, .int .i64 a3, .slice a4 a5 a6] 35))
  have HV0n := Lib.hid (v_below (TermV.stable 66) (TermV.wide 66) hv hal)
  have HK0n := Lib.hid (heap_alloc_new w2 (.cells #[.int .i64 a1, .string a2, .int .i64 a3, .slice a4 a5 a6] 35))
  clear hb ht hv hal HB HBn
  have HB := Lib.hid HBm.out
  have HV0 := Lib.hid HV0n.out
  have HK0 := Lib.hid HK0n.out
  clear HBm HV0n HK0n
  go_wp2_with fail
  go_at_call 12
  refine (refTerm_any s _).mono ?_
  rintro e w3 ⟨v, er, rfl, hb, ht⟩
  obtain ⟨rfl, hv⟩ := HQT.out _ _ _ _ ht
  obtain ⟨b1, b2, b3, b4, b5, b6, rfl⟩ := TermV.sh _ _ _ _ _ hv
  have HBn := Lib.hid (HB.out.trans (hb.mono HB.out.size))
  have hal : Below w3.heap.size w3 (w3.alloc (.cells #[.int .i64 b1, .string b2, .int .i64 b3, .slice b4 b5 b6] 35)) := (Below.refl _ _).alloc (Nat.le_refl _) _
  have HBm := Lib.hid (HBn.out.alloc HBn.out.size (.cells #[.int .i64 b1, .string b2, .int .i64 b3, .slice b4 b5 b6] 35))
  have HV0n := Lib.hid (v_below (TermV.stable 66) (TermV.wide 66) (v_below (TermV.stable 66) (TermV.wide 66) HV0.out hb) hal)
  have HK0n := Lib.hid (b_below (b_below HK0.out hb) hal)
  have HV1n := Lib.hid (v_below (TermV.stable 66) (TermV.wide 66) hv hal)
  have HK1n := Lib.hid (heap_alloc_new w3 (.cells #[.int .i64 b1, .string b2, .int .i64 b3, .slice b4 b5 b6] 35))
  clear hb ht hv hal HB HBn HV0 HK0
  have HB := Lib.hid HBm.out
  have HV0 := Lib.hid HV0n.out
  have HK0 := Lib.hid HK0n.out
  have HV1 := Lib.hid HV1n.out
  have HK1 := Lib.hid HK1n.out
  clear HBm HV0n HK0n HV1n HK1n
  go_wp2_with fail
  go_at_call 13
  refine (textGo_any s _ (HV.out.below HB.out) (four f) (HS.out.below HB.out).four).mono ?_
  rintro e w4 ⟨v, er, rfl, hb, ht⟩
  obtain ⟨rfl, hv⟩ := HXG.out _ _ _ _ ht
  obtain ⟨d1, d2, d3, d4, d5, d6, d7, d8, d9, da, db, dc, dd, de, df, dg, dh, di, dj, dk, rfl⟩ := GoalV.sh _ _ _ _ _ hv
  have HBn := Lib.hid (HB.out.trans (hb.mono HB.out.size))
  have hal : Below w4.heap.size w4 (w4.alloc (.cells #[.int .i64 d1, .int .i64 d2, .string d3, .int .i64 d4, .slice d5 d6 d7, .int .i64 d8, .string d9, .int .i64 da, .slice db dc dd, .string de, .slice df dg dh, .slice di dj dk] 42)) := (Below.refl _ _).alloc (Nat.le_refl _) _
  have HBm := Lib.hid (HBn.out.alloc HBn.out.size (.cells #[.int .i64 d1, .int .i64 d2, .string d3, .int .i64 d4, .slice d5 d6 d7, .int .i64 d8, .string d9, .int .i64 da, .slice db dc dd, .string de, .slice df dg dh, .slice di dj dk] 42))
  have HV0n := Lib.hid (v_below (TermV.stable 66) (TermV.wide 66) (v_below (TermV.stable 66) (TermV.wide 66) HV0.out hb) hal)
  have HK0n := Lib.hid (b_below (b_below HK0.out hb) hal)
  have HV1n := Lib.hid (v_below (TermV.stable 66) (TermV.wide 66) (v_below (TermV.stable 66) (TermV.wide 66) HV1.out hb) hal)
  have HK1n := Lib.hid (b_below (b_below HK1.out hb) hal)
  have HV2n := Lib.hid (v_below (GoalV.stable 134) (GoalV.wide 134) hv hal)
  have HK2n := Lib.hid (heap_alloc_new w4 (.cells #[.int .i64 d1, .int .i64 d2, .string d3, .int .i64 d4, .slice d5 d6 d7, .int .i64 d8, .string d9, .int .i64 da, .slice db dc dd, .string de, .slice df dg dh, .slice di dj dk] 42))
  clear hb ht hv hal HB HBn HV0 HK0 HV1 HK1
  have HB := Lib.hid HBm.out
  have HV0 := Lib.hid HV0n.out
  have HK0 := Lib.hid HK0n.out
  have HV1 := Lib.hid HV1n.out
  have HK1 := Lib.hid HK1n.out
  have HV2 := Lib.hid HV2n.out
  have HK2 := Lib.hid HK2n.out
  clear HBm HV0n HK0n HV1n HK1n HV2n HK2n
  go_wp2_with fail
  go_at_call 14
  refine (refGoal_any s _).mono ?_
  rintro e w5 ⟨v, er, rfl, hb, ht⟩
  obtain ⟨rfl, hv⟩ := HQG.out _ _ _ _ ht
  obtain ⟨e1, e2, e3, e4, e5, e6, e7, e8, e9, ea, eb, ec, ed, ee, ef, eg, eh, ei, ej, ek, rfl⟩ := GoalV.sh _ _ _ _ _ hv
  have HBn := Lib.hid (HB.out.trans (hb.mono HB.out.size))
  have hal : Below w5.heap.size w5 (w5.alloc (.cells #[.int .i64 e1, .int .i64 e2, .string e3, .int .i64 e4, .slice e5 e6 e7, .int .i64 e8, .string e9, .int .i64 ea, .slice eb ec ed, .string ee, .slice ef eg eh, .slice ei ej ek] 42)) := (Below.refl _ _).alloc (Nat.le_refl _) _
  have HBm := Lib.hid (HBn.out.alloc HBn.out.size (.cells #[.int .i64 e1, .int .i64 e2, .string e3, .int .i64 e4, .slice e5 e6 e7, .int .i64 e8, .string e9, .int .i64 ea, .slice eb ec ed, .string ee, .slice ef eg eh, .slice ei ej ek] 42))
  have HV0n := Lib.hid (v_below (TermV.stable 66) (TermV.wide 66) (v_below (TermV.stable 66) (TermV.wide 66) HV0.out hb) hal)
  have HK0n := Lib.hid (b_below (b_below HK0.out hb) hal)
  have HV1n := Lib.hid (v_below (TermV.stable 66) (TermV.wide 66) (v_below (TermV.stable 66) (TermV.wide 66) HV1.out hb) hal)
  have HK1n := Lib.hid (b_below (b_below HK1.out hb) hal)
  have HV2n := Lib.hid (v_below (GoalV.stable 134) (GoalV.wide 134) (v_below (GoalV.stable 134) (GoalV.wide 134) HV2.out hb) hal)
  have HK2n := Lib.hid (b_below (b_below HK2.out hb) hal)
  have HV3n := Lib.hid (v_below (GoalV.stable 134) (GoalV.wide 134) hv hal)
  have HK3n := Lib.hid (heap_alloc_new w5 (.cells #[.int .i64 e1, .int .i64 e2, .string e3, .int .i64 e4, .slice e5 e6 e7, .int .i64 e8, .string e9, .int .i64 ea, .slice eb ec ed, .string ee, .slice ef eg eh, .slice ei ej ek] 42))
  clear hb ht hv hal HB HBn HV0 HK0 HV1 HK1 HV2 HK2
  have HB := Lib.hid HBm.out
  have HV0 := Lib.hid HV0n.out
  have HK0 := Lib.hid HK0n.out
  have HV1 := Lib.hid HV1n.out
  have HK1 := Lib.hid HK1n.out
  have HV2 := Lib.hid HV2n.out
  have HK2 := Lib.hid HK2n.out
  have HV3 := Lib.hid HV3n.out
  have HK3 := Lib.hid HK3n.out
  clear HBm HV0n HK0n HV1n HK1n HV2n HK2n HV3n HK3n
  go_wp2_with fail
  go_at_call 15
  refine (textTy_any s _ (HV.out.below HB.out) (four f) (HS.out.below HB.out).four).mono ?_
  rintro e w6 ⟨v, er, rfl, hb, ht⟩
  obtain ⟨rfl, hv⟩ := HXY.out _ _ _ _ ht
  obtain ⟨h1, h2, h3, h4, h5, rfl⟩ := TypeV.sh _ _ _ _ _ hv
  have HBn := Lib.hid (HB.out.trans (hb.mono HB.out.size))
  have hal : Below w6.heap.size w6 (w6.alloc (.cells #[.bool h1, .string h2, .slice h3 h4 h5] 49)) := (Below.refl _ _).alloc (Nat.le_refl _) _
  have HBm := Lib.hid (HBn.out.alloc HBn.out.size (.cells #[.bool h1, .string h2, .slice h3 h4 h5] 49))
  have HV0n := Lib.hid (v_below (TermV.stable 66) (TermV.wide 66) (v_below (TermV.stable 66) (TermV.wide 66) HV0.out hb) hal)
  have HK0n := Lib.hid (b_below (b_below HK0.out hb) hal)
  have HV1n := Lib.hid (v_below (TermV.stable 66) (TermV.wide 66) (v_below (TermV.stable 66) (TermV.wide 66) HV1.out hb) hal)
  have HK1n := Lib.hid (b_below (b_below HK1.out hb) hal)
  have HV2n := Lib.hid (v_below (GoalV.stable 134) (GoalV.wide 134) (v_below (GoalV.stable 134) (GoalV.wide 134) HV2.out hb) hal)
  have HK2n := Lib.hid (b_below (b_below HK2.out hb) hal)
  have HV3n := Lib.hid (v_below (GoalV.stable 134) (GoalV.wide 134) (v_below (GoalV.stable 134) (GoalV.wide 134) HV3.out hb) hal)
  have HK3n := Lib.hid (b_below (b_below HK3.out hb) hal)
  have HV4n := Lib.hid (v_below (TypeV.stable 66) (TypeV.wide 66) hv hal)
  have HK4n := Lib.hid (heap_alloc_new w6 (.cells #[.bool h1, .string h2, .slice h3 h4 h5] 49))
  clear hb ht hv hal HB HBn HV0 HK0 HV1 HK1 HV2 HK2 HV3 HK3
  have HB := Lib.hid HBm.out
  have HV0 := Lib.hid HV0n.out
  have HK0 := Lib.hid HK0n.out
  have HV1 := Lib.hid HV1n.out
  have HK1 := Lib.hid HK1n.out
  have HV2 := Lib.hid HV2n.out
  have HK2 := Lib.hid HK2n.out
  have HV3 := Lib.hid HV3n.out
  have HK3 := Lib.hid HK3n.out
  have HV4 := Lib.hid HV4n.out
  have HK4 := Lib.hid HK4n.out
  clear HBm HV0n HK0n HV1n HK1n HV2n HK2n HV3n HK3n HV4n HK4n
  go_wp2_with fail
  go_at_call 16
  refine (refType_any s _).mono ?_
  rintro e w7 ⟨v, er, rfl, hb, ht⟩
  obtain ⟨rfl, hv⟩ := HQY.out _ _ _ _ ht
  obtain ⟨m1, m2, m3, m4, m5, rfl⟩ := TypeV.sh _ _ _ _ _ hv
  have HBn := Lib.hid (HB.out.trans (hb.mono HB.out.size))
  have hal : Below w7.heap.size w7 (w7.alloc (.cells #[.bool m1, .string m2, .slice m3 m4 m5] 49)) := (Below.refl _ _).alloc (Nat.le_refl _) _
  have HBm := Lib.hid (HBn.out.alloc HBn.out.size (.cells #[.bool m1, .string m2, .slice m3 m4 m5] 49))
  have HV0n := Lib.hid (v_below (TermV.stable 66) (TermV.wide 66) (v_below (TermV.stable 66) (TermV.wide 66) HV0.out hb) hal)
  have HK0n := Lib.hid (b_below (b_below HK0.out hb) hal)
  have HV1n := Lib.hid (v_below (TermV.stable 66) (TermV.wide 66) (v_below (TermV.stable 66) (TermV.wide 66) HV1.out hb) hal)
  have HK1n := Lib.hid (b_below (b_below HK1.out hb) hal)
  have HV2n := Lib.hid (v_below (GoalV.stable 134) (GoalV.wide 134) (v_below (GoalV.stable 134) (GoalV.wide 134) HV2.out hb) hal)
  have HK2n := Lib.hid (b_below (b_below HK2.out hb) hal)
  have HV3n := Lib.hid (v_below (GoalV.stable 134) (GoalV.wide 134) (v_below (GoalV.stable 134) (GoalV.wide 134) HV3.out hb) hal)
  have HK3n := Lib.hid (b_below (b_below HK3.out hb) hal)
  have HV4n := Lib.hid (v_below (TypeV.stable 66) (TypeV.wide 66) (v_below (TypeV.stable 66) (TypeV.wide 66) HV4.out hb) hal)
  have HK4n := Lib.hid (b_below (b_below HK4.out hb) hal)
  have HV5n := Lib.hid (v_below (TypeV.stable 66) (TypeV.wide 66) hv hal)
  have HK5n := Lib.hid (heap_alloc_new w7 (.cells #[.bool m1, .string m2, .slice m3 m4 m5] 49))
  clear hb ht hv hal HB HBn HV0 HK0 HV1 HK1 HV2 HK2 HV3 HK3 HV4 HK4
  have HB := Lib.hid HBm.out
  have HV0 := Lib.hid HV0n.out
  have HK0 := Lib.hid HK0n.out
  have HV1 := Lib.hid HV1n.out
  have HK1 := Lib.hid HK1n.out
  have HV2 := Lib.hid HV2n.out
  have HK2 := Lib.hid HK2n.out
  have HV3 := Lib.hid HV3n.out
  have HK3 := Lib.hid HK3n.out
  have HV4 := Lib.hid HV4n.out
  have HK4 := Lib.hid HK4n.out
  have HV5 := Lib.hid HV5n.out
  have HK5 := Lib.hid HK5n.out
  clear HBm HV0n HK0n HV1n HK1n HV2n HK2n HV3n HK3n HV4n HK4n HV5n HK5n
  have c0_0 := (Lib.cell_of_heap HK0.out 0).trans rfl
  have c0_1 := (Lib.cell_of_heap HK0.out 1).trans rfl
  have c0_2 := (Lib.cell_of_heap HK0.out 2).trans rfl
  have c0_3 := (Lib.cell_of_heap HK0.out 3).trans rfl
  have c1_0 := (Lib.cell_of_heap HK1.out 0).trans rfl
  have c1_1 := (Lib.cell_of_heap HK1.out 1).trans rfl
  have c1_2 := (Lib.cell_of_heap HK1.out 2).trans rfl
  have c1_3 := (Lib.cell_of_heap HK1.out 3).trans rfl
  go_wp2_with fail
  go_at_call 17
  refine (sameTerm_any 66 xT _ _ _ _ _ _ _ HV0.out HV1.out (Nat.le_refl _) (Nat.le_refl _)).mono ?_
  rintro e w20 ⟨rfl, hb⟩
  clear c0_0 c0_1 c0_2 c0_3 c1_0 c1_1 c1_2 c1_3
  have HBn := Lib.hid (HB.out.trans (hb.mono HB.out.size))
  have HV2n := Lib.hid (v_below (GoalV.stable 134) (GoalV.wide 134) HV2.out hb)
  have HK2n := Lib.hid (b_below HK2.out hb)
  have HV3n := Lib.hid (v_below (GoalV.stable 134) (GoalV.wide 134) HV3.out hb)
  have HK3n := Lib.hid (b_below HK3.out hb)
  have HV4n := Lib.hid (v_below (TypeV.stable 66) (TypeV.wide 66) HV4.out hb)
  have HK4n := Lib.hid (b_below HK4.out hb)
  have HV5n := Lib.hid (v_below (TypeV.stable 66) (TypeV.wide 66) HV5.out hb)
  have HK5n := Lib.hid (b_below HK5.out hb)
  clear hb HB HV2 HK2 HV3 HK3 HV4 HK4 HV5 HK5
  have HB := Lib.hid HBn.out
  have HV2 := Lib.hid HV2n.out
  have HK2 := Lib.hid HK2n.out
  have HV3 := Lib.hid HV3n.out
  have HK3 := Lib.hid HK3n.out
  have HV4 := Lib.hid HV4n.out
  have HK4 := Lib.hid HK4n.out
  have HV5 := Lib.hid HV5n.out
  have HK5 := Lib.hid HK5n.out
  clear HBn HV2n HK2n HV3n HK3n HV4n HK4n HV5n HK5n
  go_wp2_with fail
  go_at_call 10
  refine (HNT.out _ (HS.out.below HB.out)).mono ?_
  rintro e w21 ⟨rfl, hb⟩
  have HBn := Lib.hid (HB.out.trans (hb.mono HB.out.size))
  have HV2n := Lib.hid (v_below (GoalV.stable 134) (GoalV.wide 134) HV2.out hb)
  have HK2n := Lib.hid (b_below HK2.out hb)
  have HV3n := Lib.hid (v_below (GoalV.stable 134) (GoalV.wide 134) HV3.out hb)
  have HK3n := Lib.hid (b_below HK3.out hb)
  have HV4n := Lib.hid (v_below (TypeV.stable 66) (TypeV.wide 66) HV4.out hb)
  have HK4n := Lib.hid (b_below HK4.out hb)
  have HV5n := Lib.hid (v_below (TypeV.stable 66) (TypeV.wide 66) HV5.out hb)
  have HK5n := Lib.hid (b_below HK5.out hb)
  clear hb HB HV2 HK2 HV3 HK3 HV4 HK4 HV5 HK5
  have HB := Lib.hid HBn.out
  have HV2 := Lib.hid HV2n.out
  have HK2 := Lib.hid HK2n.out
  have HV3 := Lib.hid HV3n.out
  have HK3 := Lib.hid HK3n.out
  have HV4 := Lib.hid HV4n.out
  have HK4 := Lib.hid HK4n.out
  have HV5 := Lib.hid HV5n.out
  have HK5 := Lib.hid HK5n.out
  clear HBn HV2n HK2n HV3n HK3n HV4n HK4n HV5n HK5n
  have c2_0 := (Lib.cell_of_heap HK2.out 0).trans rfl
  have c2_1 := (Lib.cell_of_heap HK2.out 1).trans rfl
  have c2_2 := (Lib.cell_of_heap HK2.out 2).trans rfl
  have c2_3 := (Lib.cell_of_heap HK2.out 3).trans rfl
  have c2_4 := (Lib.cell_of_heap HK2.out 4).trans rfl
  have c2_5 := (Lib.cell_of_heap HK2.out 5).trans rfl
  have c2_6 := (Lib.cell_of_heap HK2.out 6).trans rfl
  have c2_7 := (Lib.cell_of_heap HK2.out 7).trans rfl
  have c2_8 := (Lib.cell_of_heap HK2.out 8).trans rfl
  have c2_9 := (Lib.cell_of_heap HK2.out 9).trans rfl
  have c2_10 := (Lib.cell_of_heap HK2.out 10).trans rfl
  have c2_11 := (Lib.cell_of_heap HK2.out 11).trans rfl
  have c3_0 := (Lib.cell_of_heap HK3.out 0).trans rfl
  have c3_1 := (Lib.cell_of_heap HK3.out 1).trans rfl
  have c3_2 := (Lib.cell_of_heap HK3.out 2).trans rfl
  have c3_3 := (Lib.cell_of_heap HK3.out 3).trans rfl
  have c3_4 := (Lib.cell_of_heap HK3.out 4).trans rfl
  have c3_5 := (Lib.cell_of_heap HK3.out 5).trans rfl
  have c3_6 := (Lib.cell_of_heap HK3.out 6).trans rfl
  have c3_7 := (Lib.cell_of_heap HK3.out 7).trans rfl
  have c3_8 := (Lib.cell_of_heap HK3.out 8).trans rfl
  have c3_9 := (Lib.cell_of_heap HK3.out 9).trans rfl
  have c3_10 := (Lib.cell_of_heap HK3.out 10).trans rfl
  have c3_11 := (Lib.cell_of_heap HK3.out 11).trans rfl
  go_wp2_with fail
  go_at_call 18
  refine (sameGoal_any 134 xG _ _ _ _ _ _ _ HV2.out HV3.out (Nat.le_refl _) (Nat.le_refl _)).mono ?_
  rintro e w22 ⟨rfl, hb⟩
  clear c2_0 c2_1 c2_2 c2_3 c2_4 c2_5 c2_6 c2_7 c2_8 c2_9 c2_10 c2_11 c3_0 c3_1 c3_2 c3_3 c3_4 c3_5 c3_6 c3_7 c3_8 c3_9 c3_10 c3_11
  have HBn := Lib.hid (HB.out.trans (hb.mono HB.out.size))
  have HV4n := Lib.hid (v_below (TypeV.stable 66) (TypeV.wide 66) HV4.out hb)
  have HK4n := Lib.hid (b_below HK4.out hb)
  have HV5n := Lib.hid (v_below (TypeV.stable 66) (TypeV.wide 66) HV5.out hb)
  have HK5n := Lib.hid (b_below HK5.out hb)
  clear hb HB HV4 HK4 HV5 HK5
  have HB := Lib.hid HBn.out
  have HV4 := Lib.hid HV4n.out
  have HK4 := Lib.hid HK4n.out
  have HV5 := Lib.hid HV5n.out
  have HK5 := Lib.hid HK5n.out
  clear HBn HV4n HK4n HV5n HK5n
  go_wp2_with fail
  go_at_call 10
  refine (HNG.out _ (HS.out.below HB.out)).mono ?_
  rintro e w23 ⟨rfl, hb⟩
  have HBn := Lib.hid (HB.out.trans (hb.mono HB.out.size))
  have HV4n := Lib.hid (v_below (TypeV.stable 66) (TypeV.wide 66) HV4.out hb)
  have HK4n := Lib.hid (b_below HK4.out hb)
  have HV5n := Lib.hid (v_below (TypeV.stable 66) (TypeV.wide 66) HV5.out hb)
  have HK5n := Lib.hid (b_below HK5.out hb)
  clear hb HB HV4 HK4 HV5 HK5
  have HB := Lib.hid HBn.out
  have HV4 := Lib.hid HV4n.out
  have HK4 := Lib.hid HK4n.out
  have HV5 := Lib.hid HV5n.out
  have HK5 := Lib.hid HK5n.out
  clear HBn HV4n HK4n HV5n HK5n
  have c4_0 := (Lib.cell_of_heap HK4.out 0).trans rfl
  have c4_1 := (Lib.cell_of_heap HK4.out 1).trans rfl
  have c4_2 := (Lib.cell_of_heap HK4.out 2).trans rfl
  have c5_0 := (Lib.cell_of_heap HK5.out 0).trans rfl
  have c5_1 := (Lib.cell_of_heap HK5.out 1).trans rfl
  have c5_2 := (Lib.cell_of_heap HK5.out 2).trans rfl
  go_wp2_with fail
  go_at_call 19
  refine (sameType_any 66 xY _ _ _ _ _ _ _ HV4.out HV5.out (Nat.le_refl _) (Nat.le_refl _)).mono ?_
  rintro e w24 ⟨rfl, hb⟩
  clear c4_0 c4_1 c4_2 c5_0 c5_1 c5_2
  have HBn := Lib.hid (HB.out.trans (hb.mono HB.out.size))
  clear hb HB
  have HB := Lib.hid HBn.out
  clear HBn
  go_wp2_with fail
  go_at_call 10
  refine (HNY.out _ (HS.out.below HB.out)).mono ?_
  rintro e w25 ⟨rfl, hb⟩
  have HBn := Lib.hid (HB.out.trans (hb.mono HB.out.size))
  clear hb HB
  have HB := Lib.hid HBn.out
  clear HBn
  go_wp2_with fail
  go_ret
  exact ⟨rfl, HB.out⟩

end Lx
end Go.Proofs.YtnahhlhkbfdlhaaGreatDoor
