/- The walk of the statement PrintItems: it returns true. Conditions: the error variables and the tables of words hold what they should. -/
import Derived.Test.YtajomoclbpobhaaGreatDoorPrK
namespace Go.Proofs.YtajomoclbpobhaaGreatDoor
set_option linter.unusedSimpArgs false
set_option linter.unusedVariables false
namespace Lx
open Go Go.RowKit
theorem arr_eq' {x y : ByteArray} (h : x.data.toList = y.data.toList) : x = y := by
 cases x; cases y
 simp only [ByteArray.mk.injEq]
 exact Array.toList_inj.1 h
theorem run_add' (x y : ByteArray) (h : x.size + y.size ≤ 9000000000000000000) : ∀ W : World, (Op.stringOp .add x y).run Tryz.prog W = .ok (.string (x ++ y)) W := fun W => run_string_add_sum W _ _ (by show x.size + y.size ≤ _; omega)
theorem bs_app (a b : List UInt8) : bs a ++ bs b = bs (a ++ b) := by
 refine arr_eq' ?_
 simp [bs]
theorem item_end (x : ItemT) : ∃ p, itemF x = p ++ [46, 10] := ⟨_, rfl⟩
theorem sourceF_take_le (l : List ItemT) (k : Nat) : ((l.map itemF).take k).flatten.length ≤ (sourceF l).length := by
 unfold sourceF
 rw [joinF_nil]
 have e : (l.map itemF).flatten = ((l.map itemF).take k).flatten ++ ((l.map itemF).drop k).flatten := by rw [← List.flatten_append, List.take_append_drop]
 rw [e, List.length_append]
 omega
theorem flat_take (l : List ItemT) (k : Nat) (h : k < l.length) : ((l.map itemF).take (k + 1)).flatten = ((l.map itemF).take k).flatten ++ itemF l[k] := by
 rw [List.take_succ_eq_append_getElem (by simpa using h), List.flatten_append, List.flatten_cons, List.flatten_nil, List.append_nil, List.getElem_map]
theorem flat_all (l : List ItemT) : ((l.map itemF).take l.length).flatten = sourceF l := by
 unfold sourceF
 rw [joinF_nil, List.take_of_length_le (by simp)]
set_option maxRecDepth 100000 in
set_option maxHeartbeats 2000000 in
theorem lawItems_any (s : ByteArray) (w : World) (h : PEnv w) (f : Nat → Addr) (h4 : Errs4 w f) :
  Calls Tryz.prog 6 #[.string s] w fun e w' => e = .returned (.bool true) ∧ Below w.heap.size w w' := by
 have HA := Lib.hid (palive_any w h f h4)
 have HW := Lib.hid h
 have HR := Lib.hid (fun w => refSource_any s w)
 have HO := Lib.hid (fun l k (h : textO srcG s = .ok l k) => textO_prints h)
 clear h h4
 go_enter Tryz.func6, Tryz.ntmps6
 go_wp2_with fail
 go_at_call 9
 refine HA.out.mono ?_
 rintro e w1 ⟨rfl, hb1⟩
 have HB1 := Lib.hid hb1
 clear hb1
 go_wp2_with fail
 go_at_call 28
 refine (HR.out _).mono ?_
 rintro e w2 ⟨v, n, rfl, hb2, ht⟩
 have HB2 := Lib.hid (HB1.out.trans (hb2.mono HB1.out.size))
 clear hb2 HR HA
 cases ho : textO srcG s with
 | no i =>
  rw [ho] at ht
  obtain ⟨rfl, rfl⟩ := ht
  have hq : (erN i == 0) = false := by simpa using erN_ne i
  generalize erN i = n at hq ⊢
  go_wp2_with fail
  go_ret
  exact ⟨rfl, HB2.out⟩
 | ok l k0 =>
  rw [ho] at ht
  obtain ⟨rfl, hv⟩ := ht
  obtain ⟨hok, hlen⟩ := HO.out l k0 ho
  have hce : ∀ x v lo hi w, ItemV x v lo hi w → (cellsL v).length = 20 := fun _ _ _ _ _ h => ItemV.cells' h
  have HOK := Lib.hid hok
  have HLE := Lib.hid hlen
  obtain ⟨A, c, rfl, _⟩ := hv.at hce (by decide)
  have hfew := hv.few
  unfold maxLen at hfew
  have HV := Lib.hid hv
  have HW2 := Lib.hid (HW.out.below HB2.out)
  clear hv hok hlen HO ho HB1
  go_wp2_with fail
  go_loopw [5, 20] (fun x i wr => ∃ k : Nat, k ≤ l.length ∧ i = .int .i64 k ∧ x = .string (bs ((l.map itemF).take k).flatten) ∧ Hid (Below w2.heap.size w2 wr)) (fun _ i _ => l.length - (intOf i).toNat)
  case atStart => exact ⟨0, Nat.zero_le _, rfl, rfl, Lib.hid (Below.refl _ _)⟩
  case round =>
   obtain ⟨k, hk, rfl, rfl, HB⟩ := hrel
   by_cases hlt : k < l.length
   ·have r1 := stays (ArgsV.stable _ _ ItemV.stable) HV.out HB.out (Nat.le_refl _)
    obtain ⟨_, _, q1, r1⟩ := r1.at hce (by decide)
    injection q1 with q1 _ qc1
    subst q1
    clear qc1
    obtain ⟨g1, u1, p1, t1, rfl, _, m1, hv1, cc1⟩ := r1 k hlt
    obtain ⟨C1, rfl, hC1, hC2⟩ := itemV_row' hv1
    have hr1 : wr.rangeAt g1 (k * 20) C1.toList := by
     intro j v hv
     have hj : j < 20 := by
      have := (List.getElem?_eq_some_iff.1 hv).1
      simp at this
      omega
     exact (cc1 j hj).trans hv
    have HR1 := Lib.hid hr1
    have HCS : Hid ((Tryz.prog.info? 33).map (·.size) = some C1.toList.length) := Lib.hid (by rw [Array.length_toList, hC1]; exact infoItem)
    have HCT : Hid ((Tryz.prog.info? 33).map (·.size) = some C1.size) := Lib.hid (by rw [hC1]; exact infoItem)
    have HC2 := Lib.hid hC2
    have HTH : Hid ((wr.alloc (.cells #[.int .i64 0, .string ⟨#[]⟩, .slice none 0 0, .slice none 0 0, .slice none 0 0, .slice none 0 0, .int .i64 0, .slice none 0 0, .int .i64 0, .int .i64 0, .string ⟨#[]⟩, .int .i64 0, .slice none 0 0, .int .i64 0, .string ⟨#[]⟩, .int .i64 0, .slice none 0 0, .string ⟨#[]⟩, .slice none 0 0, .slice none 0 0] 33)).there wr.heap.size 0 C1.size) := Lib.hid (by rw [hC1]; exact there_all (heap_alloc_new wr _))
    obtain ⟨hs1, hs2, hs3⟩ := stored (w := wr) (C := C1) (Z := #[.int .i64 0, .string ⟨#[]⟩, .slice none 0 0, .slice none 0 0, .slice none 0 0, .slice none 0 0, .int .i64 0, .slice none 0 0, .int .i64 0, .int .i64 0, .string ⟨#[]⟩, .int .i64 0, .slice none 0 0, .int .i64 0, .string ⟨#[]⟩, .int .i64 0, .slice none 0 0, .string ⟨#[]⟩, .slice none 0 0, .slice none 0 0]) (T := 33) (by rw [hC1]; rfl)
    have HS1 := Lib.hid hs1
    have HS2 := Lib.hid hs2
    have HS3 := Lib.hid hs3
    have HV1 := Lib.hid hv1
    have hk0 : (0 : Int) ≤ (k : Int) := by omega
    have hk1 : (k : Int) < (l.length : Int) := by omega
    have hdc : decide (k < l.length) = true := by simpa using hlt
    have hsz := HB.out.size
    have hz2 : t1 ≤ w2.heap.size := m1
    have hfl := flat_take l k hlt
    have hle := sourceF_take_le l (k + 1)
    have hle2 := HLE.out
    rw [hfl, List.length_append] at hle
    obtain ⟨pp, hpp⟩ := item_end l[k]
    have HFL := Lib.hid hfl
    have HOKk := Lib.hid (HOK.out _ (List.getElem_mem hlt))
    clear cc1 hv1 r1 hC1 hC2 hs1 hs2 hs3 hr1 hfl
    go_upto_region 9 with fail
    refine wp_region_list ?_
    go_step
    go_step
    refine wpList_load_mid rfl 33 (.tmp 22) rfl g1 (k * 20) rfl C1.toList _ HR1.out Tryz.underlying33 rfl HCS.out ?_
    go_step
    go_step
    go_step
    refine wpList_store_mid rfl 33 (.tmp 7) (.tmp 23) rfl wr.heap.size 0 C1 rfl rfl HTH.out HCT.out HC2.out ?_
    clear HTH HR1
    generalize World.setCells _ _ _ _ = X at HS1 HS2 HS3 ⊢
    have HBX := Lib.hid (HB.out.trans (HS2.out.mono HB.out.size))
    have HVX := Lib.hid (stays ItemV.stable HV1.out (HS2.out.mono hsz) hz2)
    clear HS2 HV1 HS3 HB
    go_upto_region 10 with fail
    refine wp_region_list ?_
    refine wpList_load_mid rfl 33 (.tmp 7) rfl wr.heap.size 0 rfl C1.toList _ (range_all HS1.out) Tryz.underlying33 rfl HCS.out ?_
    go_wp2_with fail
    go_at_call 10
    refine (printItem_any l[k] _ p1 t1 _ (HW2.out.below HBX.out) HVX.out HOKk.out (Nat.le_trans hz2 HBX.out.size) (by omega)).mono ?_
    rintro e w3 ⟨rfl, hb3⟩
    have HB3 := Lib.hid (HBX.out.trans (hb3.mono HBX.out.size))
    clear hb3 HS1 HCS HCT HC2 HVX
    have r9 := run_add' (bs ((l.map itemF).take k).flatten) (bs (itemF l[k])) (by rw [bs_size, bs_size]; omega)
    rw [bs_app, ← HFL.out] at r9
    have hx1 : (bs (itemF l[k])).size = pp.length + 2 := by rw [bs_size, hpp]; simp
    have hx2 : ((bs (itemF l[k])).extract pp.length (pp.length + 2)).toList = [46, 10] := by
     rw [ByteArray.toList_eq, hpp]
     simp [bs]
    generalize bs (itemF l[k]) = y at *
    generalize bs ((l.map itemF).take k).flatten = yy at *
    have hx4 : pp.length ≤ 327680000 := by
     have : (itemF l[k]).length = pp.length + 2 := by rw [hpp]; simp
     omega
    clear hpp hle hle2
    generalize pp.length = m at *
    have hx5 : wrap64 (m : Int) = (m : Int) := by unfold wrap64; omega
    have hx6 : decide ((m : Int) + 2 < 2) = false := decide_eq_false (by omega)
    go_wp2_with fail
    go_roundw
    case rel => exact ⟨k + 1, by omega, by go_num, rfl, HB3⟩
    case measure => simp [intOf]; omega
   ·obtain rfl : k = l.length := by omega
    have hdc : decide (l.length < l.length) = false := by simp
    have HP := Lib.hid (printSource_any l _ _ _ wr (HW2.out.below HB.out) (stays (ArgsV.stable _ _ ItemV.stable) HV.out HB.out (Nat.le_refl _)) HOK.out HB.out.size (by have := HLE.out; omega))
    rw [flat_all]
    go_wp2_with fail
    go_at_call 19
    refine HP.out.mono ?_
    rintro e w3 ⟨rfl, hb3⟩
    go_wp2_with fail
    go_ret
    exact ⟨by simp, HB2.out.trans ((HB.out.trans (hb3.mono HB.out.size)).mono HB2.out.size)⟩
end Lx
end Go.Proofs.YtajomoclbpobhaaGreatDoor
