/- The contracts of package print's Goal and Type: the form. Conditions: the tables of words stand; at most 2^40 bytes; the terms' numbers are a machine's. -/
import Derived.Test.YtajomoclbpobhaaGreatDoorPrM
namespace Go.Proofs.YtajomoclbpobhaaGreatDoor
set_option linter.unusedSimpArgs false
set_option linter.unusedVariables false
namespace Lx
open Go Go.RowKit
set_option maxRecDepth 100000 in
set_option maxHeartbeats 2000000 in
theorem printGoal_any (d:Nat) (x:GoalT) (v:Value) (lo hi:Nat) (w:World) (h:PEnv w) (hv:GoalV d x v lo hi w) (hok:goalOk x) (hh:hi≤w.heap.size) (hl:(goalF x).length≤1099511627776) (hne:goalF x ≠ []) :
  Calls Tryz.prog 12 #[v] w fun e w'=>e=.returned (.string (bs (goalF x)))∧Below w.heap.size w w':=by
 have HVV:=Lib.hid hv
 obtain ⟨y2,y3,y4,y5,y6,y7,y8,y9,y10,y11,y12,y13,y14,y15,y16,y17,y18,y19,y20,rfl⟩:=GoalV.shape _ _ _ _ _ _ hv
 have hw1:Below w.heap.size w (w.alloc (.cells #[.int .i64 (kindG x),.int .i64 y2,.string y3,.int .i64 y4,.slice y5 y6 y7,.int .i64 y8,.string y9,.int .i64 y10,.slice y11 y12 y13,.string y14,.slice y15 y16 y17,.slice y18 y19 y20] 31)):=(Below.refl _ _).alloc (Nat.le_refl _) _
 have hz1:(w.alloc (.cells #[.int .i64 (kindG x),.int .i64 y2,.string y3,.int .i64 y4,.slice y5 y6 y7,.int .i64 y8,.string y9,.int .i64 y10,.slice y11 y12 y13,.string y14,.slice y15 y16 y17,.slice y18 y19 y20] 31)).heap.size=w.heap.size+1:=by simp
 have hfr:=h.fresh hw1
 rw [hz1] at hfr
 have HFR:=Lib.hid hfr
 have HVX:=Lib.hid (stays (GoalV.stable d) HVV.out (hw1.alloc (by simp) (.cells #[.pointer none,.slice none 0 0] 76)) hh)
 clear h hfr
 go_enter Tryz.func12,Tryz.ntmps12
 go_wp2_with fail
 go_at_call 38
 refine (pgoal_any d w.heap.size _ [] _ _ lo hi _ HFR.out HVX.out hok hh (by simpa using hl)).mono ?_
 rintro e w1 ⟨rfl,hp,hk⟩
 rw [List.nil_append] at hp
 have HP1:=Lib.hid hp
 have HK1:=Lib.hid ((hw1.alloc (by simp) (.cells #[.pointer none,.slice none 0 0] 76)).trans hk.below)
 clear hp hk hw1 hz1
 go_wp2_with fail
 go_at_call 33
 refine (pString_some w.heap.size _ _ w1 HP1.out.isP hne).mono ?_
 rintro e w2 ⟨rfl,hb2⟩
 go_wp2_with fail
 go_ret
 exact ⟨rfl,HK1.out.trans hb2⟩
set_option maxRecDepth 100000 in
set_option maxHeartbeats 2000000 in
theorem printType_any (d:Nat) (x:TypeT) (v:Value) (lo hi:Nat) (w:World) (h:PEnv w) (hv:TypeV d x v lo hi w) (hh:hi≤w.heap.size) (hl:(typeF x).length≤1099511627776) (hne:typeF x ≠ []) :
  Calls Tryz.prog 16 #[v] w fun e w'=>e=.returned (.string (bs (typeF x)))∧Below w.heap.size w w':=by
 have HVV:=Lib.hid hv
 obtain ⟨z1,z2,z3,z4,z5,rfl⟩:=TypeV.this d _ _ _ _ _ hv
 have hw1:Below w.heap.size w (w.alloc (.cells #[.bool z1,.string z2,.slice z3 z4 z5] 35)):=(Below.refl _ _).alloc (Nat.le_refl _) _
 have hz1:(w.alloc (.cells #[.bool z1,.string z2,.slice z3 z4 z5] 35)).heap.size=w.heap.size+1:=by simp
 have hfr:=h.fresh hw1
 rw [hz1] at hfr
 have HFR:=Lib.hid hfr
 have HVX:=Lib.hid (stays (TypeV.stable d) HVV.out (hw1.alloc (by simp) (.cells #[.pointer none,.slice none 0 0] 76)) hh)
 clear h hfr
 go_enter Tryz.func16,Tryz.ntmps16
 go_wp2_with fail
 go_at_call 42
 refine (ptype_any d w.heap.size _ [] _ _ lo hi _ HFR.out HVX.out trivial hh (by simpa using hl)).mono ?_
 rintro e w1 ⟨rfl,hp,hk⟩
 rw [List.nil_append] at hp
 have HP1:=Lib.hid hp
 have HK1:=Lib.hid ((hw1.alloc (by simp) (.cells #[.pointer none,.slice none 0 0] 76)).trans hk.below)
 clear hp hk hw1 hz1
 go_wp2_with fail
 go_at_call 33
 refine (pString_some w.heap.size _ _ w1 HP1.out.isP hne).mono ?_
 rintro e w2 ⟨rfl,hb2⟩
 go_wp2_with fail
 go_ret
 exact ⟨rfl,HK1.out.trans hb2⟩
theorem printTe_any (x:TermT) (v:Value) (lo hi:Nat) (w:World) (h:PEnv w) (hv:TermV 66 x v lo hi w) (hok:termOk x) (hh:hi≤w.heap.size) (hl:(termF x).length≤1099511627776) (hne:termF x ≠ []) :
  Calls Tryz.prog 14 #[v] w fun e w'=>e=.returned (.string (bs (termF x)))∧Below w.heap.size w w':=by
 obtain ⟨k,s,z,l⟩:=x
 exact printTerm_any k s z l v lo hi w 65 h hv hok hh hl hne
end Lx
end Go.Proofs.YtajomoclbpobhaaGreatDoor
