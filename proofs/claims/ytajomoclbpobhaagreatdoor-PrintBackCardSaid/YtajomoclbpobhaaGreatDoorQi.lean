/- The reference printer at a goal in a goal: its form, in brackets where they must be. Conditions: what gives a goal s form gives it; at most 2^40 bytes. -/
import Derived.Test.YtajomoclbpobhaaGreatDoorQaA
import Derived.Test.YtajomoclbpobhaaGreatDoorPrGo
import Derived.Test.YtajomoclbpobhaaGreatDoorPBb
namespace Go.Proofs.YtajomoclbpobhaaGreatDoor
set_option linter.unusedSimpArgs false
set_option linter.unusedVariables false
namespace Lx
open Go Go.RowKit
/-- A goal's form where it stands in a goal of a kind. -/
def innerF (k:Int) (x:GoalT):List UInt8:=if k=6 then conjW (kindG x,goalF x) else if k=5 ∨ k=7 ∨ k=9 then primW (kindG x,goalF x) else goalF x
def innerB (k:Int) (x:GoalT):Bool:=if k=6 then decide (kindG x=6) else if k=5 ∨ k=7 ∨ k=9 then decide (kindG x=6) || decide (kindG x=5) else false
theorem innerF_eq (k:Int) (x:GoalT):innerF k x=if innerB k x=true then parenF (goalF x) else goalF x:=by
 unfold innerF innerB conjW primW
 by_cases h6:k=6
 ·simp [h6]
 ·by_cases h5:k=5 ∨ k=7 ∨ k=9
  ·simp only [h6,h5,if_false,if_true,conjW]
   by_cases a:kindG x=6
   ·have:¬ kindG x=5:=by omega
    simp [a]
   ·by_cases b:kindG x=5
    ·simp [b]
    ·simp [a,b]
  ·simp [h6,h5]
set_option maxRecDepth 100000 in
set_option maxHeartbeats 2000000 in
theorem r3inner (d:Nat) (ok:GoalT→Prop) (IH:Hid (Says 13 (GoalV d) ok goalF)) (k:Int) (x:GoalT) (v:Value) (lo hi:Nat) (w:World) (hv:GoalV d x v lo hi w) (hok:ok x) (hh:hi≤w.heap.size) (hl:(innerF k x).length≤1099511627776) :
  Calls Tryz.prog 39 #[.int .i64 k,v] w fun e w'=>e=.returned (.string (bs (innerF k x)))∧Below w.heap.size w w':=by
 have HVV:=Lib.hid hv
 obtain ⟨y2,y3,y4,y5,y6,y7,y8,y9,y10,y11,y12,y13,y14,y15,y16,y17,y18,y19,y20,rfl⟩:=GoalV.shape _ _ _ _ _ _ hv
 have hbx:Below w.heap.size w (w.alloc (.cells #[.int .i64 (kindG x),.int .i64 y2,.string y3,.int .i64 y4,.slice y5 y6 y7,.int .i64 y8,.string y9,.int .i64 y10,.slice y11 y12 y13,.string y14,.slice y15 y16 y17,.slice y18 y19 y20] 31)):=(Below.refl _ _).alloc (Nat.le_refl _) _
 have HB1:=Lib.hid hbx
 have HV1:=Lib.hid (stays (GoalV.stable d) HVV.out hbx hh)
 have hz1:(w.alloc (.cells #[.int .i64 (kindG x),.int .i64 y2,.string y3,.int .i64 y4,.slice y5 y6 y7,.int .i64 y8,.string y9,.int .i64 y10,.slice y11 y12 y13,.string y14,.slice y15 y16 y17,.slice y18 y19 y20] 31)).heap.size=w.heap.size+1:=by simp
 have HOK:=Lib.hid hok
 have hie:=innerF_eq k x
 have hib:innerB k x=innerB k x:=rfl
 have HK:Hid (innerB k x=if k=6 then decide (kindG x=6) else if k=5 ∨ k=7 ∨ k=9 then decide (kindG x=6) || decide (kindG x=5) else false):=Lib.hid rfl
 generalize innerB k x=br at hie HK
 cases br with
 | true =>
  rw [if_pos rfl] at hie
  rw [hie,paren_len] at hl
  have hpf:parenF (goalF x)=[40]++goalF x++[41]:=by simp [parenF]
  have r1:=r3add [40] (goalF x) (by simp;omega)
  have r2:=r3add ([40]++goalF x) [41] (by simp only [List.length_append,List.length_cons,List.length_nil];omega)
  rw [← hpf,← hie] at r2
  have e1:bs [40]=⟨#[40]⟩:=rfl
  have e2:bs [41]=⟨#[41]⟩:=rfl
  rw [e1] at r1
  rw [e2] at r2
  generalize bs ([40]++goalF x)=z at r1 r2
  have HR1:=Lib.hid r1
  have HR2:=Lib.hid r2
  clear hie hpf r1 r2 e1 e2 hv hbx
  have hcases:(k=6∧kindG x=6) ∨ ((k=5 ∨ k=7 ∨ k=9)∧(kindG x=6 ∨ kindG x=5)):=by
   have:=HK.out
   by_cases h6:k=6
   ·rw [if_pos h6] at this
    exact .inl ⟨h6,by simpa using this.symm⟩
   ·rw [if_neg h6] at this
    by_cases h5:k=5 ∨ k=7 ∨ k=9
    ·rw [if_pos h5] at this
     exact .inr ⟨h5,by simpa using this.symm⟩
    ·rw [if_neg h5] at this
     cases this
  clear HK
  rcases hcases with ⟨rfl,h6⟩ | ⟨rfl | rfl | rfl,h6 | h6⟩
  all_goals
   have hq1:(kindG x == 6)=(decide (kindG x=6)):=by rw [Bool.eq_iff_iff];simp
   have hq2:(kindG x == 5)=(decide (kindG x=5)):=by rw [Bool.eq_iff_iff];simp
   rw [h6] at hq1 hq2
   rw [h6] at HB1 HV1 hz1
   rw [h6]
   clear hq1 hq2
   go_enter Tryz.func39,Tryz.ntmps39
   go_wp2_with fail
   go_at_call 13
   refine (IH.out x _ lo hi _ HV1.out HOK.out (by omega) (by omega)).mono ?_
   rintro e w2 ⟨rfl,hb2⟩
   have HB2:=Lib.hid (HB1.out.trans (hb2.mono HB1.out.size))
   have r1:=HR1.out
   have r2:=HR2.out
   clear hb2
   go_wp2_with fail
   go_ret
   exact ⟨rfl,HB2.out⟩
 | false =>
  rw [if_neg (by simp)] at hie
  rw [hie] at hl ⊢
  clear hie hv hbx
  have hcases:(k=6∧kindG x ≠ 6) ∨ ((k=5 ∨ k=7 ∨ k=9)∧(kindG x ≠ 6∧kindG x ≠ 5)) ∨ (k ≠ 6∧k ≠ 5∧k ≠ 7∧k ≠ 9):=by
   have:=HK.out
   by_cases h6:k=6
   ·rw [if_pos h6] at this
    exact .inl ⟨h6,by simpa using this.symm⟩
   ·rw [if_neg h6] at this
    by_cases h5:k=5 ∨ k=7 ∨ k=9
    ·rw [if_pos h5] at this
     exact .inr (.inl ⟨h5,by simpa using this.symm⟩)
    ·exact .inr (.inr ⟨h6,by omega⟩)
  clear HK
  rcases hcases with ⟨rfl,h6⟩ | ⟨rfl | rfl | rfl,h6,h5⟩ | ⟨h6,h5,h7,h9⟩
  all_goals
   first
    | (have hq1:(kindG x == 6)=false:=by simpa using h6)
    | skip
   first
    | (have hq2:(kindG x == 5)=false:=by simpa using h5)
    | skip
   first
    | (have hq3:(k == 6)=false:=(by simpa using h6);have hq4:(k == 5)=false:=(by simpa using h5);have hq5:(k == 7)=false:=(by simpa using h7);have hq6:(k == 9)=false:=(by simpa using h9))
    | skip
   generalize kindG x=kx at *
   go_enter Tryz.func39,Tryz.ntmps39
   go_wp2_with fail
   go_at_call 13
   refine (IH.out x _ lo hi _ HV1.out HOK.out (by omega) (by omega)).mono ?_
   rintro e w2 ⟨rfl,hb2⟩
   have HB2:=Lib.hid (HB1.out.trans (hb2.mono HB1.out.size))
   clear hb2
   go_wp2_with fail
   go_ret
   exact ⟨rfl,HB2.out⟩
end Lx
end Go.Proofs.YtajomoclbpobhaaGreatDoor
