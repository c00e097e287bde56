/- The program: Compare of data, by recursion. Conditions: as each states. -/
import Derived.Test.YtnpacamcgifabaaDoorDk
namespace Go.Proofs.YtnpacamcgifabaaDoor
set_option linter.unusedSimpArgs false
set_option linter.unusedVariables false
namespace Lx
open Go Go.RowKit
theorem lx_zero (b:Int):lx 0 b=b:=if_pos rfl
theorem lx_some {a b:Int} (h:a ≠ 0):lx a b=a:=if_neg h
theorem cmpI_self (a:Int):cmpI a a=0:=by unfold cmpI;rw [if_neg (by omega),if_neg (by omega)]
theorem cmp_ff (n n':Int) (s s':ByteArray) (l l':List DaT):cmpD (.mk false n s l) (.mk false n' s' l')=cmpI n n':=by rw [cmpD,cmpI_self,lx_zero];rfl
theorem cmp_ft (n n':Int) (s s':ByteArray) (l l':List DaT):cmpD (.mk false n s l) (.mk true n' s' l')=-1:=by rw [cmpD];rfl
theorem cmp_tf (n n':Int) (s s':ByteArray) (l l':List DaT):cmpD (.mk true n s l) (.mk false n' s' l')=1:=by rw [cmpD];rfl
theorem cmp_tt (n n':Int) (s s':ByteArray) (l l':List DaT):cmpD (.mk true n s l) (.mk true n' s' l')=lx (cmpS s s') (lx (cmpI l.length l'.length) (cmpDs l l')):=by rw [cmpD,cmpI_self,lx_zero,if_pos rfl]
theorem cmpS_same {s t:ByteArray} (h:s.toList=t.toList):cmpS s t=0:=by
 rcases cmpS_cases s t with ⟨_,_,_,h4⟩ | ⟨h1,_⟩ | ⟨_,_,_,h4⟩
 ·exact absurd h h4
 ·exact h1
 ·exact absurd h h4
theorem cmpS_diff {s t:ByteArray} (h:¬ s.toList=t.toList):cmpS s t ≠ 0:=by
 rcases cmpS_cases s t with ⟨h1,_⟩ | ⟨_,h2⟩ | ⟨h1,_⟩
 ·omega
 ·exact absurd h2 h
 ·omega
theorem cmpI_diff {a b:Int} (h:a ≠ b):cmpI a b ≠ 0:=fun e=>h (cmpI_eq e)
/-- The boxes of two data. -/
structure TwoB (X:Nat) (u0 u1 u2 u3 t0 t1 t2 t3:Value) (w:World):Prop where
 one:w.heap[X]?=some (.cells #[u0,u1,u2,u3] 68 (0,0))
 two:w.heap[X+1]?=some (.cells #[t0,t1,t2,t3] 68 (0,0))
theorem TwoB.made (w:World) (u0 u1 u2 u3 t0 t1 t2 t3:Value):TwoB w.heap.size u0 u1 u2 u3 t0 t1 t2 t3 ((w.alloc (.cells #[u0,u1,u2,u3] 68)).alloc (.cells #[t0,t1,t2,t3] 68)):=by
 have hx2:=heap_alloc_new (w.alloc (.cells #[u0,u1,u2,u3] 68)) (.cells #[t0,t1,t2,t3] 68)
 rw [show (w.alloc (.cells #[u0,u1,u2,u3] 68)).heap.size=w.heap.size+1 by simp] at hx2
 exact ⟨(Below.heap_alloc _ _ w.heap.size (by simp)).trans (heap_alloc_new w _),hx2⟩
theorem TwoB.below {X:Nat} {u0 u1 u2 u3 t0 t1 t2 t3:Value} {w w':World} (h:TwoB X u0 u1 u2 u3 t0 t1 t2 t3 w) (hb:Below w.heap.size w w'):TwoB X u0 u1 u2 u3 t0 t1 t2 t3 w' :=
 ⟨(hb.block X (Array.getElem?_eq_some_iff.1 h.one).1).trans h.one,(hb.block (X+1) (Array.getElem?_eq_some_iff.1 h.two).1).trans h.two⟩
theorem below_two (w:World) (o1 o2:Obj):Below w.heap.size w ((w.alloc o1).alloc o2):=(below_alloc w o1).trans ((below_alloc _ o2).mono (below_alloc w o1).size)
set_option maxRecDepth 100000 in
set_option maxHeartbeats 4000000 in
theorem compare_step (d:Nat) (HC:Hid (CmpC d)):CmpC (d+1):=by
 rintro Vol Vol2 ⟨c,n,s,l⟩ ⟨c2,n2,s2,l2⟩ v1 v2 w ⟨va,rfl,hr⟩ ⟨va2,rfl,hr2⟩
 obtain ⟨A,k,rfl⟩:=hr.slice
 obtain ⟨A2,k2,rfl⟩:=hr2.slice
 have hf1:=hr.few
 have hf2:=hr2.few
 unfold maxLen at hf1 hf2
 have hb:=below_two w (.cells #[.bool c,.int .i64 n,.string s,.slice A l.length k] 68) (.cells #[.bool c2,.int .i64 n2,.string s2,.slice A2 l2.length k2] 68)
 have HB:=Lib.hid hb
 have HR:=Lib.hid ((RowW.step (DaW.step d)).below hr hb)
 have HR2:=Lib.hid ((RowW.step (DaW.step d)).below hr2 hb)
 have HX:=Lib.hid (TwoB.made w (.bool c) (.int .i64 n) (.string s) (.slice A l.length k) (.bool c2) (.int .i64 n2) (.string s2) (.slice A2 l2.length k2))
 clear hb hr hr2
 cases c
 ·cases c2
  ·go_enter Tryd.func44,Tryd.ntmps44
   have x0:=(cellH HX.out.one 0).trans rfl
   have x1:=(cellH HX.out.one 1).trans rfl
   have x2:=(cellH HX.out.one 2).trans rfl
   have x3:=(cellH HX.out.one 3).trans rfl
   have y0:=(cellH HX.out.two 0).trans rfl
   have y1:=(cellH HX.out.two 1).trans rfl
   have y2:=(cellH HX.out.two 2).trans rfl
   have y3:=(cellH HX.out.two 3).trans rfl
   go_wp2_with fail
   try go_at_call 77
   refine (cmp_int n n2 _).mono ?_
   rintro e w3 ⟨rfl,rfl⟩
   go_wp2_with fail
   go_ret
   exact ⟨by rw [cmp_ff];rfl,HB.out⟩
  ·go_enter Tryd.func44,Tryd.ntmps44
   have x0:=(cellH HX.out.one 0).trans rfl
   have x1:=(cellH HX.out.one 1).trans rfl
   have x2:=(cellH HX.out.one 2).trans rfl
   have x3:=(cellH HX.out.one 3).trans rfl
   have y0:=(cellH HX.out.two 0).trans rfl
   have y1:=(cellH HX.out.two 1).trans rfl
   have y2:=(cellH HX.out.two 2).trans rfl
   have y3:=(cellH HX.out.two 3).trans rfl
   go_wp2_with fail
   go_ret
   exact ⟨by rw [cmp_ft];rfl,HB.out⟩
 ·cases c2
  ·go_enter Tryd.func44,Tryd.ntmps44
   have x0:=(cellH HX.out.one 0).trans rfl
   have x1:=(cellH HX.out.one 1).trans rfl
   have x2:=(cellH HX.out.one 2).trans rfl
   have x3:=(cellH HX.out.one 3).trans rfl
   have y0:=(cellH HX.out.two 0).trans rfl
   have y1:=(cellH HX.out.two 1).trans rfl
   have y2:=(cellH HX.out.two 2).trans rfl
   have y3:=(cellH HX.out.two 3).trans rfl
   go_wp2_with fail
   go_ret
   exact ⟨by rw [cmp_tf];rfl,HB.out⟩
  ·by_cases hs:s.toList=s2.toList
   ·have hne:(!(s.toList == s2.toList))=false:=by rw [hs];exact bne_selfS s2
    have HS:=Lib.hid (cmpS_same hs)
    by_cases hl:l.length=l2.length
    ·have hnl:(((l.length:Nat):Int) != ((l2.length:Nat):Int))=false:=by rw [hl];simp
     have HL:=Lib.hid hl
     clear hl hs
     go_enter Tryd.func44,Tryd.ntmps44
     have x0:=(cellH HX.out.one 0).trans rfl
     have x1:=(cellH HX.out.one 1).trans rfl
     have x2:=(cellH HX.out.one 2).trans rfl
     have x3:=(cellH HX.out.one 3).trans rfl
     have y0:=(cellH HX.out.two 0).trans rfl
     have y1:=(cellH HX.out.two 1).trans rfl
     have y2:=(cellH HX.out.two 2).trans rfl
     have y3:=(cellH HX.out.two 3).trans rfl
     go_wp2_with fail
     try go_at_call 79
     refine (cmpf_of d HC Vol Vol2 l l2 _ _ _ HR.out HR2.out HL.out).mono ?_
     rintro e w3 ⟨rfl,hb3⟩
     have HB3:=Lib.hid (HB.out.trans (hb3.mono HB.out.size))
     clear hb3
     go_wp2_with fail
     go_ret
     exact ⟨by rw [cmp_tt,HS.out,lx_zero,HL.out,cmpI_self,lx_zero];rfl,HB3.out⟩
    ·have hnl:(((l.length:Nat):Int) != ((l2.length:Nat):Int))=true:=by simp;omega
     have HL:=Lib.hid hl
     clear hl hs
     go_enter Tryd.func44,Tryd.ntmps44
     have x0:=(cellH HX.out.one 0).trans rfl
     have x1:=(cellH HX.out.one 1).trans rfl
     have x2:=(cellH HX.out.one 2).trans rfl
     have x3:=(cellH HX.out.one 3).trans rfl
     have y0:=(cellH HX.out.two 0).trans rfl
     have y1:=(cellH HX.out.two 1).trans rfl
     have y2:=(cellH HX.out.two 2).trans rfl
     have y3:=(cellH HX.out.two 3).trans rfl
     go_wp2_with fail
     try go_at_call 77
     refine (cmp_int l.length l2.length _).mono ?_
     rintro e w3 ⟨rfl,rfl⟩
     go_wp2_with fail
     go_ret
     exact ⟨by rw [cmp_tt,HS.out,lx_zero,lx_some (cmpI_diff (fun e=>HL.out (by omega)))];rfl,HB.out⟩
   ·have hne:(!(s.toList == s2.toList))=true:=bne_otherS hs
    have HS:=Lib.hid (cmpS_diff hs)
    clear hs
    go_enter Tryd.func44,Tryd.ntmps44
    have x0:=(cellH HX.out.one 0).trans rfl
    have x1:=(cellH HX.out.one 1).trans rfl
    have x2:=(cellH HX.out.one 2).trans rfl
    have x3:=(cellH HX.out.one 3).trans rfl
    have y0:=(cellH HX.out.two 0).trans rfl
    have y1:=(cellH HX.out.two 1).trans rfl
    have y2:=(cellH HX.out.two 2).trans rfl
    have y3:=(cellH HX.out.two 3).trans rfl
    go_wp2_with fail
    try go_at_call 78
    refine (cmp_str s s2 _).mono ?_
    rintro e w3 ⟨rfl,rfl⟩
    go_wp2_with fail
    go_ret
    exact ⟨by rw [cmp_tt,lx_some HS.out];rfl,HB.out⟩
theorem compare_any:∀ d,CmpC d
 | 0=>fun _ _ _ _ _ _ _ h _=>h.elim
 | d+1=>compare_step d (Lib.hid (compare_any d))
end Lx
end Go.Proofs.YtnpacamcgifabaaDoor
