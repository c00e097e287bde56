/- The program: Decode. Conditions: the error variable holds its error. -/
import Derived.Test.YtnpacamcgifabaaDoorDs
import Derived.Test.YtnpacamcgifabaaDoorDg
import Derived.BigQuiet
namespace Go.Proofs.YtnpacamcgifabaaDoor
set_option linter.unusedSimpArgs false
set_option linter.unusedVariables false
namespace Lx
open Go Go.RowKit
def ErrY (a:Addr) (w:World):Prop:=w.cell? ⟨2,0,none⟩=some (.iface 163 (.pointer (some a)))
theorem ErrY.stay {a:Addr} {w w':World} (h:ErrY a w) (hb:Below w.heap.size w w'):ErrY a w':=(World.cell?_of_block (hb.block _ (World.block_lt_of_cell? _ _ h))).trans h
theorem he_stay {R:Nat} {a:Addr} {w w':World} (h:ErrY a w) (hk:Kb (fun j=>j=R) w w') (hR:2 ≠ R) {w2:World} (hb:Below w'.heap.size w' w2):ErrY a w2:=ErrY.stay ((World.cell?_of_block (hk.block _ (World.block_lt_of_cell? _ _ h) hR)).trans h) hb
def zeroD:Value:=.agg #[.bool false,.int .i64 0,.string ⟨#[]⟩,.slice none 0 0]
/-- What Decode gives. -/
def DcdP (a:Addr) (l:List UInt8) (w:World):Ending→World→Prop:=fun e w'=>Below w.heap.size w w' ∧
 ((∃ x m v,dec 200 0 l=some (x,[],m)∧e=.returned (.tuple #[v,.nilIface])∧DaE (fun j=>j < w.heap.size) x v w') ∨
  ((¬ ∃ x m,dec 200 0 l=some (x,[],m))∧e=.returned (.tuple #[zeroD,errV a])))
set_option maxRecDepth 100000 in
set_option maxHeartbeats 8000000 in
theorem decode_any (ad:Addr) (Vol:Nat→Prop) (l:List UInt8) (v:Value) (w:World) (hv:RowW 1 ByH Vol l v w) (he:ErrY ad w) :
  Calls Tryd.prog 38 #[v] w (DcdP ad l w):=by
 obtain ⟨A,c,rfl⟩:=hv.slice
 have hv:RowW 1 ByH (fun j=>w.heap.size≤j) l (.slice A l.length c) w:=by
  obtain ⟨A',c',e,h1,h2,h3⟩:=hv
  exact ⟨A',c',e,h1,h2,fun i hi=>by
   obtain ⟨b,off,vi,e1,e2,_,e4,e5⟩:=h3 i hi
   exact ⟨b,off,vi,e1,e2,by omega,e4,e5⟩⟩
 have hb1:=below_alloc w (.cells #[.bool false,.int .i64 0,.string ⟨#[]⟩,.slice none 0 0] 68)
 have hb2:=below_alloc (w.alloc (.cells #[.bool false,.int .i64 0,.string ⟨#[]⟩,.slice none 0 0] 68)) (.cells #[.slice A l.length c,.int .i64 0,.bool false] 114)
 have hbb:=hb1.trans (hb2.mono hb1.size)
 have hn:=(hb2.block w.heap.size (by simp)).trans (heap_alloc_new w (.cells #[.bool false,.int .i64 0,.string ⟨#[]⟩,.slice none 0 0] 68))
 have hr:=heap_alloc_new (w.alloc (.cells #[.bool false,.int .i64 0,.string ⟨#[]⟩,.slice none 0 0] 68)) (.cells #[.slice A l.length c,.int .i64 0,.bool false] 114)
 rw [show (w.alloc (.cells #[.bool false,.int .i64 0,.string ⟨#[]⟩,.slice none 0 0] 68)).heap.size=w.heap.size+1 by simp] at hr
 have hrd:RdS w.heap.size (w.heap.size+1) l (.slice A l.length c) ((0:Nat):Int) false ((w.alloc (.cells #[.bool false,.int .i64 0,.string ⟨#[]⟩,.slice none 0 0] 68)).alloc (.cells #[.slice A l.length c,.int .i64 0,.bool false] 114)) :=
  ⟨hr,(RowW.step ByH.step).below hv hbb,by omega⟩
 have HN:=Lib.hid hn
 have HBB:=Lib.hid hbb
 have HE:=Lib.hid (he.stay hbb)
 have HGN:Hid (2 < w.heap.size):=Lib.hid (World.block_lt_of_cell? _ _ he)
 have HGL:Hid (2 ≠ w.heap.size+1):=Lib.hid (by have:2 < w.heap.size:=World.block_lt_of_cell? _ _ he;omega)
 have hcall:=data_any 200 w.heap.size (w.heap.size+1) 0 1 l _ _ hrd (by omega) (by omega)
 rw [show ((1:Nat):Int)=1 from rfl] at hcall
 have HC:=Lib.hid hcall
 clear hv hb1 hb2 hbb hn hr hrd he hcall
 go_enter Tryd.func38,Tryd.ntmps38
 go_wp2_with fail
 generalize ((w.alloc (.cells #[.bool false,.int .i64 0,.string ⟨#[]⟩,.slice none 0 0] 68)).alloc (.cells #[.slice A l.length c,.int .i64 0,.bool false] 114))=W at HN HBB HE HC ⊢
 try go_at_call 72
 refine HC.out.mono ?_
 rintro e W1 ⟨hk,⟨hnone,⟨cc,zz,ss,A2,m2,q2,rfl⟩,n',rv,hrd⟩ | ⟨x,r,n',v',rv,hsome,rfl,hda,hrd,hn'⟩⟩
 ·have hb3:Below w.heap.size w W1:=HBB.out.trans (hk.below HBB.out.size (fun j e=>by omega))
  have hb4:=below_alloc W1 (.cells #[.bool cc,.int .i64 zz,.string ss,.slice A2 m2 q2] 68)
  have hn1:=(hk.block w.heap.size (Array.getElem?_eq_some_iff.1 HN.out).1 (by omega)).trans HN.out
  have HN1:=Lib.hid ((hb4.block w.heap.size (Array.getElem?_eq_some_iff.1 hn1).1).trans hn1)
  have HB4:=Lib.hid (hb3.trans (hb4.mono hb3.size))
  have HR4:=Lib.hid (hrd.below hb4)
  have HE4:=Lib.hid (he_stay HE.out hk HGL.out hb4)
  have HX4:=Lib.hid (heap_alloc_new W1 (.cells #[.bool cc,.int .i64 zz,.string ss,.slice A2 m2 q2] 68))
  have HNO:=Lib.hid hnone
  clear hk hb3 hb4 hn1 hrd hnone
  have b2:=(cellH HR4.out.box 2).trans rfl
  go_upto_region 4 with fail
  clear b2
  generalize (W1.alloc (.cells #[.bool cc,.int .i64 zz,.string ss,.slice A2 m2 q2] 68))=W4 at HN1 HB4 HR4 HE4 HX4 ⊢
  have el:W4.cell? ⟨2,0,none⟩=some (.iface 163 (.pointer (some ad))):=HE4.out
  have hgl:=HGL.out
  have hgn:2 < w.heap.size:=HGN.out
  have e0:=(cellH HN1.out 0).trans rfl
  have e1:=(cellH HN1.out 1).trans rfl
  have e2:=(cellH HN1.out 2).trans rfl
  have e3:=(cellH HN1.out 3).trans rfl
  have g0:=frozenH HN1.out 0
  have g1:=frozenH HN1.out 1
  have g2:=frozenH HN1.out 2
  have g3:=frozenH HN1.out 3
  go_region
  all_goals
   go_wp2_with fail
   have hp4:=put4 (.bool false) (.int .i64 0) (.string ⟨#[]⟩) (.slice none 0 0) HN1.out
   have hk4:=kput4 W4 w.heap.size (.bool false) (.int .i64 0) (.string ⟨#[]⟩) (.slice none 0 0)
   have hbf:=HB4.out.trans (hk4.below HB4.out.size (fun j e=>Nat.le_of_eq e.symm))
   have c0:=(cellH hp4 0).trans rfl
   have c1:=(cellH hp4 1).trans rfl
   have c2:=(cellH hp4 2).trans rfl
   have c3:=(cellH hp4 3).trans rfl
   exact bodyPost_ret (v:=.tuple #[.agg #[.bool false,.int .i64 0,.string ⟨#[]⟩,.slice none 0 0],errV ad]) (by simp [results,Tryd.results38,go_sem,c0,c1,c2,c3,errV]) rfl (by unfold DcdP;exact ⟨below_drw hbf,.inr ⟨(fun ⟨x,m,e⟩=>by rw [HNO.out] at e;cases e),rfl⟩⟩)
 ·obtain ⟨A2,m2,q2,hve⟩:=hda.this
  obtain ⟨cc,hcc⟩:∃ cc,x.ctor=cc:=⟨_,rfl⟩
  obtain ⟨zz,hzz⟩:∃ zz,x.int=zz:=⟨_,rfl⟩
  obtain ⟨ss,hss⟩:∃ ss,x.name=ss:=⟨_,rfl⟩
  rw [hcc,hzz,hss] at hve
  subst hve
  have hb3:Below w.heap.size w W1:=HBB.out.trans (hk.below HBB.out.size (fun j e=>by omega))
  have hb4:=below_alloc W1 (.cells #[.bool cc,.int .i64 zz,.string ss,.slice A2 m2 q2] 68)
  have hn1:=(hk.block w.heap.size (Array.getElem?_eq_some_iff.1 HN.out).1 (by omega)).trans HN.out
  have HN1:=Lib.hid ((hb4.block w.heap.size (Array.getElem?_eq_some_iff.1 hn1).1).trans hn1)
  have HB4:=Lib.hid (hb3.trans (hb4.mono hb3.size))
  have HR4:=Lib.hid (hrd.below hb4)
  have HE4:=Lib.hid (he_stay HE.out hk HGL.out hb4)
  have HX4:=Lib.hid (heap_alloc_new W1 (.cells #[.bool cc,.int .i64 zz,.string ss,.slice A2 m2 q2] 68))
  have HSO:=Lib.hid hsome
  have HDA:=Lib.hid (DaE.step.below hda hb4)
  obtain ⟨Ar,cr,hrv⟩:=hrd.row.slice
  subst hrv
  have HWL:=Lib.hid (HBB.out.size)
  clear hk hb3 hb4 hn1 hrd hsome hda hcc hzz hss hn'
  have b2:=(cellH HR4.out.box 2).trans rfl
  have b0:=(cellH HR4.out.box 0).trans rfl
  by_cases hr0:r.length=0
  ·have hnil:r=[]:=List.eq_nil_of_length_eq_zero hr0
   subst hnil
   have hx:=HX4.out
   have x0:=(cellH hx 0).trans rfl
   have x1:=(cellH hx 1).trans rfl
   have x2:=(cellH hx 2).trans rfl
   have x3:=(cellH hx 3).trans rfl
   clear hx hr0
   have e0:=(cellH HN1.out 0).trans rfl
   have e1:=(cellH HN1.out 1).trans rfl
   have e2:=(cellH HN1.out 2).trans rfl
   have e3:=(cellH HN1.out 3).trans rfl
   have g0:=frozenH HN1.out 0
   have g1:=frozenH HN1.out 1
   have g2:=frozenH HN1.out 2
   have g3:=frozenH HN1.out 3
   go_wp2_with fail
   generalize (W1.alloc (.cells #[.bool cc,.int .i64 zz,.string ss,.slice A2 m2 q2] 68))=W4 at HN1 HB4 HR4 HE4 HX4 HDA ⊢
   have hp4:=put4 (.bool cc) (.int .i64 zz) (.string ss) (.slice A2 m2 q2) HN1.out
   have hk4:=kput4 W4 w.heap.size (.bool cc) (.int .i64 zz) (.string ss) (.slice A2 m2 q2)
   have hbf:=HB4.out.trans (hk4.below HB4.out.size (fun j e=>Nat.le_of_eq e.symm))
   have c0:=(cellH hp4 0).trans rfl
   have c1:=(cellH hp4 1).trans rfl
   have c2:=(cellH hp4 2).trans rfl
   have c3:=(cellH hp4 3).trans rfl
   exact bodyPost_ret (v:=.tuple #[.agg #[.bool cc,.int .i64 zz,.string ss,.slice A2 m2 q2],.nilIface]) (by simp [results,Tryd.results38,go_sem,c0,c1,c2,c3,errV]) rfl (by unfold DcdP;exact ⟨hbf,.inl ⟨x,_,_,HSO.out,rfl,DaE.step _ _ _ _ _ _ HDA.out (hk4.wider (fun j _ e=>by subst e;have:=HWL.out;have:=(Array.getElem?_eq_some_iff.1 HN.out).1;exact this)) (fun j _ e=>by have:=HWL.out;show j < W.heap.size;omega)⟩⟩)
  ·have hd1:decide (0 < r.length)=true:=by simp;omega
   have hd2:decide ((r.length:Int) > 0)=true:=by simp;omega
   have HR0:=Lib.hid hr0
   clear hr0
   go_upto_region 4 with fail
   clear b2 b0 hd1 hd2
   generalize (W1.alloc (.cells #[.bool cc,.int .i64 zz,.string ss,.slice A2 m2 q2] 68))=W4 at HN1 HB4 HR4 HE4 HX4 ⊢
   have el:W4.cell? ⟨2,0,none⟩=some (.iface 163 (.pointer (some ad))):=HE4.out
   have hgl:=HGL.out
   have hgn:2 < w.heap.size:=HGN.out
   have e0:=(cellH HN1.out 0).trans rfl
   have e1:=(cellH HN1.out 1).trans rfl
   have e2:=(cellH HN1.out 2).trans rfl
   have e3:=(cellH HN1.out 3).trans rfl
   have g0:=frozenH HN1.out 0
   have g1:=frozenH HN1.out 1
   have g2:=frozenH HN1.out 2
   have g3:=frozenH HN1.out 3
   go_region
   all_goals
    go_wp2_with fail
    have hp4:=put4 (.bool false) (.int .i64 0) (.string ⟨#[]⟩) (.slice none 0 0) HN1.out
    have hk4:=kput4 W4 w.heap.size (.bool false) (.int .i64 0) (.string ⟨#[]⟩) (.slice none 0 0)
    have hbf:=HB4.out.trans (hk4.below HB4.out.size (fun j e=>Nat.le_of_eq e.symm))
    have c0:=(cellH hp4 0).trans rfl
    have c1:=(cellH hp4 1).trans rfl
    have c2:=(cellH hp4 2).trans rfl
    have c3:=(cellH hp4 3).trans rfl
    exact bodyPost_ret (v:=.tuple #[.agg #[.bool false,.int .i64 0,.string ⟨#[]⟩,.slice none 0 0],errV ad]) (by simp [results,Tryd.results38,go_sem,c0,c1,c2,c3,errV]) rfl (by unfold DcdP;exact ⟨below_drw hbf,.inr ⟨(fun ⟨y,m,e⟩=>by rw [HSO.out] at e;simp only [Option.some.injEq,Prod.mk.injEq] at e;exact HR0.out (by rw [e.2.1];rfl)),rfl⟩⟩)
end Lx
end Go.Proofs.YtnpacamcgifabaaDoor
