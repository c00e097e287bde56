/- The reference's Same (of one and the same data) and Decode. Conditions: as each states. -/
import Derived.Test.YtnpacamcgifabaaDoorEd
import Derived.Test.YtnpacamcgifabaaDoorDm
import Derived.Test.YtnpacamcgifabaaDoorDc
namespace Go.Proofs.YtnpacamcgifabaaDoor
set_option linter.unusedSimpArgs false
set_option linter.unusedVariables false
namespace Lx
open Go Go.RowKit
set_option maxRecDepth 100000 in
set_option maxHeartbeats 4000000 in
theorem same_self (d:Nat) (Vol Vol2:Nat→Prop) (x:DaT) (v1 v2:Value) (w:World) (h1:DaW d Vol x v1 w) (h2:DaW d Vol2 x v2 w) :
  Calls Tryd.prog 40 #[v1,v2] w fun e w'=>e=.returned (.bool true)∧Below w.heap.size w w':=by
 obtain ⟨A,n,c,rfl⟩:=h1.this
 obtain ⟨A2,n2,c2,rfl⟩:=h2.this
 have HH1:=Lib.hid h1
 have HH2:=Lib.hid h2
 clear h1 h2
 generalize hcc:x.ctor=cc at HH1 HH2
 generalize hzz:x.int=zz at HH1 HH2
 generalize hss:x.name=ss at HH1 HH2
 clear hcc hzz hss
 go_enter Tryd.func40,Tryd.ntmps40
 go_wp2_with fail
 try go_at_call 45
 have hb:=(below_alloc w (.cells #[.bool cc,.int .i64 zz,.string ss,.slice A n c] 68)).trans ((below_alloc (w.alloc (.cells #[.bool cc,.int .i64 zz,.string ss,.slice A n c] 68)) (.cells #[.bool cc,.int .i64 zz,.string ss,.slice A2 n2 c2] 68)).mono (by simp))
 have hcall:=rcompare_any d Vol Vol2 x x _ _ ((w.alloc (.cells #[.bool cc,.int .i64 zz,.string ss,.slice A n c] 68)).alloc (.cells #[.bool cc,.int .i64 zz,.string ss,.slice A2 n2 c2] 68)) (DaW.step d _ _ _ _ _ _ HH1.out (Kb.of_below hb) (fun _ _ e=>e)) (DaW.step d _ _ _ _ _ _ HH2.out (Kb.of_below hb) (fun _ _ e=>e))
 rw [cmpD_self] at hcall
 have HB:=Lib.hid hb
 clear hb
 with_reducible refine hcall.mono ?_
 rintro e w2 ⟨rfl,hb2⟩
 have HB2:=Lib.hid hb2
 clear hb2 hcall
 go_wp2_with fail
 go_ret
 exact ⟨rfl,HB.out.trans (HB2.out.mono HB.out.size)⟩
/-- What the reference's Decode leaves. -/
def RDecP (l:List UInt8) (w:World):Ending→World→Prop:=fun e w'=>Below w.heap.size w w' ∧
 ((∃ x v,getP 200 l=some (x,[])∧goodD x=true∧e=.returned (.tuple #[v,.bool true])∧DaE (fun j=>j < w.heap.size) x v w') ∨
  ((¬ ∃ x,getP 200 l=some (x,[])∧goodD x=true)∧e=.returned (.tuple #[zeroD,.bool false])))
set_option maxRecDepth 100000 in
set_option maxHeartbeats 4000000 in
theorem rdecode_any (B:Nat) (l:List UInt8) (v:Value) (w:World) (h:RowW 1 ByH (fun j=>B≤j) l v w) (hB:B≤w.heap.size) (hl:l.length≤1000000000000) :
  Calls Tryd.prog 39 #[v] w (RDecP l w):=by
 obtain ⟨A,c,rfl⟩:=h.slice
 have hn:=heap_alloc_new w (.cells #[.bool false,.int .i64 0,.string ⟨#[]⟩,.slice none 0 0] 68)
 have hb:=below_alloc w (.cells #[.bool false,.int .i64 0,.string ⟨#[]⟩,.slice none 0 0] 68)
 have hcall:=get_any 200 B l _ (w.alloc (.cells #[.bool false,.int .i64 0,.string ⟨#[]⟩,.slice none 0 0] 68)) 0 1 (RowW.step ByH.step _ _ _ _ _ _ h (Kb.of_below (S:=fun j=>B≤j) hb) (fun _ _ e=>e)) (by simp;omega) hl (by omega) rfl
 rw [List.drop_zero,show ((0:Nat):Int)=0 from rfl,show ((1:Nat):Int)=1 from rfl] at hcall
 have HC:=Lib.hid hcall
 have HN:=Lib.hid hn
 have HB:=Lib.hid hb
 clear hcall hn hb h
 go_enter Tryd.func39,Tryd.ntmps39
 go_wp2_with fail
 try go_at_call 73
 with_reducible refine HC.out.mono ?_
 rintro e W2 ⟨hk,⟨hnone,rfl⟩ | ⟨x,r,vx,hsome,hr,rfl,hda⟩⟩
 all_goals
  have HN2:=Lib.hid ((hk.block _ (Array.getElem?_eq_some_iff.1 HN.out).1).trans HN.out)
  have HB2:=Lib.hid (HB.out.trans (hk.mono HB.out.size))
  clear hk
 ·unfold zeroD
  have hb3:=below_alloc W2 (.cells #[.bool false,.int .i64 0,.string ⟨#[]⟩,.slice none 0 0] 68)
  have HN3:=Lib.hid ((hb3.block _ (Array.getElem?_eq_some_iff.1 HN2.out).1).trans HN2.out)
  have HB3:=Lib.hid (HB2.out.trans (hb3.mono HB2.out.size))
  clear hb3
  have k0:=(cellH HN3.out 0).trans rfl
  have k1:=(cellH HN3.out 1).trans rfl
  have k2:=(cellH HN3.out 2).trans rfl
  have k3:=(cellH HN3.out 3).trans rfl
  have f0:=frozenH HN3.out 0
  have f1:=frozenH HN3.out 1
  have f2:=frozenH HN3.out 2
  have f3:=frozenH HN3.out 3
  have HNONE:=Lib.hid hnone
  clear hnone
  go_wp2_with fail
  have hp4:=put4 (.bool false) (.int .i64 0) (.string ⟨#[]⟩) (.slice none 0 0) HN3.out
  have hk4:=kput4 (W2.alloc (.cells #[.bool false,.int .i64 0,.string ⟨#[]⟩,.slice none 0 0] 68)) w.heap.size (.bool false) (.int .i64 0) (.string ⟨#[]⟩) (.slice none 0 0)
  have hb4:=hk4.below (B:=w.heap.size) HB3.out.size (fun j e=>by omega)
  have c0:=(cellH hp4 0).trans rfl
  have c1:=(cellH hp4 1).trans rfl
  have c2:=(cellH hp4 2).trans rfl
  have c3:=(cellH hp4 3).trans rfl
  exact bodyPost_ret (v:=.tuple #[zeroD,.bool false]) (by simp [results,Tryd.results39,go_sem,c0,c1,c2,c3,zeroD]) rfl (by unfold RDecP;exact ⟨HB3.out.trans hb4,.inr ⟨fun ⟨y,e,_⟩=>(by rw [HNONE.out] at e;cases e),rfl⟩⟩)
 ·obtain ⟨A2,m2,r2,hve⟩:=hda.this
  obtain ⟨cc,hcc⟩:∃ cc,x.ctor=cc:=⟨_,rfl⟩
  obtain ⟨zz,hzz⟩:∃ zz,x.int=zz:=⟨_,rfl⟩
  obtain ⟨ss,hss⟩:∃ ss,x.name=ss:=⟨_,rfl⟩
  rw [hcc,hzz,hss] at hve
  subst hve
  clear hcc hzz hss
  have HDA:=Lib.hid hda
  have HSOME:=Lib.hid hsome
  clear hda hsome
  have hb3:=below_alloc W2 (.cells #[.bool cc,.int .i64 zz,.string ss,.slice A2 m2 r2] 68)
  have HN3:=Lib.hid ((hb3.block _ (Array.getElem?_eq_some_iff.1 HN2.out).1).trans HN2.out)
  have HB3:=Lib.hid (HB2.out.trans (hb3.mono HB2.out.size))
  clear hb3
  have k0:=(cellH HN3.out 0).trans rfl
  have k1:=(cellH HN3.out 1).trans rfl
  have k2:=(cellH HN3.out 2).trans rfl
  have k3:=(cellH HN3.out 3).trans rfl
  have f0:=frozenH HN3.out 0
  have f1:=frozenH HN3.out 1
  have f2:=frozenH HN3.out 2
  have f3:=frozenH HN3.out 3
  have hn4:=heap_alloc_new W2 (.cells #[.bool cc,.int .i64 zz,.string ss,.slice A2 m2 r2] 68)
  have n0:=(cellH hn4 0).trans rfl
  have n1:=(cellH hn4 1).trans rfl
  have n2:=(cellH hn4 2).trans rfl
  have n3:=(cellH hn4 3).trans rfl
  have HN4:=Lib.hid hn4
  clear hn4
  by_cases hr0:r=[]
  ·subst hr0
   go_wp2_with fail
   try go_at_call 43
   obtain ⟨dd,hdd⟩:=HDA.out
   have hcall:=rgood_any dd _ x _ (W2.alloc (.cells #[.bool cc,.int .i64 zz,.string ss,.slice A2 m2 r2] 68)) (DaW.step dd _ _ _ _ _ _ hdd (Kb.of_below (below_alloc W2 (.cells #[.bool cc,.int .i64 zz,.string ss,.slice A2 m2 r2] 68))) (fun _ _ e=>e))
   clear hdd n0 n1 n2 n3 k0 k1 k2 k3 f0 f1 f2 f3
   with_reducible refine hcall.mono ?_
   rintro e W5 ⟨rfl,hb5⟩
   have HN5:=Lib.hid ((hb5.block _ (Array.getElem?_eq_some_iff.1 HN3.out).1).trans HN3.out)
   have HT5:=Lib.hid ((hb5.block _ (Array.getElem?_eq_some_iff.1 HN4.out).1).trans HN4.out)
   have HB5:=Lib.hid (HB3.out.trans (hb5.mono HB3.out.size))
   have HK5:=Lib.hid ((below_alloc W2 (.cells #[.bool cc,.int .i64 zz,.string ss,.slice A2 m2 r2] 68)).trans (hb5.mono (below_alloc W2 (.cells #[.bool cc,.int .i64 zz,.string ss,.slice A2 m2 r2] 68)).size))
   clear hcall hb5
   cases hg:goodD x with
   | true =>
    have n0:=(cellH HT5.out 0).trans rfl
    have n1:=(cellH HT5.out 1).trans rfl
    have n2:=(cellH HT5.out 2).trans rfl
    have n3:=(cellH HT5.out 3).trans rfl
    have k0:=(cellH HN5.out 0).trans rfl
    have k1:=(cellH HN5.out 1).trans rfl
    have k2:=(cellH HN5.out 2).trans rfl
    have k3:=(cellH HN5.out 3).trans rfl
    have f0:=frozenH HN5.out 0
    have f1:=frozenH HN5.out 1
    have f2:=frozenH HN5.out 2
    have f3:=frozenH HN5.out 3
    have HG:=Lib.hid hg
    clear hg
    go_wp2_with fail
    have hp4:=put4 (.bool cc) (.int .i64 zz) (.string ss) (.slice A2 m2 r2) HN5.out
    have hk4:=kput4 W5 w.heap.size (.bool cc) (.int .i64 zz) (.string ss) (.slice A2 m2 r2)
    have hb4:=hk4.below (B:=w.heap.size) HB5.out.size (fun j e=>by omega)
    have c0:=(cellH hp4 0).trans rfl
    have c1:=(cellH hp4 1).trans rfl
    have c2:=(cellH hp4 2).trans rfl
    have c3:=(cellH hp4 3).trans rfl
    have hda5:=DaE.step _ _ _ _ _ _ HDA.out (Kb.of_below HK5.out) (fun _ _ e=>e)
    have hda6:=DaE.step _ (fun j=>j < w.heap.size) _ _ _ _ hda5 (hk4.wider (fun j _ e=>by subst e;simp)) (fun j _ e=>by simp;omega)
    exact bodyPost_ret (v:=.tuple #[.agg #[.bool cc,.int .i64 zz,.string ss,.slice A2 m2 r2],.bool true]) (by simp [results,Tryd.results39,go_sem,c0,c1,c2,c3]) rfl (by unfold RDecP;exact ⟨HB5.out.trans hb4,.inl ⟨x,_,HSOME.out,HG.out,rfl,hda6⟩⟩)
   | false =>
    have k0:=(cellH HN5.out 0).trans rfl
    have k1:=(cellH HN5.out 1).trans rfl
    have k2:=(cellH HN5.out 2).trans rfl
    have k3:=(cellH HN5.out 3).trans rfl
    have f0:=frozenH HN5.out 0
    have f1:=frozenH HN5.out 1
    have f2:=frozenH HN5.out 2
    have f3:=frozenH HN5.out 3
    have HG:=Lib.hid hg
    clear hg
    go_wp2_with fail
    have hp4:=put4 (.bool false) (.int .i64 0) (.string ⟨#[]⟩) (.slice none 0 0) HN5.out
    have hk4:=kput4 W5 w.heap.size (.bool false) (.int .i64 0) (.string ⟨#[]⟩) (.slice none 0 0)
    have hb4:=hk4.below (B:=w.heap.size) HB5.out.size (fun j e=>by omega)
    have c0:=(cellH hp4 0).trans rfl
    have c1:=(cellH hp4 1).trans rfl
    have c2:=(cellH hp4 2).trans rfl
    have c3:=(cellH hp4 3).trans rfl
    exact bodyPost_ret (v:=.tuple #[zeroD,.bool false]) (by simp [results,Tryd.results39,go_sem,c0,c1,c2,c3,zeroD]) rfl (by unfold RDecP;exact ⟨HB5.out.trans hb4,.inr ⟨fun ⟨y,e,e2⟩=>(by rw [HSOME.out] at e;injection e with e;injection e with e _;rw [← e,HG.out] at e2;cases e2),rfl⟩⟩)
  ·have hrl:0 < r.length:=List.length_pos_iff.2 hr0
   obtain ⟨ny,hny⟩:∃ ny,l.length - r.length=ny:=⟨_,rfl⟩
   have hne:((ny:Int) != (l.length:Int))=true:=by simp;omega
   rw [hny]
   have HR0:=Lib.hid hr0
   clear hny hr0 hrl hr n0 n1 n2 n3
   go_wp2_with fail
   have hp4:=put4 (.bool false) (.int .i64 0) (.string ⟨#[]⟩) (.slice none 0 0) HN3.out
   have hk4:=kput4 (W2.alloc (.cells #[.bool cc,.int .i64 zz,.string ss,.slice A2 m2 r2] 68)) w.heap.size (.bool false) (.int .i64 0) (.string ⟨#[]⟩) (.slice none 0 0)
   have hb4:=hk4.below (B:=w.heap.size) HB3.out.size (fun j e=>by omega)
   have c0:=(cellH hp4 0).trans rfl
   have c1:=(cellH hp4 1).trans rfl
   have c2:=(cellH hp4 2).trans rfl
   have c3:=(cellH hp4 3).trans rfl
   exact bodyPost_ret (v:=.tuple #[zeroD,.bool false]) (by simp [results,Tryd.results39,go_sem,c0,c1,c2,c3,zeroD]) rfl (by unfold RDecP;exact ⟨HB3.out.trans hb4,.inr ⟨fun ⟨y,e,_⟩=>(by rw [HSOME.out] at e;injection e with e;injection e with _ e;exact HR0.out e),rfl⟩⟩)
end Lx
end Go.Proofs.YtnpacamcgifabaaDoor
