/- The walk of the statement DataDecodes: it returns true. Conditions: the error variables hold their errors; the bytes are such as memory holds. -/
import Derived.Test.YtnpacamcgifabaaDoorEe
import Derived.Test.YtnpacamcgifabaaDoorEg
import Derived.Test.YtnpacamcgifabaaDoorDu
import Derived.Test.YtnpacamcgifabaaDoorDw
import Derived.Test.YtnpacamcgifabaaDoorDi
namespace Go.Proofs.YtnpacamcgifabaaDoor
set_option linter.unusedSimpArgs false
set_option linter.unusedVariables false
namespace Lx
open Go Go.RowKit
theorem by_new {Vol:Nat→Prop} {l:List UInt8} {v:Value} {w:World} (h:RowW 1 ByH Vol l v w):RowW 1 ByH (fun j=>w.heap.size≤j) l v w:=by
 obtain ⟨A',c',e,h1,h2,h3⟩:=h
 exact ⟨A',c',e,h1,h2,fun i hi=>by
  obtain ⟨b,off,vi,e1,e2,_,e4,e5⟩:=h3 i hi
  exact ⟨b,off,vi,e1,e2,by omega,e4,e5⟩⟩
theorem neqE_same (a:Addr) (W:World):(binOp .neq 38 (.iface 163 (.pointer (some a))) (.iface 163 (.pointer (some a)))).run Tryd.prog W=.ok (.bool false) W:=by
 have h:=eqlE_same a W
 simp [binOp,Sem.run_bind] at h ⊢
 generalize Sem.run Tryd.prog (Op.equal 38 (.iface 163 (.pointer (some a))) (.iface 163 (.pointer (some a)))) W=R at h ⊢
 cases R with
 | ok b w' =>
  simp [Result.andThen] at h ⊢
  exact ⟨by rw [h.1],h.2⟩
 | _=>simp [Result.andThen] at h
set_option maxRecDepth 100000 in
set_option maxHeartbeats 16000000 in
theorem lawDecodes_any (f:Nat→Addr) (ad:Addr) (l:List UInt8) (v:Value) (w:World) (hq:RowW 1 ByH (fun _=>False) l v w) (hq0:∀ n c,v=.slice none n c→c=0) (hql:l.length≤10000000) (he:ErrD f w) (hy:ErrY ad w) :
  Calls Tryd.prog 8 #[v] w fun e w'=>e=.returned (.bool true)∧Below w.heap.size w w':=by
 obtain ⟨Aq,cq,rfl⟩:=hq.slice
 have HQ:=Lib.hid hq
 have HQ0:=Lib.hid hq0
 have HQL:=Lib.hid hql
 have HE:=Lib.hid he
 have HY:=Lib.hid hy
 have HAL:=Lib.hid (dalive_any f w he)
 clear hq hq0 hql he hy
 go_enter Tryd.func8,Tryd.ntmps8
 go_wp2_with fail
 try go_at_call 36
 refine HAL.out.mono ?_
 rintro e w1 ⟨rfl,hb1⟩
 have HB1:=Lib.hid hb1
 have HQ1:=Lib.hid ((RowW.step ByH.step).below HQ.out hb1)
 have HC1:=Lib.hid (bytes_any l _ w1 (by_low HQ.out hb1 |> fun h=>by
  obtain ⟨A',c',e,h1,h2,h3⟩:=HQ1.out
  exact ⟨A',c',e,h1,h2,fun i hi=>by
   obtain ⟨b,off,vi,e1,e2,_,e4,e5⟩:=h3 i hi
   exact ⟨b,off,vi,e1,e2,by omega,e4,e5⟩⟩) HQ0.out HQL.out)
 have HE1:=Lib.hid (HE.out.stay hb1)
 have HY1:=Lib.hid (HY.out.stay hb1)
 clear hb1 HAL
 go_wp2_with fail
 try go_at_call 37
 refine HC1.out.mono ?_
 rintro e w2 ⟨hb2,g,cap,rfl,hcap,ho⟩
 have hlm:(l++marks).length=l.length+6:=by rw [List.length_append];rfl
 have hrm:=ho.row
 have hr2:RowW 1 ByH (fun _=>False) l (.slice (some ⟨g,0,none⟩) l.length cap) w2:=by
  have h4:=By.takeC (by rw [hlm];exact hrm) (size:=l.length) (by rw [hlm];omega)
  rw [List.take_left' rfl] at h4
  exact h4
 have HRM2:=Lib.hid hrm
 have HR2:=Lib.hid hr2
 have HCAP:=Lib.hid hcap
 have HB2:=Lib.hid (HB1.out.trans (hb2.mono HB1.out.size))
 have HQ2:=Lib.hid ((RowW.step ByH.step).below HQ1.out hb2)
 have HE2:=Lib.hid (HE1.out.stay hb2)
 have HY2:=Lib.hid (HY1.out.stay hb2)
 have HD2:=Lib.hid (decode_any ad _ l _ w2 hr2 HY2.out)
 clear hlm hrm hr2 hb2 ho HC1 HQ1 HE1 HY1 hcap
 go_wp2_with fail
 try go_at_call 38
 refine HD2.out.mono ?_
 rintro e w3 ⟨hb3,⟨x,m,vx,hdec,rfl,hda⟩ | ⟨hno,rfl⟩⟩
 ·have HRM3:=Lib.hid ((RowW.step ByH.step).below HRM2.out hb3)
  have HB3:=Lib.hid (HB2.out.trans (hb3.mono HB2.out.size))
  have HQ3:=Lib.hid ((RowW.step ByH.step).below HQ2.out hb3)
  have HE3:=Lib.hid (HE2.out.stay hb3)
  have HY3:=Lib.hid (HY2.out.stay hb3)
  have hw2:=(dec_whole l x).1 ⟨m,hdec⟩
  have hback:=dec_back 200 0 l x [] m hdec
  have HW2:=Lib.hid hw2
  have HBK:=Lib.hid hback
  obtain ⟨A2,m2,r2,hve⟩:=hda.this
  obtain ⟨cc,hcc⟩:∃ cc,x.ctor=cc:=⟨_,rfl⟩
  obtain ⟨zz,hzz⟩:∃ zz,x.int=zz:=⟨_,rfl⟩
  obtain ⟨ss,hss⟩:∃ ss,x.name=ss:=⟨_,rfl⟩
  rw [hcc,hzz,hss] at hve
  subst hve
  clear hcc hzz hss
  have hbx:=below_alloc w3 (.cells #[.bool cc,.int .i64 zz,.string ss,.slice A2 m2 r2] 68)
  have hnx:=heap_alloc_new w3 (.cells #[.bool cc,.int .i64 zz,.string ss,.slice A2 m2 r2] 68)
  have HRM4:=Lib.hid ((RowW.step ByH.step).below HRM3.out hbx)
  have HB4:=Lib.hid (HB3.out.trans (hbx.mono HB3.out.size))
  have HQ4:=Lib.hid ((RowW.step ByH.step).below HQ3.out hbx)
  have HE4:=Lib.hid (HE3.out.stay hbx)
  have HY4:=Lib.hid (HY3.out.stay hbx)
  have HX4:=Lib.hid hnx
  have HDA4:=Lib.hid (DaE.step _ (fun _=>False) _ _ _ _ hda (Kb.of_below hbx) (fun _ _ e=>e.elim))
  clear hb3 hda hdec hw2 hback hbx hnx HRM3 HB3 HQ3 HE3 HY3 HRM2 HR2 HB2 HQ2 HE2 HY2 HD2
  go_wp2_with fail
  have HRD:=Lib.hid (rdecode_any (w3.alloc (.cells #[.bool cc,.int .i64 zz,.string ss,.slice A2 m2 r2] 68)).heap.size l _ (w3.alloc (.cells #[.bool cc,.int .i64 zz,.string ss,.slice A2 m2 r2] 68)) (by_new HQ4.out) (Nat.le_refl _) (by have:=HQL.out;omega))
  try go_at_call 39
  refine HRD.out.mono ?_
  rintro e w5 ⟨hb5,⟨x',v',hgp,hgd,rfl,hda'⟩ | ⟨hno,rfl⟩⟩
  ·obtain rfl:x'=x:=by
    have h1:=HW2.out.1
    rw [hgp] at h1
    injection h1 with h1
    injection h1
   obtain ⟨A3,m3,r3,hve⟩:=hda'.this
   obtain ⟨c3,hcc⟩:∃ cc,x'.ctor=cc:=⟨_,rfl⟩
   obtain ⟨z3,hzz⟩:∃ zz,x'.int=zz:=⟨_,rfl⟩
   obtain ⟨s3,hss⟩:∃ ss,x'.name=ss:=⟨_,rfl⟩
   rw [hcc,hzz,hss] at hve
   subst hve
   clear hcc hzz hss
   have hby:=below_alloc w5 (.cells #[.bool c3,.int .i64 z3,.string s3,.slice A3 m3 r3] 68)
   have hny:=heap_alloc_new w5 (.cells #[.bool c3,.int .i64 z3,.string s3,.slice A3 m3 r3] 68)
   have hbb:=hb5.trans (hby.mono hb5.size)
   have HRM6:=Lib.hid ((RowW.step ByH.step).below HRM4.out hbb)
   have HB6:=Lib.hid (HB4.out.trans (hbb.mono HB4.out.size))
   have HQ6:=Lib.hid ((RowW.step ByH.step).below HQ4.out hbb)
   have HE6:=Lib.hid (HE4.out.stay hbb)
   have HX6:=Lib.hid ((hbb.block _ (Array.getElem?_eq_some_iff.1 HX4.out).1).trans HX4.out)
   have HY6:=Lib.hid hny
   have HDX:=Lib.hid (DaE.step _ (fun _=>False) _ _ _ _ HDA4.out (Kb.of_below hbb) (fun _ _ e=>e.elim))
   have HDY:=Lib.hid (DaE.step _ (fun _=>False) _ _ _ _ hda' (Kb.of_below hby) (fun _ _ e=>e.elim))
   obtain ⟨d1,hd1⟩:=HDX.out
   obtain ⟨d2,hd2⟩:=HDY.out
   have HSM:=Lib.hid (same_self (max d1 d2) _ _ x' _ _ (w5.alloc (.cells #[.bool c3,.int .i64 z3,.string s3,.slice A3 m3 r3] 68)) (DaW.ups (by omega) hd1) (DaW.ups (by omega) hd2))
   have HKP:=Lib.hid (fun w' (hb:Below (w5.alloc (.cells #[.bool c3,.int .i64 z3,.string s3,.slice A3 m3 r3] 68)).heap.size (w5.alloc (.cells #[.bool c3,.int .i64 z3,.string s3,.slice A3 m3 r3] 68)) w')=>kept_any _ _ l _ g cap w' ((RowW.step ByH.step).below HQ6.out hb) ((RowW.step ByH.step).below HRM6.out hb) HQL.out HCAP.out)
   have HENC:=Lib.hid (fun w' (hb:Below (w5.alloc (.cells #[.bool c3,.int .i64 z3,.string s3,.slice A3 m3 r3] 68)).heap.size (w5.alloc (.cells #[.bool c3,.int .i64 z3,.string s3,.slice A3 m3 r3] 68)) w')=>encode_any f d1 x' _ w' (DaW.old ((DaW.step d1).below hd1 hb) (Nat.le_refl _)) (HE6.out.stay hb))
   have x0:=(cellH HX6.out 0).trans rfl
   have x1:=(cellH HX6.out 1).trans rfl
   have x2:=(cellH HX6.out 2).trans rfl
   have x3:=(cellH HX6.out 3).trans rfl
   have y0:=(cellH HY6.out 0).trans rfl
   have y1:=(cellH HY6.out 1).trans rfl
   have y2:=(cellH HY6.out 2).trans rfl
   have y3:=(cellH HY6.out 3).trans rfl
   clear hd1 hd2 hby hny hbb hb5 hda' hgp hgd HRD HDA4 HRM4 HB4 HQ4 HE4 HY4 HX4 HDX HDY
   go_wp2_with fail
   try go_at_call 40
   refine HSM.out.mono ?_
   rintro e w7 ⟨rfl,hb7⟩
   have HB7:=Lib.hid hb7
   have HKP7:=Lib.hid (HKP.out _ hb7)
   clear hb7 x0 x1 x2 x3 y0 y1 y2 y3 HSM
   go_wp2_with fail
   try go_at_call 41
   refine HKP7.out.mono ?_
   rintro e w8 ⟨rfl,hb8⟩
   have HB8:=Lib.hid (HB7.out.trans (hb8.mono HB7.out.size))
   have HX8:=Lib.hid ((HB8.out.block _ (Array.getElem?_eq_some_iff.1 HX6.out).1).trans HX6.out)
   have x0:=(cellH HX8.out 0).trans rfl
   have x1:=(cellH HX8.out 1).trans rfl
   have x2:=(cellH HX8.out 2).trans rfl
   have x3:=(cellH HX8.out 3).trans rfl
   clear hb8 HKP7
   go_wp2_with fail
   try go_at_call 42
   refine (HENC.out _ HB8.out).mono ?_
   rintro e w9 ⟨hb9,⟨hg,hf,A9,m9,c9,rfl,ho⟩ | ⟨hg,rfl⟩ | ⟨_,hf,rfl⟩⟩
   ·have hl9:encD x'=l:=by
     have h1:=HBK.out.1
     rw [List.append_nil] at h1
     exact h1.symm
    rw [hl9] at ho
    have ht1:=by_text ho.row
    have ht2:=by_text ((RowW.step ByH.step).below ((RowW.step ByH.step).below HQ6.out HB8.out) hb9)
    have HB9:=Lib.hid ((HB6.out.trans (HB8.out.mono HB6.out.size)).trans (hb9.mono (Nat.le_trans HB6.out.size HB8.out.size)))
    generalize bs l=tx at ht1 ht2
    clear hl9 ho hb9 hg hf x0 x1 x2 x3
    go_wp2_with fail
    go_ret
    exact ⟨rfl,HB9.out⟩
   ·have h1:=HW2.out.2
    rw [hg] at h1
    cases h1
   ·have h1:=HBK.out.2.1
    rw [hf] at h1
    cases h1
  ·exact absurd ⟨_,HW2.out.1,HW2.out.2⟩ hno
 ·have HRM3:=Lib.hid ((RowW.step ByH.step).below HRM2.out hb3)
  have HB3:=Lib.hid (HB2.out.trans (hb3.mono HB2.out.size))
  have HQ3:=Lib.hid ((RowW.step ByH.step).below HQ2.out hb3)
  have HY3:=Lib.hid (HY2.out.stay hb3)
  have HNO:=Lib.hid (show ¬ ∃ x,getP 200 l=some (x,[])∧goodD x=true from fun ⟨x,h⟩=>by
   obtain ⟨m,hm⟩:=(dec_whole l x).2 h
   exact hno ⟨x,m,hm⟩)
  have hbx:=below_alloc w3 (.cells #[.bool false,.int .i64 0,.string ⟨#[]⟩,.slice none 0 0] 68)
  have HRM4:=Lib.hid ((RowW.step ByH.step).below HRM3.out hbx)
  have HB4:=Lib.hid (HB3.out.trans (hbx.mono HB3.out.size))
  have HQ4:=Lib.hid ((RowW.step ByH.step).below HQ3.out hbx)
  have HY4:=Lib.hid (HY3.out.stay hbx)
  have HX4:=Lib.hid (heap_alloc_new w3 (.cells #[.bool false,.int .i64 0,.string ⟨#[]⟩,.slice none 0 0] 68))
  clear hb3 hno hbx HRM3 HB3 HQ3 HY3 HRM2 HR2 HB2 HQ2 HE2 HY2 HD2
  unfold zeroD errV
  go_wp2_with fail
  have HRD:=Lib.hid (rdecode_any (w3.alloc (.cells #[.bool false,.int .i64 0,.string ⟨#[]⟩,.slice none 0 0] 68)).heap.size l _ (w3.alloc (.cells #[.bool false,.int .i64 0,.string ⟨#[]⟩,.slice none 0 0] 68)) (by_new HQ4.out) (Nat.le_refl _) (by have:=HQL.out;omega))
  try go_at_call 39
  refine HRD.out.mono ?_
  rintro e w5 ⟨hb5,⟨x',v',hgp,hgd,rfl,hda'⟩ | ⟨hno,rfl⟩⟩
  ·exact absurd ⟨_,hgp,hgd⟩ HNO.out
  ·have hby:=below_alloc w5 (.cells #[.bool false,.int .i64 0,.string ⟨#[]⟩,.slice none 0 0] 68)
   have hny:=heap_alloc_new w5 (.cells #[.bool false,.int .i64 0,.string ⟨#[]⟩,.slice none 0 0] 68)
   have hbb:=hb5.trans (hby.mono hb5.size)
   have HRM6:=Lib.hid ((RowW.step ByH.step).below HRM4.out hbb)
   have HB6:=Lib.hid (HB4.out.trans (hbb.mono HB4.out.size))
   have HQ6:=Lib.hid ((RowW.step ByH.step).below HQ4.out hbb)
   have HX6:=Lib.hid ((hbb.block _ (Array.getElem?_eq_some_iff.1 HX4.out).1).trans HX4.out)
   have HY6:=Lib.hid hny
   have hd0:DaW 1 (fun _=>False) (.mk false 0 ⟨#[]⟩ []) (.agg #[.bool false,.int .i64 0,.string ⟨#[]⟩,.slice none 0 0]) (w5.alloc (.cells #[.bool false,.int .i64 0,.string ⟨#[]⟩,.slice none 0 0] 68)):=⟨_,rfl,RowW.nil _ _⟩
   have HSM:=Lib.hid (same_self 1 _ _ _ _ _ (w5.alloc (.cells #[.bool false,.int .i64 0,.string ⟨#[]⟩,.slice none 0 0] 68)) hd0 hd0)
   have HKP:=Lib.hid (fun w' (hb:Below (w5.alloc (.cells #[.bool false,.int .i64 0,.string ⟨#[]⟩,.slice none 0 0] 68)).heap.size (w5.alloc (.cells #[.bool false,.int .i64 0,.string ⟨#[]⟩,.slice none 0 0] 68)) w')=>kept_any _ _ l _ g cap w' ((RowW.step ByH.step).below HQ6.out hb) ((RowW.step ByH.step).below HRM6.out hb) HQL.out HCAP.out)
   have hy6:ErrY ad (w5.alloc (.cells #[.bool false,.int .i64 0,.string ⟨#[]⟩,.slice none 0 0] 68)):=HY4.out.stay hbb
   unfold ErrY at hy6
   have heq:=eqlE_same ad
   have hnq:=neqE_same ad
   have x0:=(cellH HX6.out 0).trans rfl
   have x1:=(cellH HX6.out 1).trans rfl
   have x2:=(cellH HX6.out 2).trans rfl
   have x3:=(cellH HX6.out 3).trans rfl
   have y0:=(cellH HY6.out 0).trans rfl
   have y1:=(cellH HY6.out 1).trans rfl
   have y2:=(cellH HY6.out 2).trans rfl
   have y3:=(cellH HY6.out 3).trans rfl
   clear hby hny hbb hb5 hno HRD HRM4 HB4 HQ4 HY4 HX4 hd0
   unfold zeroD
   go_wp2_with fail
   try go_at_call 40
   refine HSM.out.mono ?_
   rintro e w7 ⟨rfl,hb7⟩
   have HB7:=Lib.hid hb7
   have HKP7:=Lib.hid (HKP.out _ hb7)
   clear hb7 x0 x1 x2 x3 y0 y1 y2 y3 HSM heq hnq hy6
   go_wp2_with fail
   try go_at_call 41
   refine HKP7.out.mono ?_
   rintro e w8 ⟨rfl,hb8⟩
   have HB9:=Lib.hid ((HB6.out.trans (HB7.out.mono HB6.out.size)).trans (hb8.mono (Nat.le_trans HB6.out.size HB7.out.size)))
   clear hb8 HKP7
   go_wp2_with fail
   go_ret
   exact ⟨rfl,HB9.out⟩
end Lx
end Go.Proofs.YtnpacamcgifabaaDoor
