/- The program: Encode; and the example that each statement of layer 10 begins with. Conditions: the error variables hold their errors. -/
import Derived.Test.YtnpacamcgifabaaDoorDc
import Derived.Test.YtnpacamcgifabaaDoorDd
import Derived.Test.YtnpacamcgifabaaDoorDf
import Derived.Lib.BufferRead
import Derived.BigQuiet
namespace Go.Proofs.YtnpacamcgifabaaDoor
set_option linter.unusedSimpArgs false
set_option linter.unusedVariables false
namespace Lx
open Go Go.RowKit
theorem own_text {B:Nat} {l:List UInt8} {v:Value} {w:World} (h:OwnB B l v w):(convert 64 9 v).run Tryd.prog w=.ok (.string (bs l)) w:=by
 rcases h.2 with ⟨rfl,h0⟩ | ⟨g,cap,cur,rfl,hg,hb,_⟩
 ·have hl:l=[]:=List.eq_nil_of_length_eq_zero h0
  subst hl
  exact Lib.run_convert_nil_bytes w 64 9 5 0 Tryd.underlying64 Tryd.underlying5 Tryd.underlying9
 ·refine run_convert_bytes_back w 64 9 5 ⟨g,0,none⟩ cap l Tryd.underlying64 Tryd.underlying5 Tryd.underlying9 (fun j hj=>?_)
  have e:((⟨g,0,none⟩:Addr).add j)=⟨g,j,none⟩:=by
   by_cases h0:j=0
   ·subst h0;rfl
   ·simp [Addr.add,h0]
  have hraw:w.ownsRow B 5 1 (.slice (some ⟨g,0,none⟩) l.length cap) l.length (Lib.byteCells l):=h
  have h3:w.cell? ⟨g,j,none⟩=(Lib.byteCells l)[j]?:=hraw.cellAt j (by omega)
  rw [e,h3,Lib.byteCells,List.getElem?_map,List.getElem?_eq_getElem hj]
  rfl
mutual
theorem enc_len:∀ x:DaT,fitD x=true→(encD x).length≤35 * sizeD x
 | .mk c n s l,h=>by
  rw [fitD] at h
  rw [encD,sizeD]
  cases c
  ·simp [le8]
  ·rw [if_pos rfl] at h
   rw [if_pos rfl,if_pos rfl]
   simp only [Bool.and_eq_true,decide_eq_true_eq] at h
   have h1:=encs_len l h.2
   have h2:s.data.toList.length=s.size:=by simp
   simp only [List.length_append,List.length_cons,List.length_nil]
   omega
theorem encs_len:∀ l:List DaT,fitDs l=true→(encDs l).length≤35 * sizeDs l
 | [],_=>by rw [encDs];exact Nat.zero_le _
 | x :: l,h=>by
  rw [fitDs,Bool.and_eq_true] at h
  rw [encDs,sizeDs,List.length_append]
  have h1:=enc_len x h.1
  have h2:=encs_len l h.2
  omega
end
/-- The error variables. -/
structure ErrD (f:Nat→Addr) (w:World):Prop where
 large:w.cell? ⟨0,0,none⟩=some (.iface 163 (.pointer (some (f 0))))
 data:w.cell? ⟨11,0,none⟩=some (.iface 163 (.pointer (some (f 1))))
def errV (a:Addr):Value:=.iface 163 (.pointer (some a))
theorem ErrD.stay {f:Nat→Addr} {w w':World} (h:ErrD f w) (hb:Below w.heap.size w w'):ErrD f w' :=
 ⟨(World.cell?_of_block (hb.block _ (World.block_lt_of_cell? _ _ h.large))).trans h.large,(World.cell?_of_block (hb.block _ (World.block_lt_of_cell? _ _ h.data))).trans h.data⟩
/-- What Encode gives. -/
def EncP (f:Nat→Addr) (x:DaT) (w:World):Ending→World→Prop:=fun e w'=>Below w.heap.size w w' ∧
 ((goodD x=true∧fitD x=true∧∃ A m c,e=.returned (.tuple #[.slice A m c,.nilIface])∧OwnB w.heap.size (encD x) (.slice A m c) w') ∨
 (goodD x=false∧e=.returned (.tuple #[.slice none 0 0,errV (f 0)])) ∨ (goodD x=true∧fitD x=false∧e=.returned (.tuple #[.slice none 0 0,errV (f 1)])))
set_option maxRecDepth 100000 in
set_option maxHeartbeats 4000000 in
theorem encode_any (f:Nat→Addr) (d:Nat) (x:DaT) (v:Value) (w:World) (hv:DaW d (fun k=>w.heap.size≤k) x v w) (he:ErrD f w) :
  Calls Tryd.prog 42 #[v] w (EncP f x w):=by
 obtain ⟨A0,l0,c0,rfl⟩:=hv.this
 have hb:=below_alloc w (.cells #[.bool x.ctor,.int .i64 x.int,.string x.name,.slice A0 l0 c0] 68)
 have HB:=Lib.hid hb
 have HV:=Lib.hid ((DaW.step d).below hv hb)
 have HX:=Lib.hid (heap_alloc_new w (.cells #[.bool x.ctor,.int .i64 x.int,.string x.name,.slice A0 l0 c0] 68))
 have HE:=Lib.hid (he.stay hb)
 have HZ:=Lib.hid hb.size
 clear hv hb he
 unfold EncP
 go_enter Tryd.func42,Tryd.ntmps42
 have x0:=(cellH HX.out 0).trans rfl
 have x1:=(cellH HX.out 1).trans rfl
 have x2:=(cellH HX.out 2).trans rfl
 have x3:=(cellH HX.out 3).trans rfl
 go_wp2_with fail
 clear x0 x1 x2 x3
 generalize (w.alloc (.cells #[.bool x.ctor,.int .i64 x.int,.string x.name,.slice A0 l0 c0] 68))=W at HB HV HX HE HZ ⊢
 generalize hXX:w.heap.size=X at HX HV HB HZ ⊢
 have HXX:=Lib.hid hXX
 clear hXX
 try go_at_call 47
 refine (good_any d _ x _ W HV.out).mono ?_
 rintro e w1 ⟨rfl,hb1⟩
 have HB1:=Lib.hid (HB.out.trans (hb1.mono HZ.out))
 have HX1:=Lib.hid ((hb1.block X (Array.getElem?_eq_some_iff.1 HX.out).1).trans HX.out)
 have HV1:=Lib.hid ((DaW.step d).below HV.out hb1)
 have HE1:=Lib.hid (HE.out.stay hb1)
 have HZ1:Hid (X≤w1.heap.size):=Lib.hid (Nat.le_trans HZ.out hb1.size)
 clear hb1 HB HX HV HE HZ
 obtain ⟨G,hG⟩:∃ G,goodD x=G:=⟨_,rfl⟩
 have HG:=Lib.hid hG
 rw [hG]
 clear hG
 cases G
 ·have el:=HE1.out.large
  go_wp2_with fail
  go_quiet (fail)
  go_wp2_with fail
  exact bodyPost_ret (v:=.tuple #[.slice none 0 0,errV (f 0)]) (by simp [results,Tryd.results42,go_sem,errV]) rfl ⟨by rw [HXX.out];exact below_drewN HB1.out nq,.inr (.inl ⟨HG.out,rfl⟩)⟩
 ·have x0:=(cellH HX1.out 0).trans rfl
  have x1:=(cellH HX1.out 1).trans rfl
  have x2:=(cellH HX1.out 2).trans rfl
  have x3:=(cellH HX1.out 3).trans rfl
  go_wp2_with fail
  clear x0 x1 x2 x3
  try go_at_call 74
  refine (fits_any d _ x _ w1 HV1.out).mono ?_
  rintro e w2 ⟨rfl,hb2⟩
  have HB2:=Lib.hid (HB1.out.trans (hb2.mono HZ1.out))
  have HX2:=Lib.hid ((hb2.block X (Array.getElem?_eq_some_iff.1 HX1.out).1).trans HX1.out)
  have HV2:=Lib.hid ((DaW.step d).below HV1.out hb2)
  have HE2:=Lib.hid (HE1.out.stay hb2)
  have HZ2:Hid (X≤w2.heap.size):=Lib.hid (Nat.le_trans HZ1.out hb2.size)
  clear hb2 HB1 HX1 HV1 HE1 HZ1
  obtain ⟨F,hF⟩:∃ F,fitD x=F:=⟨_,rfl⟩
  have HF:=Lib.hid hF
  rw [hF]
  clear hF
  cases F
  ·have el:=HE2.out.data
   go_wp2_with fail
   go_quiet (fail)
   go_wp2_with fail
   exact bodyPost_ret (v:=.tuple #[.slice none 0 0,errV (f 1)]) (by simp [results,Tryd.results42,go_sem,errV]) rfl ⟨by rw [HXX.out];exact below_drewN HB2.out nq,.inr (.inr ⟨HG.out,HF.out,rfl⟩)⟩
  ·have hen:=enc_len x HF.out
   have hgz:sizeD x≤4096:=by
    have h:=HG.out
    unfold goodD at h
    simp only [Bool.and_eq_true,decide_eq_true_eq] at h
    exact h.1
   have HLN:Hid ((encD x).length≤200000):=Lib.hid (by omega)
   clear hen hgz
   have x0:=(cellH HX2.out 0).trans rfl
   have x1:=(cellH HX2.out 1).trans rfl
   have x2:=(cellH HX2.out 2).trans rfl
   have x3:=(cellH HX2.out 3).trans rfl
   go_wp2_with fail
   clear x0 x1 x2 x3
   try go_at_call 75
   refine (appd_any d X [] _ x _ w2 (World.ownsRow_nil _ _ _ _) HV2.out (by have:=HLN.out;simp only [List.length_nil];omega) HZ2.out).mono ?_
   rintro e w3 ⟨A3,m3,c3,rfl,ho3,hb3⟩
   rw [List.nil_append] at ho3
   have HO3:=Lib.hid ho3
   have HB3:=Lib.hid (HB2.out.trans hb3)
   clear ho3 hb3
   go_wp2_with fail
   exact bodyPost_ret (v:=.tuple #[.slice A3 m3 c3,.nilIface]) (by simp [results,Tryd.results42,go_sem]) rfl ⟨by rw [HXX.out];exact HB3.out,.inl ⟨HG.out,HF.out,A3,m3,c3,rfl,by rw [HXX.out];exact HO3.out⟩⟩
/-- The example's data. -/
def exD:DaT:=.mk true 0 ⟨#[99,111,110,115]⟩ [.mk false 1 ⟨#[]⟩ [],.mk true 0 ⟨#[110,105,108]⟩ []]
theorem ex_good:goodD exD=true:=by decide +kernel
theorem ex_fit:fitD exD=true:=by decide +kernel
theorem ex_bytes:encD exD=[1,4,99,111,110,115,2,0,1,0,0,0,0,0,0,0,1,3,110,105,108,0]:=by decide +kernel
set_option maxRecDepth 100000 in
set_option maxHeartbeats 4000000 in
theorem dalive_any (f:Nat→Addr) (w:World) (he:ErrD f w) :
  Calls Tryd.prog 36 #[] w fun e w'=>e=.returned (.bool true)∧Below w.heap.size w w':=by
 have hb:=below_alloc w (.cells #[.bool false,.int .i64 1,.string ⟨#[]⟩,.slice none 0 0,.bool true,.int .i64 0,.string ⟨#[110,105,108]⟩,.slice none 0 0] 68)
 have hx:=heap_alloc_new w (.cells #[.bool false,.int .i64 1,.string ⟨#[]⟩,.slice none 0 0,.bool true,.int .i64 0,.string ⟨#[110,105,108]⟩,.slice none 0 0] 68)
 have hsz:(w.alloc (.cells #[.bool false,.int .i64 1,.string ⟨#[]⟩,.slice none 0 0,.bool true,.int .i64 0,.string ⟨#[110,105,108]⟩,.slice none 0 0] 68)).heap.size=w.heap.size+1:=by simp
 have hleaf:∀ (c:Bool) (n:Int) (s:ByteArray) (Vol:Nat→Prop) (W:World),DaW 1 Vol (.mk c n s []) (.agg #[.bool c,.int .i64 n,.string s,.slice none 0 0]) W:=fun c n s Vol W=>⟨_,rfl,RowW.nil _ _⟩
 have hv:DaW 2 (fun k=>w.heap.size+1≤k) exD (.agg #[.bool true,.int .i64 0,.string ⟨#[99,111,110,115]⟩,.slice (some ⟨w.heap.size,0,none⟩) 2 2]) (w.alloc (.cells #[.bool false,.int .i64 1,.string ⟨#[]⟩,.slice none 0 0,.bool true,.int .i64 0,.string ⟨#[110,105,108]⟩,.slice none 0 0] 68)):=by
  refine ⟨_,rfl,some ⟨w.heap.size,0,none⟩,2,rfl,Nat.le_refl _,by decide,fun i hi=>?_⟩
  have hi2:i < 2:=hi
  rcases (show i=0 ∨ i=1 by omega) with rfl | rfl
  ·refine ⟨w.heap.size,0,_,rfl,by omega,by omega,hleaf _ _ _ _ _,fun j hj=>?_⟩
   rw [cellH hx]
   rcases (show j=0 ∨ j=1 ∨ j=2 ∨ j=3 by omega) with rfl | rfl | rfl | rfl <;> rfl
  ·refine ⟨w.heap.size,0,_,rfl,by omega,by omega,hleaf _ _ _ _ _,fun j hj=>?_⟩
   rw [cellH hx]
   rcases (show j=0 ∨ j=1 ∨ j=2 ∨ j=3 by omega) with rfl | rfl | rfl | rfl <;> rfl
 rw [← hsz] at hv
 have HC:=Lib.hid (encode_any f 2 exD _ _ hv (he.stay hb))
 have HB:=Lib.hid hb
 clear hb hx hsz hleaf hv he
 go_enter Tryd.func36,Tryd.ntmps36
 go_wp2_with fail
 generalize (w.alloc (.cells #[.bool false,.int .i64 1,.string ⟨#[]⟩,.slice none 0 0,.bool true,.int .i64 0,.string ⟨#[110,105,108]⟩,.slice none 0 0] 68))=W at HC HB ⊢
 try go_at_call 42
 refine HC.out.mono ?_
 rintro e w1 ⟨hb1,⟨_,_,A,m,c,rfl,ho⟩ | ⟨h,_⟩ | ⟨_,h,_⟩⟩
 ·have HB1:=Lib.hid (HB.out.trans (hb1.mono HB.out.size))
  have hcv:=own_text ho
  rw [ex_bytes] at hcv
  have hq:((⟨#[1,4,99,111,110,115,2,0,1,0,0,0,0,0,0,0,1,3,110,105,108,0]⟩:ByteArray).toList == (⟨#[1,4,99,111,110,115,2,0,1,0,0,0,0,0,0,0,1,3,110,105,108,0]⟩:ByteArray).toList)=true:=beq_self_eq_true _
  rw [show bs [1,4,99,111,110,115,2,0,1,0,0,0,0,0,0,0,1,3,110,105,108,0]=⟨#[1,4,99,111,110,115,2,0,1,0,0,0,0,0,0,0,1,3,110,105,108,0]⟩ from rfl] at hcv
  clear hb1 ho HC HB
  go_wp2_with fail
  go_ret
  exact ⟨rfl,HB1.out⟩
 ·rw [ex_good] at h
  cases h
 ·rw [ex_fit] at h
  cases h
end Lx
end Go.Proofs.YtnpacamcgifabaaDoor
