/- What is encoded is decoded: data that are the same, plainly; the reference's Same of any two data; the program's Text of all data. Conditions: the numbers are a machine's. -/
/- The walk of the statement DataForms: it returns true. Conditions: the sixteen error variables hold pointers to cells of their own; strconv's table of powers of ten holds them; the numbers are a machine's; the text of good data has at most 2^40 bytes. -/
/- Data that come in, opened to their trees, with what they weigh; how long the text is. Conditions: each list of the datum is one that memory holds. -/
import Derived.Test.YtiljemkglhloeaaGreatDoorDxT
import Derived.Test.YtiljemkglhloeaaGreatDoorGxK
import Derived.Test.YtiljemkglhloeaaGreatDoorHxA
import Derived.Lib.QuietBelow
import Derived.Test.YtiljemkglhloeaaGreatDoorDxI
namespace Go.Proofs.YtiljemkglhloeaaGreatDoor
set_option linter.unusedSimpArgs false
set_option linter.unusedVariables false
namespace Lx
open Go Go.RowKit
theorem emod_next (z d:Int) (hd:0 < d):z % (d * 256)=d * (z / d % 256)+z % d:=by
 have a:=Int.mul_ediv_add_emod z d
 have b:=Int.mul_ediv_add_emod (z / d) 256
 have c0:=Int.emod_nonneg z (show d ≠ 0 by omega)
 have c1:=Int.emod_lt_of_pos z hd
 have b0:=Int.emod_nonneg (z / d) (show (256:Int) ≠ 0 by decide)
 have b1:=Int.emod_lt_of_pos (z / d) (show (0:Int) < 256 by decide)
 generalize hC:z % d=C at *
 generalize hB:z / d % 256=B at *
 generalize hA:z / d / 256=A at *
 generalize hD:z / d=D at *
 have e:z=(d * B+C)+(d * 256) * A:=by
  rw [← a,← b,Int.mul_add,← Int.mul_assoc]
  omega
 have h0:0≤d * B:=Int.mul_nonneg (by omega) b0
 have h1:d * B≤d * 255:=Int.mul_le_mul_of_nonneg_left (by omega) (by omega)
 rw [e,Int.add_mul_emod_self_left,Int.emod_eq_of_lt (by omega) (by omega)]
theorem low_range (z:Int):∀ k:Nat,((lowN ((List.range k).map fun i=>byteZ (z / 2 ^ (8 * i))):Nat):Int)=z % (256:Int) ^ k
 | 0=>by simp [lowN,Int.emod_one]
 | k+1=>by
  have hp:(0:Int) < 256 ^ k:=Int.pow_pos (by decide)
  have e:(2:Int) ^ (8 * k)=256 ^ k:=by rw [Int.pow_mul];rfl
  rw [List.range_succ,List.map_append,List.map_singleton,lowN_snoc,List.length_map,List.length_range,Int.natCast_add,low_range z k,Int.pow_succ,emod_next z _ hp,Int.natCast_mul,byteZ_nat,e]
  have e2:((256 ^ k:Nat):Int)=(256:Int) ^ k:=by simp
  rw [e2,Int.mul_comm,Int.add_comm]
theorem low_le8 (z:Int):((lowN (le8 z):Nat):Int)=z % 18446744073709551616:=low_range z 8
theorem num_back (z:Int) (h:numOk z):numP (le8 z) 8=z:=by
 obtain ⟨h1,h2⟩:=h
 have hl:=le8_len z
 rw [numP_low _ 8 (by omega) (by omega),List.take_of_length_le (by omega),low_le8]
 unfold wrap64
 omega
theorem numsDs_cons {x:DaT} {l:List DaT} (h:numsDs (x :: l)):numsD x∧numsDs l:=h
theorem decs_same (k:Nat) (f:Nat→List UInt8→Option (DaT × List UInt8 × Nat)) (hf:∀ (n:Nat) (x:DaT) (r:List UInt8),fitD x=true→depD x≤k→n+sizeD x≤4096→numsD x→∃ y,f n (encD x++r)=some (y,r,n+sizeD x)∧cmpD y x=0) :
  ∀ (l:List DaT) (n:Nat) (r:List UInt8),fitDs l=true→depDs l≤k→n+sizeDs l≤4096→numsDs l→∃ ys,decsF f l.length n (encDs l++r)=some (ys,r,n+sizeDs l)∧ys.length=l.length∧cmpDs ys l=0
 | [],n,r,_,_,_,_=>⟨[],by simp [decsF,encDs,sizeDs],rfl,by rw [cmpDs]⟩
 | x :: l,n,r,h1,h2,h3,h4=>by
  rw [fitDs,Bool.and_eq_true] at h1
  rw [depDs] at h2
  rw [sizeDs] at h3
  obtain ⟨y,hy,hc⟩:=hf n x (encDs l++r) h1.1 (by omega) (by omega) (numsDs_cons h4).1
  obtain ⟨ys,hys,hl,hcs⟩:=decs_same k f hf l (n+sizeD x) r h1.2 (by omega) (by omega) (numsDs_cons h4).2
  refine ⟨y :: ys,?_,by simp [hl],by rw [cmpDs,hc,hcs];rfl⟩
  rw [encDs,List.append_assoc,List.length_cons,decsF,hy]
  show (match decsF f l.length (n+sizeD x) (encDs l++r) with | none=>none | some (l,r2,n2)=>some (y :: l,r2,n2))=_
  rw [hys,sizeDs]
  simp [Nat.add_assoc]
theorem dec_same:∀ (k n:Nat) (x:DaT) (r:List UInt8),fitD x=true→depD x≤k→n+sizeD x≤4096→numsD x→∃ y,dec k n (encD x++r)=some (y,r,n+sizeD x)∧cmpD y x=0
 | 0,n,x,r,_,h,_,_=>by have:=depD_pos x;omega
 | k+1,n,.mk c z s l,r,h1,h2,h3,h4=>by
  cases c
  ·have e:encD (.mk false z s l)++r=0 :: (le8 z++r):=by rw [encD];simp
   have es:sizeD (.mk false z s l)=1:=by rw [sizeD];simp
   rw [numsD,if_neg (by decide)] at h4
   rw [e,es]
   rw [es] at h3
   refine ⟨.mk false (numP ((le8 z++r).take 8) 8) ⟨#[]⟩ [],?_,?_⟩
   ·show (if 4096 < n+1 then none else if (0:UInt8).toNat=0 then (if (le8 z++r).length < 8 then none else _) else _)=_
    have hl:=le8_len z
    rw [if_neg (by omega),if_pos (by decide),if_neg (by rw [List.length_append];omega)]
    rw [List.drop_left' hl]
   ·rw [List.take_left' (le8_len z),num_back z h4]
    have h:=cmpD_self (.mk false z ⟨#[]⟩ [])
    rw [cmpD] at h ⊢
    exact h
  ·rw [numsD,if_pos rfl] at h4
   rw [fitD,if_pos rfl] at h1
   simp only [Bool.and_eq_true,decide_eq_true_eq] at h1
   have es:sizeD (.mk true z s l)=1+sizeDs l:=by rw [sizeD];simp
   have ed:depD (.mk true z s l)=1+depDs l:=by rw [depD];simp
   rw [es] at h3 ⊢
   rw [ed] at h2
   obtain ⟨ys,hys,hyl,hyc⟩:=decs_same k (dec k) (dec_same k) l (n+1) r h1.2 (by omega) (by omega) h4
   have e:encD (.mk true z s l)++r=1 :: byteZ s.size :: (s.data.toList++(byteZ l.length :: (encDs l++r))):=by rw [encD];simp
   have hb1:=byteZ_small (n:=s.size) (by omega)
   have hb2:=byteZ_small (n:=l.length) (by omega)
   have hsl:s.data.toList.length=s.size:=by simp
   rw [e]
   refine ⟨.mk true 0 (bs ((s.data.toList++(byteZ l.length :: (encDs l++r))).take (byteZ s.size).toNat)) ys,?_,?_⟩
   ·show (if 4096 < n+1 then none else if (1:UInt8).toNat=0 then _ else if (1:UInt8).toNat=1 then strD (dec k) (n+1) (byteZ s.size :: (s.data.toList++(byteZ l.length :: (encDs l++r)))) else none)=_
    rw [if_neg (by omega),if_neg (by decide),if_pos (by decide),strD,if_pos (by rw [hb1,List.length_append];omega)]
    have hd:(s.data.toList++(byteZ l.length :: (encDs l++r))).drop (byteZ s.size).toNat=byteZ l.length :: (encDs l++r):=by rw [hb1];exact List.drop_left' hsl
    rw [hd]
    show (if (byteZ l.length).toNat≤8 then _ else none)=_
    rw [hb2,if_pos h1.1.2,hys]
    simp [Nat.add_assoc,Nat.add_comm,Nat.add_left_comm]
   ·rw [hb1,List.take_left' hsl,bs_back]
    have h:=cmpD_self (.mk true 0 s [])
    rw [cmpD,if_pos rfl,cmpDs] at h
    rw [cmpD,if_pos rfl,hyl,hyc]
    have h5:cmpI (l.length:Int) (l.length:Int)=0:=by unfold cmpI;simp
    rw [h5]
    simpa [cmpI] using h
/-- The reference's Same: whether neither comes ahead. -/
theorem same_gen (d:Nat) (Vol Vol2:Nat→Prop) (x y:DaT) (v1 v2:Value) (w:World) (h1:DaW d Vol x v1 w) (h2:DaW d Vol2 y v2 w) (hc:cmpD x y=0) :
  Calls Tryz.prog 26 #[v1,v2] w fun e w'=>e=.returned (.bool true)∧Below w.heap.size w w':=by
 obtain ⟨A,n,c,rfl⟩:=h1.this
 obtain ⟨A2,n2,c2,rfl⟩:=h2.this
 have HH1:=Lib.hid h1
 have HH2:=Lib.hid h2
 clear h1 h2
 obtain ⟨cc,hcc⟩:∃ q,x.ctor=q:=⟨_,rfl⟩
 obtain ⟨zz,hzz⟩:∃ q,x.int=q:=⟨_,rfl⟩
 obtain ⟨ss,hss⟩:∃ q,x.name=q:=⟨_,rfl⟩
 obtain ⟨cd,hcd⟩:∃ q,y.ctor=q:=⟨_,rfl⟩
 obtain ⟨zd,hzd⟩:∃ q,y.int=q:=⟨_,rfl⟩
 obtain ⟨sd,hsd⟩:∃ q,y.name=q:=⟨_,rfl⟩
 rw [hcc,hzz,hss] at HH1 ⊢
 rw [hcd,hzd,hsd] at HH2 ⊢
 clear hcc hzz hss hcd hzd hsd
 go_enter Tryz.func26,Tryz.ntmps26
 go_wp2_with fail
 try go_at_call 50
 have hb:=(below_alloc w (.cells #[.bool cc,.int .i64 zz,.string ss,.slice A n c] 46)).trans ((below_alloc (w.alloc (.cells #[.bool cc,.int .i64 zz,.string ss,.slice A n c] 46)) (.cells #[.bool cd,.int .i64 zd,.string sd,.slice A2 n2 c2] 46)).mono (by simp))
 have hcall:=rcompare_any d Vol Vol2 x y _ _ ((w.alloc (.cells #[.bool cc,.int .i64 zz,.string ss,.slice A n c] 46)).alloc (.cells #[.bool cd,.int .i64 zd,.string sd,.slice A2 n2 c2] 46)) (DaW.step d _ _ _ _ _ _ HH1.out (Kb.of_below hb) (fun _ _ e=>e)) (DaW.step d _ _ _ _ _ _ HH2.out (Kb.of_below hb) (fun _ _ e=>e))
 rw [hc] at hcall
 have HB:=Lib.hid hb
 clear hb
 with_reducible refine hcall.mono ?_
 rintro e w2 ⟨rfl,hb2⟩
 have HB2:=Lib.hid hb2
 clear hb2 hcall
 go_wp2_with fail
 go_ret
 exact ⟨rfl,HB.out.trans (HB2.out.mono HB.out.size)⟩
theorem itoa_some (z:Int):Lib.itoa z ≠ []:=by
 intro h
 unfold Lib.itoa at h
 split at h
 ·cases h
 ·rw [Lib.decDigits] at h
  split at h <;> simp at h
theorem form_nil {t:TermT} (h:termF t=[]):∃ k z,t=.mk k [] z []∧k ≠ 2:=by
 obtain ⟨k,s,z,l⟩:=t
 rw [termF,List.append_eq_nil_iff] at h
 obtain ⟨h1,h2⟩:=h
 have hl:l=[]:=by
  cases l with
  | nil=>rfl
  | cons y l =>
   rw [termsF] at h2
   unfold argsF at h2
   rw [if_neg (by simp)] at h2
   cases h2
 by_cases k2:k=2
 ·rw [if_pos k2] at h1
  exact absurd h1 (itoa_some z)
 ·rw [if_neg k2] at h1
  subst h1 hl
  exact ⟨k,z,rfl,k2⟩
theorem printD_any (d:Nat) (x:DaT) (v:Value) (w:World) (hE:Env w) (hv:TmW d (fun k=>w.heap.size≤k) (tmOf x) v w) (hn:numsD x) (hl:(termF (tmOf x)).length≤1099511627776) :
  Calls Tryz.prog 11 #[v] w fun e w'=>e=.returned (.string (bs (termF (tmOf x))))∧Below w.heap.size w w':=by
 by_cases hne:termF (tmOf x)=[]
 ·obtain ⟨k,z,he,k2⟩:=form_nil hne
  rw [hne]
  rw [he] at hv
  cases d with
  | zero=>exact hv.elim
  | succ d =>
   obtain ⟨va,rfl,A,c,rfl,_⟩:=hv
   exact printE k z A c w k2
 ·exact printTm_any d (tmOf x) v w hE hv (tm_ok x hn) hl hne
set_option maxRecDepth 100000 in
set_option maxHeartbeats 4000000 in
theorem dtextA_any (f:Nat→Addr) (d:Nat) (x:DaT) (v:Value) (w:World) (hE:Env w) (hS:Sents w f) (hv:DaW d (fun k=>w.heap.size≤k) x v w) (hn:numsD x) (hl:goodD x=true→(termF (tmOf x)).length≤1099511627776) :
  Calls Tryz.prog 23 #[v] w fun e w'=>e=.returned (textV f x)∧Below w.heap.size w w':=by
 obtain ⟨A,n,c,rfl⟩:=hv.this
 have hb:=below_alloc w (.cells #[.bool x.ctor,.int .i64 x.int,.string x.name,.slice A n c] 46)
 have HB:=Lib.hid hb
 have HV:=Lib.hid ((DaW.step d).below hv hb)
 have HX:=Lib.hid (heap_alloc_new w (.cells #[.bool x.ctor,.int .i64 x.int,.string x.name,.slice A n c] 46))
 have HEE:=Lib.hid (hE.below hb)
 have HS:=Lib.hid (hS.below hb)
 have HN:=Lib.hid hn
 have HL:=Lib.hid hl
 clear hb hv hE hS hn hl
 obtain ⟨cc,hcc⟩:∃ cc,x.ctor=cc:=⟨_,rfl⟩
 obtain ⟨zz,hzz⟩:∃ zz,x.int=zz:=⟨_,rfl⟩
 obtain ⟨ss,hss⟩:∃ ss,x.name=ss:=⟨_,rfl⟩
 rw [hcc,hzz,hss] at HB HV HX HEE HS ⊢
 clear hcc hzz hss
 go_enter Tryz.func23,Tryz.ntmps23
 have x0:=(cellH HX.out 0).trans rfl
 have x1:=(cellH HX.out 1).trans rfl
 have x2:=(cellH HX.out 2).trans rfl
 have x3:=(cellH HX.out 3).trans rfl
 go_wp2_with fail
 clear x0 x1 x2 x3
 generalize (w.alloc (.cells #[.bool cc,.int .i64 zz,.string ss,.slice A n c] 46))=W at HB HV HX HEE HS ⊢
 obtain ⟨N0,hN0⟩:∃ N0,w.heap.size=N0:=⟨_,rfl⟩
 have HN0:=Lib.hid hN0
 rw [hN0] at HX
 try rw [hN0]
 clear hN0
 try go_at_call 18
 refine (good_any d _ x _ W HV.out).mono ?_
 rintro e w1 ⟨rfl,hb1⟩
 have HB1:=Lib.hid (HB.out.trans (hb1.mono HB.out.size))
 have HX1:=Lib.hid ((hb1.block _ (Array.getElem?_eq_some_iff.1 HX.out).1).trans HX.out)
 have HV1:=Lib.hid ((DaW.step d).below HV.out hb1)
 have HE1:=Lib.hid (HEE.out.below hb1)
 have HS1:=Lib.hid (HS.out.below hb1)
 clear hb1
 cases hg:goodD x
 ·have HT:=Lib.hid (show textV f x=.tuple #[.string ⟨#[]⟩,errP (f 3)] by unfold textV;rw [hg,if_neg (by decide)])
  have hgl:w1.cell? ⟨0,0,none⟩=some (errP (f 3)):=HS1.out.cell 3 (by omega)
  clear hg
  go_wp2_with fail
  go_quiet (fail)
  go_wp2_with fail
  exact bodyPost_ret (v:=.tuple #[.string ⟨#[]⟩,errP (f 3)]) (by simp [results,Tryz.results23,go_sem]) rfl ⟨by rw [HT.out],below_drewN HB1.out _⟩
 ·have HT:=Lib.hid (show textV f x=.tuple #[.string (bs (termF (tmOf x))),.nilIface] by unfold textV;rw [hg,if_pos rfl])
  have HFW:=Lib.hid (size_few x (good_size hg))
  have HLL:=Lib.hid (HL.out hg)
  clear hg
  have x0:=(cellH HX1.out 0).trans rfl
  have x1:=(cellH HX1.out 1).trans rfl
  have x2:=(cellH HX1.out 2).trans rfl
  have x3:=(cellH HX1.out 3).trans rfl
  go_wp2_with fail
  clear x0 x1 x2 x3
  try go_at_call 48
  refine (termOf_any d (fun k=>k < 0) x _ w1 (DaW.step d _ _ _ _ _ _ HV1.out (Kb.refl _ _) (fun k _ e=>absurd e (by omega))) HFW.out (fun k e=>absurd e (by omega))).mono ?_
  rintro e w2 ⟨v2,rfl,hv2,hb2⟩
  have HB2:=Lib.hid (HB1.out.trans (hb2.mono HB1.out.size))
  have HE2:=Lib.hid (HE1.out.below hb2)
  have HV2:=Lib.hid (TmW.step d _ (fun k=>w2.heap.size≤k) _ _ _ _ hv2 (Kb.refl _ _) (fun k h e=>by have e2:w2.heap.size≤k:=e;omega))
  obtain ⟨y0,y1,y2,y3,y4,y5,rfl⟩:=hv2.shape
  clear hb2 hv2
  go_wp2_with fail
  try go_at_call 11
  refine (printD_any d x _ w2 HE2.out HV2.out HN.out HLL.out).mono ?_
  rintro e w3 ⟨rfl,hb3⟩
  have HB3:=Lib.hid (HB2.out.trans (hb3.mono HB2.out.size))
  clear hb3
  go_wp2_with fail
  exact bodyPost_ret (v:=.tuple #[.string (bs (termF (tmOf x))),.nilIface]) (by simp [results,Tryz.results23,go_sem]) rfl ⟨by rw [HT.out],HB3.out⟩
end Lx
end Go.Proofs.YtiljemkglhloeaaGreatDoor
namespace Go.Proofs.YtiljemkglhloeaaGreatDoor
set_option linter.unusedSimpArgs false
set_option linter.unusedVariables false
namespace Lx
open Go Go.RowKit Go.Sort
/-- What is encoded: the bytes, the error, its number. -/
def encL (x:DaT):List UInt8:=if goodD x=true then (if fitD x=true then encD x else []) else []
def encE (f:Nat→Addr) (x:DaT):Value:=if goodD x=true then (if fitD x=true then .nilIface else errP (f 9)) else errP (f 3)
def encN (x:DaT):Int:=if goodD x=true then (if fitD x=true then 0 else 10) else 4
theorem own_nilB (B:Nat) (w:World):OwnB B [] (.slice none 0 0) w:=World.ownsRow_nil _ _ _ _
theorem encode_all (f:Nat→Addr) (d:Nat) (x:DaT) (v:Value) (w:World) (hv:DaW d (fun k=>w.heap.size≤k) x v w) (hS:Sents w f) :
  Calls Tryz.prog 16 #[v] w fun e w'=>∃ A m c,e=.returned (.tuple #[.slice A m c,encE f x])∧OwnB w.heap.size (encL x) (.slice A m c) w'∧Below w.heap.size w w':=by
 refine (encode_any (fun i=>if i=0 then f 3 else f 9) d x v w hv ⟨hS.cell 3 (by omega),hS.cell 9 (by omega)⟩).mono ?_
 rintro e w' ⟨hb,⟨hg,hf,A,m,c,rfl,ho⟩ | ⟨hg,rfl⟩ | ⟨hg,hf,rfl⟩⟩
 ·exact ⟨A,m,c,by unfold encE;rw [hg,hf,if_pos rfl,if_pos rfl],by unfold encL;rw [hg,hf,if_pos rfl,if_pos rfl];exact ho,hb⟩
 ·exact ⟨none,0,0,by unfold encE;rw [hg,if_neg (by decide)];rfl,by unfold encL;rw [hg,if_neg (by decide)];exact own_nilB _ _,hb⟩
 ·exact ⟨none,0,0,by unfold encE;rw [hg,hf,if_pos rfl,if_neg (by decide)];rfl,by unfold encL;rw [hg,hf,if_pos rfl,if_neg (by decide)];exact own_nilB _ _,hb⟩
theorem rencode_all (d:Nat) (Vol:Nat→Prop) (x:DaT) (v:Value) (w:World) (hv:DaW d Vol x v w) :
  Calls Tryz.prog 17 #[v] w fun e w'=>∃ A m c,e=.returned (.tuple #[.slice A m c,.int .i64 (encN x)])∧OwnB w.heap.size (encL x) (.slice A m c) w'∧Below w.heap.size w w':=by
 refine (rencode_any d Vol x v w hv).mono ?_
 rintro e w' ⟨hb,⟨hg,hf,A,m,c,rfl,ho⟩ | ⟨hg,rfl⟩ | ⟨hg,hf,rfl⟩⟩
 ·exact ⟨A,m,c,by unfold encN;rw [hg,hf,if_pos rfl,if_pos rfl],by unfold encL;rw [hg,hf,if_pos rfl,if_pos rfl];exact ho,hb⟩
 ·exact ⟨none,0,0,by unfold encN;rw [hg,if_neg (by decide)],by unfold encL;rw [hg,if_neg (by decide)];exact own_nilB _ _,hb⟩
 ·exact ⟨none,0,0,by unfold encN;rw [hg,hf,if_pos rfl,if_neg (by decide)],by unfold encL;rw [hg,hf,if_pos rfl,if_neg (by decide)];exact own_nilB _ _,hb⟩
theorem num_enc (f:Nat→Addr) (x:DaT) (w:World) (hS:Sents w f) :
  Calls Tryz.prog 22 #[encE f x] w fun e w'=>e=.returned (.int .i64 (encN x))∧Below w.heap.size w w':=by
 unfold encE encN
 cases goodD x
 ·exact num_lit f 3 (by omega) 4 rfl w hS
 ·rw [if_pos rfl,if_pos rfl]
  cases fitD x
  ·exact num_lit f 9 (by omega) 10 rfl w hS
  ·exact num_readO f (.ok x) w hS
theorem okE_same {d:Nat} {x:DaT} {v1:Value} {y:DaT} {v2:Value} {Vol Vol2:Nat→Prop} {w:World} (h1:DaE Vol y v1 w) (h2:DaW d Vol2 x v2 w) (hc:cmpD y x=0) :
  Calls Tryz.prog 26 #[v1,v2] w fun e w'=>e=.returned (.bool true)∧Below w.heap.size w w':=by
 obtain ⟨d1,h1⟩:=h1
 exact same_gen (d1+d) Vol Vol2 y x v1 v2 w (DaW.ups (by omega) h1) (DaW.ups (by omega) h2) hc
set_option maxRecDepth 100000 in
set_option maxHeartbeats 16000000 in
theorem lawForms_any (d:Nat) (x:DaT) (v:Value) (w:World) (hv:DaW d (fun _=>False) x v w) (hn:numsD x) (hl:goodD x=true→(termF (tmOf x)).length≤1099511627776) (hE:Env w) (f:Nat→Addr) (hS:Sents w f) :
  Calls Tryz.prog 4 #[v] w fun e w'=>e=.returned (.bool true)∧Below w.heap.size w w':=by
 have hold:=DaW.old hv (Nat.le_refl _)
 obtain ⟨A,n,c,rfl⟩:=hv.this
 have hb0:=below_alloc w (.cells #[.bool x.ctor,.int .i64 x.int,.string x.name,.slice A n c] 46)
 have HB0:=Lib.hid hb0
 have HV0:=Lib.hid ((DaW.step d).below hold hb0)
 have HX0:=Lib.hid (heap_alloc_new w (.cells #[.bool x.ctor,.int .i64 x.int,.string x.name,.slice A n c] 46))
 have HE0:=Lib.hid (hE.below hb0)
 have HS0:=Lib.hid (hS.below hb0)
 have HN:=Lib.hid hn
 have HL:=Lib.hid hl
 have HZ0:=Lib.hid hb0.size
 clear hb0 hold hv hE hS hn hl
 obtain ⟨cc,hcc⟩:∃ q,x.ctor=q:=⟨_,rfl⟩
 obtain ⟨zz,hzz⟩:∃ q,x.int=q:=⟨_,rfl⟩
 obtain ⟨ss,hss⟩:∃ q,x.name=q:=⟨_,rfl⟩
 rw [hcc,hzz,hss] at HB0 HV0 HX0 HE0 HS0 HZ0 ⊢
 clear hcc hzz hss
 go_enter Tryz.func4,Tryz.ntmps4
 go_wp2_with fail
 generalize (w.alloc (.cells #[.bool cc,.int .i64 zz,.string ss,.slice A n c] 46))=W0 at HB0 HV0 HX0 HE0 HS0 HZ0 ⊢
 obtain ⟨X,hX⟩:∃ X,w.heap.size=X:=⟨_,rfl⟩
 have HX:=Lib.hid hX
 rw [hX] at HX0
 try rw [hX]
 clear hX
 try go_at_call 15
 refine (dalive_any (fun i=>if i=0 then f 3 else f 9) W0 ⟨HS0.out.cell 3 (by omega),HS0.out.cell 9 (by omega)⟩).mono ?_
 rintro e w1 ⟨rfl,hb1⟩
 have HB1:=Lib.hid (HB0.out.trans (hb1.mono HB0.out.size))
 have HV1:=Lib.hid ((DaW.step d).below HV0.out hb1)
 have HX1:=Lib.hid ((hb1.block _ (Array.getElem?_eq_some_iff.1 HX0.out).1).trans HX0.out)
 have HE1:=Lib.hid (HE0.out.below hb1)
 have HS1:=Lib.hid (HS0.out.below hb1)
 clear hb1 HB0 HV0 HX0 HE0 HS0 HZ0
 have x0:=(cellH HX1.out 0).trans rfl
 have x1:=(cellH HX1.out 1).trans rfl
 have x2:=(cellH HX1.out 2).trans rfl
 have x3:=(cellH HX1.out 3).trans rfl
 go_wp2_with fail
 clear x0 x1 x2 x3
 try go_at_call 16
 refine (encode_all f d x _ w1 (DaW.step d _ _ _ _ _ _ HV1.out (Kb.refl _ _) (fun k h e=>by have e2:w1.heap.size≤k:=e;omega)) HS1.out).mono ?_
 rintro e w2 ⟨A2,m2,c2,rfl,ho2,hb2⟩
 have HB2:=Lib.hid (HB1.out.trans (hb2.mono HB1.out.size))
 have HV2:=Lib.hid ((DaW.step d).below HV1.out hb2)
 have HX2:=Lib.hid ((hb2.block _ (Array.getElem?_eq_some_iff.1 HX1.out).1).trans HX1.out)
 have HE2:=Lib.hid (HE1.out.below hb2)
 have HS2:=Lib.hid (HS1.out.below hb2)
 have HO2:Hid (OwnB X (encL x) (.slice A2 m2 c2) w2):=Lib.hid (own_base ho2 (by have:=HB1.out.size;have:=HX.out;omega))
 clear hb2 ho2
 have x0:=(cellH HX2.out 0).trans rfl
 have x1:=(cellH HX2.out 1).trans rfl
 have x2:=(cellH HX2.out 2).trans rfl
 have x3:=(cellH HX2.out 3).trans rfl
 generalize hEE:encE f x=EE
 have HEE:=Lib.hid hEE
 clear hEE
 go_wp2_with fail
 clear x0 x1 x2 x3
 try go_at_call 17
 refine (rencode_all d _ x _ w2 HV2.out).mono ?_
 rintro e w3 ⟨A3,m3,c3,rfl,ho3,hb3⟩
 have HB3:=Lib.hid (HB2.out.trans (hb3.mono HB2.out.size))
 have HV3:=Lib.hid ((DaW.step d).below HV2.out hb3)
 have HX3:=Lib.hid ((hb3.block _ (Array.getElem?_eq_some_iff.1 HX2.out).1).trans HX2.out)
 have HE3:=Lib.hid (HE2.out.below hb3)
 have HS3:=Lib.hid (HS2.out.below hb3)
 have HO23:=Lib.hid (HO2.out.below hb3)
 have HO3:Hid (OwnB X (encL x) (.slice A3 m3 c3) w3):=Lib.hid (own_base ho3 (by have:=HB2.out.size;have:=HX.out;omega))
 clear hb3 ho3
 generalize hnn:encN x=nn
 have HNN:=Lib.hid hnn
 clear hnn
 have g0:=fun d os=>cell_regrown ((cellH HX3.out 0).trans rfl) d os
 have g1:=fun d os=>cell_regrown ((cellH HX3.out 1).trans rfl) d os
 have g2:=fun d os=>cell_regrown ((cellH HX3.out 2).trans rfl) d os
 have g3:=fun d os=>cell_regrown ((cellH HX3.out 3).trans rfl) d os
 have HC1:=Lib.hid (fun dq os=>Calls.regrown_of (w:=w3) (d:=dq) (os:=os) (good_any d _ x _ _ ((DaW.step d).below HV3.out (below_regrown w3 dq os))))
 have HC2:=Lib.hid (fun dq os=>Calls.regrown_of (w:=w3) (d:=dq) (os:=os) (rgood_any d _ x _ _ ((DaW.step d).below HV3.out (below_regrown w3 dq os))))
 have HC3:=Lib.hid (fun dq os=>Calls.regrown_of (w:=w3) (d:=dq) (os:=os) (nodes_any d _ x _ _ ((DaW.step d).below HV3.out (below_regrown w3 dq os))))
 have HC4:=Lib.hid (fun dq os=>Calls.regrown_of (w:=w3) (d:=dq) (os:=os) (rnod_any d _ x _ _ ((DaW.step d).below HV3.out (below_regrown w3 dq os))))
 have HC5:=Lib.hid (fun dq os=>Calls.regrown_of (w:=w3) (d:=dq) (os:=os) (num_enc f x _ (HS3.out.below (below_regrown w3 dq os))))
 have HT2:=fun dq os=>own_text (HO23.out.below (below_regrown w3 dq os))
 have HT3:=fun dq os=>own_text (HO3.out.below (below_regrown w3 dq os))
 have hbn:=bne_selfS (bs (encL x))
 have hgn:(goodD x != goodD x)=false:=by simp
 have hnq:(nn != nn)=false:=by simp
 obtain ⟨q,hq⟩:∃ q:Nat,min (sizeD x) 4097=q:=⟨_,rfl⟩
 rw [HEE.out,HNN.out] at HC5
 rw [hq] at HC3 HC4
 clear hq
 have hqn:((q:Int) != (q:Int))=false:=by simp
 go_upto_region 5 with fail
 refine wp_region_quiet_below (by kernel_rfl) (by kernel_rfl) ?_
 repeat (first | go_big_quiet_step (first | (go_at_call 18;exact HC1.out _ _) | (go_at_call 19;exact HC2.out _ _) | (go_at_call 20;exact HC3.out _ _) | (go_at_call 21;exact HC4.out _ _) | (go_at_call 22;exact HC5.out _ _)) | quiet_step (first | (go_at_call 18;exact HC1.out _ _) | (go_at_call 19;exact HC2.out _ _) | (go_at_call 20;exact HC3.out _ _) | (go_at_call 21;exact HC4.out _ _) | (go_at_call 22;exact HC5.out _ _)))
 refine wpQuiet_nil ?_
 intro _ hw'
 obtain ⟨⟨dq,osq⟩,hw''⟩:=hw'
 subst hw''
 have hbq:=below_regrown w3 dq osq
 have HB4:=Lib.hid (HB3.out.trans (hbq.mono HB3.out.size))
 have HV4:=Lib.hid ((DaW.step d).below HV3.out hbq)
 have HX4:=Lib.hid ((hbq.block _ (Array.getElem?_eq_some_iff.1 HX3.out).1).trans HX3.out)
 have HE4:=Lib.hid (HE3.out.below hbq)
 have HS4:=Lib.hid (HS3.out.below hbq)
 have HO4:=Lib.hid (HO23.out.below hbq)
 clear hbq g0 g1 g2 g3 HC1 HC2 HC3 HC4 HC5 HT2 HT3 hbn hgn hnq hqn HO23 HO3 HB3 HV3 HX3 HE3 HS3
 generalize grow (redrawn w3 dq) osq=w4 at HB4 HV4 HX4 HE4 HS4 HO4 ⊢
 have x0:=(cellH HX4.out 0).trans rfl
 have x1:=(cellH HX4.out 1).trans rfl
 have x2:=(cellH HX4.out 2).trans rfl
 have x3:=(cellH HX4.out 3).trans rfl
 go_wp2_with fail
 clear x0 x1 x2 x3
 try go_at_call 23
 refine (dtextA_any f d x _ w4 HE4.out HS4.out (DaW.step d _ _ _ _ _ _ HV4.out (Kb.refl _ _) (fun k h e=>by have e2:w4.heap.size≤k:=e;omega)) HN.out HL.out).mono ?_
 rintro e w5 ⟨rfl,hb5⟩
 have HB5:=Lib.hid (HB4.out.trans (hb5.mono HB4.out.size))
 have HV5:=Lib.hid ((DaW.step d).below HV4.out hb5)
 have HX5:=Lib.hid ((hb5.block _ (Array.getElem?_eq_some_iff.1 HX4.out).1).trans HX4.out)
 have HE5:=Lib.hid (HE4.out.below hb5)
 have HS5:=Lib.hid (HS4.out.below hb5)
 have HO5:=Lib.hid (HO4.out.below hb5)
 clear hb5 HB4 HV4 HX4 HE4 HS4 HO4
 have HRG:=Lib.hid (rgood_any d _ x _ w5 HV5.out)
 cases hg:goodD x
 ·have hT:textV f x=.tuple #[.string ⟨#[]⟩,errP (f 3)]:=by unfold textV;rw [hg,if_neg (by decide)]
  rw [hT]
  rw [hg] at HRG
  clear hg hT
  have x0:=(cellH HX5.out 0).trans rfl
  have x1:=(cellH HX5.out 1).trans rfl
  have x2:=(cellH HX5.out 2).trans rfl
  have x3:=(cellH HX5.out 3).trans rfl
  go_wp2_with fail
  clear x0 x1 x2 x3
  try go_at_call 19
  refine HRG.out.mono ?_
  rintro e w6 ⟨rfl,hb6⟩
  have HB6:=Lib.hid (HB5.out.trans (hb6.mono HB5.out.size))
  have hgl:w6.cell? ⟨0,0,none⟩=some (errP (f 3)):=(HS5.out.below hb6).cell 3 (by omega)
  have hq2:=eqlP_same (f 3)
  clear hb6
  go_wp2_with fail
  go_ret
  exact ⟨rfl,HB6.out⟩
 ·have hT:textV f x=.tuple #[.string (bs (termF (tmOf x))),.nilIface]:=by unfold textV;rw [hg,if_pos rfl]
  rw [hT]
  rw [hg] at HRG
  have HLL:=Lib.hid (HL.out hg)
  have HG:=Lib.hid hg
  clear hg hT
  have HRT:=Lib.hid (fun (w:World) (h:DaW d (fun k=>X≤k) x (.agg #[.bool cc,.int .i64 zz,.string ss,.slice A n c]) w)=>rtxt_any d _ x _ w h HN.out (by rw [dtx_form];have:=HLL.out;omega))
  rw [dtx_form] at HRT
  generalize hF:termF (tmOf x)=F at HRT HLL ⊢
  clear hF
  have x0:=(cellH HX5.out 0).trans rfl
  have x1:=(cellH HX5.out 1).trans rfl
  have x2:=(cellH HX5.out 2).trans rfl
  have x3:=(cellH HX5.out 3).trans rfl
  go_wp2_with fail
  clear x0 x1 x2 x3
  try go_at_call 19
  refine HRG.out.mono ?_
  rintro e w6 ⟨rfl,hb6⟩
  have HB6:=Lib.hid (HB5.out.trans (hb6.mono HB5.out.size))
  have HV6:=Lib.hid ((DaW.step d).below HV5.out hb6)
  have HX6:=Lib.hid ((hb6.block _ (Array.getElem?_eq_some_iff.1 HX5.out).1).trans HX5.out)
  have HE6:=Lib.hid (HE5.out.below hb6)
  have HS6:=Lib.hid (HS5.out.below hb6)
  have HO6:=Lib.hid (HO5.out.below hb6)
  clear hb6 HB5 HV5 HX5 HE5 HS5 HO5 HRG
  have x0:=(cellH HX6.out 0).trans rfl
  have x1:=(cellH HX6.out 1).trans rfl
  have x2:=(cellH HX6.out 2).trans rfl
  have x3:=(cellH HX6.out 3).trans rfl
  have hnn0:=neqN_nil
  go_wp2_with fail
  clear x0 x1 x2 x3
  try go_at_call 24
  refine (HRT.out w6 (by rw [← HX.out];exact HV6.out)).mono ?_
  rintro e w7 ⟨rfl,hb7⟩
  have HB7:=Lib.hid (HB6.out.trans (hb7.mono HB6.out.size))
  have HV7:=Lib.hid ((DaW.step d).below HV6.out hb7)
  have HX7:=Lib.hid ((hb7.block _ (Array.getElem?_eq_some_iff.1 HX6.out).1).trans HX6.out)
  have HE7:=Lib.hid (HE6.out.below hb7)
  have HS7:=Lib.hid (HS6.out.below hb7)
  have HO7:=Lib.hid (HO6.out.below hb7)
  clear hb7 HB6 HV6 HX6 HE6 HS6 HO6 HRT
  have hbn:=bne_selfS (bs F)
  cases hf:fitD x
  ·obtain rfl:10=nn:=by have h:=HNN.out;unfold encN at h;rw [HG.out,hf,if_pos rfl,if_neg (by decide)] at h;exact h
   clear hf
   have HBt:=HB7
   have HEt:=HE7
   have HSt:=HS7
   clear HB7 HE7 HS7 HV7 HX7 HO7 HEE HNN
   go_wp2_with fail
   obtain ⟨O,hO⟩:∃ O,readO (bs F)=O:=⟨_,rfl⟩
   have HO:=Lib.hid hO
   clear hO
   try go_at_call 27
   refine (dread_any (bs F) _ HEt.out f HSt.out).mono ?_
   rintro e u2 ⟨v,rfl,hb2,hh⟩
   rw [HO.out] at hh ⊢
   have hd:=held_da hh
   obtain ⟨A,n,c,hve⟩:=hd.this
   obtain ⟨cc,hcc⟩:∃ cc,O.thing.ctor=cc:=⟨_,rfl⟩
   obtain ⟨zz,hzz⟩:∃ zz,O.thing.int=zz:=⟨_,rfl⟩
   obtain ⟨ss,hss⟩:∃ ss,O.thing.name=ss:=⟨_,rfl⟩
   rw [hcc,hzz,hss] at hve
   subst hve
   have HC:=Lib.hid hcc
   have HZ:=Lib.hid hzz
   have HN:=Lib.hid hss
   have hbx:=below_alloc u2 (.cells #[.bool cc,.int .i64 zz,.string ss,.slice A n c] 46)
   have HB2:=Lib.hid ((HBt.out.trans (hb2.mono HBt.out.size)).trans (hbx.mono (Nat.le_trans HBt.out.size hb2.size)))
   have HE2:=Lib.hid ((HEt.out.below hb2).below hbx)
   have HS2:=Lib.hid ((HSt.out.below hb2).below hbx)
   have HD2:=Lib.hid (DaE.step _ _ _ _ _ _ hd (Kb.of_below hbx) (fun _ _ e=>e))
   have HX2:=Lib.hid (heap_alloc_new u2 (.cells #[.bool cc,.int .i64 zz,.string ss,.slice A n c] 46))
   have HW2:=Lib.hid hb2.size
   clear hcc hzz hss hbx hb2 hh hd
   generalize hEE:O.err f=EE
   have HEE:=Lib.hid hEE
   clear hEE
   go_upto_region 17 with fail
   generalize u2.alloc (.cells #[.bool cc,.int .i64 zz,.string ss,.slice A n c] 46)=W2 at HB2 HE2 HS2 HD2 HX2 ⊢
   obtain ⟨N2,hN2⟩:∃ N2,u2.heap.size=N2:=⟨_,rfl⟩
   rw [hN2] at HX2 ⊢
   clear hN2
   go_wp2_with fail
   try go_at_call 28
   refine (rdread_any (bs F) W2).mono ?_
   rintro e u3 ⟨v3,rfl,hb3,hh⟩
   rw [HO.out] at hh ⊢
   have hd:=held_da hh
   obtain ⟨A3,n3,c3,hve⟩:=hd.this
   rw [HC.out,HZ.out,HN.out] at hve
   subst hve
   have hbx:=below_alloc u3 (.cells #[.bool cc,.int .i64 zz,.string ss,.slice A3 n3 c3] 46)
   have HB3:=Lib.hid ((HB2.out.trans (hb3.mono HB2.out.size)).trans (hbx.mono (Nat.le_trans HB2.out.size hb3.size)))
   have HE3:=Lib.hid ((HE2.out.below hb3).below hbx)
   have HS3:=Lib.hid ((HS2.out.below hb3).below hbx)
   have HD3:=Lib.hid (DaE.step _ _ _ _ _ _ hd (Kb.of_below hbx) (fun _ _ e=>e))
   have HX3:=Lib.hid (heap_alloc_new u3 (.cells #[.bool cc,.int .i64 zz,.string ss,.slice A3 n3 c3] 46))
   have hb32:=hb3.trans (hbx.mono hb3.size)
   have HX23:=Lib.hid ((hb32.block _ (Array.getElem?_eq_some_iff.1 HX2.out).1).trans HX2.out)
   have HD23:=Lib.hid (DaE.step _ _ _ _ _ _ HD2.out (Kb.of_below hb32) (fun _ _ e=>e))
   clear hbx hb3 hh hd hb32
   generalize hnn:O.num=nn
   have HNN:=Lib.hid hnn
   clear hnn
   go_upto_region 18 with fail
   generalize u3.alloc (.cells #[.bool cc,.int .i64 zz,.string ss,.slice A3 n3 c3] 46)=W3 at HB3 HE3 HS3 HD3 HX3 HX23 HD23 ⊢
   obtain ⟨N3,hN3⟩:∃ N3,u3.heap.size=N3:=⟨_,rfl⟩
   rw [hN3] at HX3 ⊢
   clear hN3
   go_wp2_with fail
   try go_at_call 22
   rw [← HEE.out]
   refine (num_readO f O W3 HS3.out).mono ?_
   rintro e u4 ⟨rfl,hb4⟩
   rw [HNN.out,HEE.out]
   have HB4:=Lib.hid (HB3.out.trans (hb4.mono HB3.out.size))
   have HE4:=Lib.hid (HE3.out.below hb4)
   have HS4:=Lib.hid (HS3.out.below hb4)
   have HD4:=Lib.hid (DaE.step _ _ _ _ _ _ HD3.out (Kb.of_below hb4) (fun _ _ e=>e))
   have HD24:=Lib.hid (DaE.step _ _ _ _ _ _ HD23.out (Kb.of_below hb4) (fun _ _ e=>e))
   have HX4:=Lib.hid ((hb4.block _ (Array.getElem?_eq_some_iff.1 HX3.out).1).trans HX3.out)
   have HX24:=Lib.hid ((hb4.block _ (Array.getElem?_eq_some_iff.1 HX23.out).1).trans HX23.out)
   clear hb4
   have hnq:(nn == nn)=true:=by simp
   have t0:=(cellH HX4.out 0).trans rfl
   have t1:=(cellH HX4.out 1).trans rfl
   have t2:=(cellH HX4.out 2).trans rfl
   have t3:=(cellH HX4.out 3).trans rfl
   have u0:=(cellH HX24.out 0).trans rfl
   have u1:=(cellH HX24.out 1).trans rfl
   have u2:=(cellH HX24.out 2).trans rfl
   have u3:=(cellH HX24.out 3).trans rfl
   go_wp2_with fail
   try go_at_call 26
   refine (same_selfE _ _ O.thing _ _ u4 HD24.out HD4.out).mono ?_
   rintro e u5 ⟨rfl,hb5⟩
   have HB5:=Lib.hid (HB4.out.trans (hb5.mono HB4.out.size))
   have HE5:=Lib.hid (HE4.out.below hb5)
   have HS5:=Lib.hid (HS4.out.below hb5)
   have HD25:=Lib.hid (DaE.step _ _ _ _ _ _ HD24.out (Kb.of_below hb5) (fun _ _ e=>e))
   have HX25:=Lib.hid ((hb5.block _ (Array.getElem?_eq_some_iff.1 HX24.out).1).trans HX24.out)
   clear hb5 t0 t1 t2 t3 u0 u1 u2 u3 hnq
   go_wp2_with fail
   go_ret
   exact ⟨rfl,HB5.out⟩
  ·obtain rfl:0=nn:=by have h:=HNN.out;unfold encN at h;rw [HG.out,hf,if_pos rfl,if_pos rfl] at h;exact h
   have HEL:=Lib.hid (show encL x=encD x by unfold encL;rw [HG.out,hf,if_pos rfl,if_pos rfl])
   have HGD:=Lib.hid (show sizeD x≤4096∧depD x≤200 by have h:=HG.out;unfold goodD at h;simpa using h)
   have HDS:=Lib.hid (dec_same 200 0 x [] hf HGD.out.2 (by have:=HGD.out.1;omega) HN.out)
   clear hf
   go_wp2_with fail
   try go_at_call 25
   have hdec:=decode_any (f 10) (fun _=>False) (encL x) _ w7 HO7.out.row (HS7.out.cell 10 (by omega))
   rw [HEL.out] at hdec
   refine hdec.mono ?_
   rintro e w8 ⟨hb8,⟨y,m,v8,hd8,rfl,hv8⟩ | ⟨hno,rfl⟩⟩
   ·have HCM:Hid (cmpD y x=0):=Lib.hid (by
     obtain ⟨y2,h1,h2⟩:=HDS.out
     rw [List.append_nil,hd8] at h1
     injection h1 with h1
     injection h1 with h1 _
     rw [h1]
     exact h2)
    clear hd8 HDS hdec
    obtain ⟨A8,n8,c8,hve⟩:=hv8.this
    obtain ⟨cy,hcy⟩:∃ q,y.ctor=q:=⟨_,rfl⟩
    obtain ⟨zy,hzy⟩:∃ q,y.int=q:=⟨_,rfl⟩
    obtain ⟨sy,hsy⟩:∃ q,y.name=q:=⟨_,rfl⟩
    rw [hcy,hzy,hsy] at hve
    subst hve
    clear hcy hzy hsy
    have hbx:=below_alloc w8 (.cells #[.bool cy,.int .i64 zy,.string sy,.slice A8 n8 c8] 46)
    have hb82:=hb8.trans (hbx.mono hb8.size)
    have HB8:=Lib.hid (HB7.out.trans (hb82.mono HB7.out.size))
    have HE8:=Lib.hid (HE7.out.below hb82)
    have HS8:=Lib.hid (HS7.out.below hb82)
    have HV8:=Lib.hid ((DaW.step d).below HV7.out hb82)
    have HX8:=Lib.hid ((hb82.block _ (Array.getElem?_eq_some_iff.1 HX7.out).1).trans HX7.out)
    have HY8:=Lib.hid (DaE.step _ _ _ _ _ _ hv8 (Kb.of_below hbx) (fun _ _ e=>e))
    have HZ8:=Lib.hid (heap_alloc_new w8 (.cells #[.bool cy,.int .i64 zy,.string sy,.slice A8 n8 c8] 46))
    clear hb8 hbx hb82 hv8 HB7 HE7 HS7 HV7 HX7 HO7 HEE HNN
    go_upto_region 14 with fail
    generalize w8.alloc (.cells #[.bool cy,.int .i64 zy,.string sy,.slice A8 n8 c8] 46)=W8 at HB8 HE8 HS8 HV8 HX8 HY8 HZ8 ⊢
    obtain ⟨N8,hN8⟩:∃ N8,w8.heap.size=N8:=⟨_,rfl⟩
    rw [hN8] at HZ8 ⊢
    clear hN8
    have x0:=(cellH HX8.out 0).trans rfl
    have x1:=(cellH HX8.out 1).trans rfl
    have x2:=(cellH HX8.out 2).trans rfl
    have x3:=(cellH HX8.out 3).trans rfl
    have y0:=(cellH HZ8.out 0).trans rfl
    have y1:=(cellH HZ8.out 1).trans rfl
    have y2:=(cellH HZ8.out 2).trans rfl
    have y3:=(cellH HZ8.out 3).trans rfl
    go_wp2_with fail
    clear x0 x1 x2 x3 y0 y1 y2 y3
    try go_at_call 26
    refine (okE_same HY8.out HV8.out HCM.out).mono ?_
    rintro e w9 ⟨rfl,hb9⟩
    have HBt:=Lib.hid (HB8.out.trans (hb9.mono HB8.out.size))
    have HEt:=Lib.hid (HE8.out.below hb9)
    have HSt:=Lib.hid (HS8.out.below hb9)
    clear hb9 HB8 HE8 HS8 HV8 HX8 HY8 HZ8 HCM
    go_wp2_with fail
    obtain ⟨O,hO⟩:∃ O,readO (bs F)=O:=⟨_,rfl⟩
    have HO:=Lib.hid hO
    clear hO
    try go_at_call 27
    refine (dread_any (bs F) _ HEt.out f HSt.out).mono ?_
    rintro e u2 ⟨v,rfl,hb2,hh⟩
    rw [HO.out] at hh ⊢
    have hd:=held_da hh
    obtain ⟨A,n,c,hve⟩:=hd.this
    obtain ⟨cc,hcc⟩:∃ cc,O.thing.ctor=cc:=⟨_,rfl⟩
    obtain ⟨zz,hzz⟩:∃ zz,O.thing.int=zz:=⟨_,rfl⟩
    obtain ⟨ss,hss⟩:∃ ss,O.thing.name=ss:=⟨_,rfl⟩
    rw [hcc,hzz,hss] at hve
    subst hve
    have HC:=Lib.hid hcc
    have HZ:=Lib.hid hzz
    have HN:=Lib.hid hss
    have hbx:=below_alloc u2 (.cells #[.bool cc,.int .i64 zz,.string ss,.slice A n c] 46)
    have HB2:=Lib.hid ((HBt.out.trans (hb2.mono HBt.out.size)).trans (hbx.mono (Nat.le_trans HBt.out.size hb2.size)))
    have HE2:=Lib.hid ((HEt.out.below hb2).below hbx)
    have HS2:=Lib.hid ((HSt.out.below hb2).below hbx)
    have HD2:=Lib.hid (DaE.step _ _ _ _ _ _ hd (Kb.of_below hbx) (fun _ _ e=>e))
    have HX2:=Lib.hid (heap_alloc_new u2 (.cells #[.bool cc,.int .i64 zz,.string ss,.slice A n c] 46))
    have HW2:=Lib.hid hb2.size
    clear hcc hzz hss hbx hb2 hh hd
    generalize hEE:O.err f=EE
    have HEE:=Lib.hid hEE
    clear hEE
    go_upto_region 17 with fail
    generalize u2.alloc (.cells #[.bool cc,.int .i64 zz,.string ss,.slice A n c] 46)=W2 at HB2 HE2 HS2 HD2 HX2 ⊢
    obtain ⟨N2,hN2⟩:∃ N2,u2.heap.size=N2:=⟨_,rfl⟩
    rw [hN2] at HX2 ⊢
    clear hN2
    go_wp2_with fail
    try go_at_call 28
    refine (rdread_any (bs F) W2).mono ?_
    rintro e u3 ⟨v3,rfl,hb3,hh⟩
    rw [HO.out] at hh ⊢
    have hd:=held_da hh
    obtain ⟨A3,n3,c3,hve⟩:=hd.this
    rw [HC.out,HZ.out,HN.out] at hve
    subst hve
    have hbx:=below_alloc u3 (.cells #[.bool cc,.int .i64 zz,.string ss,.slice A3 n3 c3] 46)
    have HB3:=Lib.hid ((HB2.out.trans (hb3.mono HB2.out.size)).trans (hbx.mono (Nat.le_trans HB2.out.size hb3.size)))
    have HE3:=Lib.hid ((HE2.out.below hb3).below hbx)
    have HS3:=Lib.hid ((HS2.out.below hb3).below hbx)
    have HD3:=Lib.hid (DaE.step _ _ _ _ _ _ hd (Kb.of_below hbx) (fun _ _ e=>e))
    have HX3:=Lib.hid (heap_alloc_new u3 (.cells #[.bool cc,.int .i64 zz,.string ss,.slice A3 n3 c3] 46))
    have hb32:=hb3.trans (hbx.mono hb3.size)
    have HX23:=Lib.hid ((hb32.block _ (Array.getElem?_eq_some_iff.1 HX2.out).1).trans HX2.out)
    have HD23:=Lib.hid (DaE.step _ _ _ _ _ _ HD2.out (Kb.of_below hb32) (fun _ _ e=>e))
    clear hbx hb3 hh hd hb32
    generalize hnn:O.num=nn
    have HNN:=Lib.hid hnn
    clear hnn
    go_upto_region 18 with fail
    generalize u3.alloc (.cells #[.bool cc,.int .i64 zz,.string ss,.slice A3 n3 c3] 46)=W3 at HB3 HE3 HS3 HD3 HX3 HX23 HD23 ⊢
    obtain ⟨N3,hN3⟩:∃ N3,u3.heap.size=N3:=⟨_,rfl⟩
    rw [hN3] at HX3 ⊢
    clear hN3
    go_wp2_with fail
    try go_at_call 22
    rw [← HEE.out]
    refine (num_readO f O W3 HS3.out).mono ?_
    rintro e u4 ⟨rfl,hb4⟩
    rw [HNN.out,HEE.out]
    have HB4:=Lib.hid (HB3.out.trans (hb4.mono HB3.out.size))
    have HE4:=Lib.hid (HE3.out.below hb4)
    have HS4:=Lib.hid (HS3.out.below hb4)
    have HD4:=Lib.hid (DaE.step _ _ _ _ _ _ HD3.out (Kb.of_below hb4) (fun _ _ e=>e))
    have HD24:=Lib.hid (DaE.step _ _ _ _ _ _ HD23.out (Kb.of_below hb4) (fun _ _ e=>e))
    have HX4:=Lib.hid ((hb4.block _ (Array.getElem?_eq_some_iff.1 HX3.out).1).trans HX3.out)
    have HX24:=Lib.hid ((hb4.block _ (Array.getElem?_eq_some_iff.1 HX23.out).1).trans HX23.out)
    clear hb4
    have hnq:(nn == nn)=true:=by simp
    have t0:=(cellH HX4.out 0).trans rfl
    have t1:=(cellH HX4.out 1).trans rfl
    have t2:=(cellH HX4.out 2).trans rfl
    have t3:=(cellH HX4.out 3).trans rfl
    have u0:=(cellH HX24.out 0).trans rfl
    have u1:=(cellH HX24.out 1).trans rfl
    have u2:=(cellH HX24.out 2).trans rfl
    have u3:=(cellH HX24.out 3).trans rfl
    go_wp2_with fail
    try go_at_call 26
    refine (same_selfE _ _ O.thing _ _ u4 HD24.out HD4.out).mono ?_
    rintro e u5 ⟨rfl,hb5⟩
    have HB5:=Lib.hid (HB4.out.trans (hb5.mono HB4.out.size))
    have HE5:=Lib.hid (HE4.out.below hb5)
    have HS5:=Lib.hid (HS4.out.below hb5)
    have HD25:=Lib.hid (DaE.step _ _ _ _ _ _ HD24.out (Kb.of_below hb5) (fun _ _ e=>e))
    have HX25:=Lib.hid ((hb5.block _ (Array.getElem?_eq_some_iff.1 HX24.out).1).trans HX24.out)
    clear hb5 t0 t1 t2 t3 u0 u1 u2 u3 hnq
    go_wp2_with fail
    go_ret
    exact ⟨rfl,HB5.out⟩
   ·exfalso
    obtain ⟨y2,h1,h2⟩:=HDS.out
    rw [List.append_nil] at h1
    exact hno ⟨_,_,h1⟩
end Lx
end Go.Proofs.YtiljemkglhloeaaGreatDoor
namespace Go.Proofs.YtiljemkglhloeaaGreatDoor
set_option linter.unusedSimpArgs false
set_option linter.unusedVariables false
namespace Lx
open Go Go.ChangeShapes Go.WideShapes Go.ChangeAt Go.Deep Go.RowKit
mutual
/-- A node each, and its name's letters. -/
def wtD:DaT→Nat
 | .mk _ _ s l=>1+s.size+wtDs l
def wtDs:List DaT→Nat
 | []=>0
 | x :: l=>wtD x+wtDs l
end
theorem wtsD_bulk {H:Type}:∀ (l:List DaT) (ds:List (DataW H)),l.length=ds.length→(∀ (i:Nat) (h:i < l.length) (h':i < ds.length),wtD l[i]≤Rows.uptoBulk ds[i])→wtDs l≤Rows.uptoBulkAll ds
 | [],_,_,_=>by rw [wtDs];exact Nat.zero_le _
 | x :: l,[],h,_=>by simp at h
 | x :: l,d :: ds,h,hh=>by
  have h1:=hh 0 (by simp) (by simp)
  have h2:=wtsD_bulk l ds (by simpa using h) (fun i hi hi'=>hh (i+1) (by simpa using hi) (by simpa using hi'))
  simp only [List.getElem_cons_zero] at h1
  rw [wtDs,Rows.uptoBulkAll]
  omega
mutual
theorem dtx_short:∀ x:DaT,numsD x→(dtx x).length+2≤24 * wtD x
 | .mk c n s l,h=>by
  cases c
  ·rw [numsD,if_neg (by decide)] at h
   rw [dtx,if_neg (by decide),wtD]
   have:=Lib.itoa_length_le n h.1 h.2
   omega
  ·rw [numsD,if_pos rfl] at h
   rw [dtx,if_pos rfl,wtD,List.length_append,List.length_append]
   have h1:=dts_short l true h
   have h5:s.data.toList.length=s.size:=by simp
   have h6:(if l.length=0 then ([]:List UInt8) else [41]).length≤1:=by split <;> simp
   omega
theorem dts_short:∀ (l:List DaT) (b:Bool),numsDs l→(dts b l).length≤24 * wtDs l
 | [],b,_=>by cases b <;> simp [dts]
 | x :: l,b,h=>by
  have h1:=dtx_short x (numsDs_cons h).1
  have h2:=dts_short l false (numsDs_cons h).2
  rw [dts,wtDs,List.length_append,List.length_append]
  have h6:(if b=true then ([40]:List UInt8) else [44,32]).length≤2:=by cases b <;> simp
  omega
end
theorem wfI_num {n:Int} (h:wfI n):numOk n:=by
 unfold wfI at h
 simp [Lit.wf] at h
 have h1:IntKind.i64.min=-9223372036854775808:=by decide
 have h2:IntKind.i64.max=9223372036854775807:=by decide
 unfold numOk
 omega
mutual
theorem wf_nums:∀ x:DaT,wfD x→numsD x
 | .mk c n s l,h=>by
  rw [wfD] at h
  cases c
  ·rw [numsD,if_neg (by decide)]
   exact wfI_num h.1
  ·rw [numsD,if_pos rfl]
   exact wfs_nums l h.2
theorem wfs_nums:∀ l:List DaT,wfDs l→numsDs l
 | [],_=>trivial
 | x :: l,h=>⟨wf_nums x h.1,wfs_nums l h.2⟩
end
def FullD {H:Type} (T:DaT) (d:DataW H):Prop:=wfD T∧wtD T≤Rows.uptoBulk d
section
variable {H:Type} {enc:TypeId × Value→H} {w:World} {base:Nat} {spare:Nat→Bool} {held:Bool}
set_option maxRecDepth 100000 in
theorem open_daF:∀ (fuel:Nat) (cs:List Value) (x:DataW H × List MemPlace),DataW.trod enc Tryz.prog w base spare held fuel 46 cs=some x→(∀ z ∈ x.1.weights Tryz.prog 46,z≤reachBytes) →
  ∃ (T:DaT) (v:Value),cs=cellsL v∧DaW fuel (fun _=>False) T v w∧FullD T x.1:=by
 intro fuel
 induction fuel using Nat.strongRecOn with
 | _ fuel ih =>
 intro cs x h hz
 obtain ⟨y0,y1,y2,y3,n,rfl,rfl,hl,h0,h1,h2,h3⟩:=trod_struct4 Tryz.underlying46 h
 rw [cellsDa4] at hl
 match cs,hl with
 | [c0,c1,c2,c3],_ =>
 have h0:DataW.trod enc Tryz.prog w base spare held n 4 [c0]=some y0:=h0
 have h1:DataW.trod enc Tryz.prog w base spare held n 3 [c1]=some y1:=h1
 have h2:DataW.trod enc Tryz.prog w base spare held n 9 [c2]=some y2:=h2
 have h3:DataW.trod enc Tryz.prog w base spare held n 44 [c3]=some y3:=h3
 obtain ⟨k,e0,x0⟩:=DataW.trod_bool Tryz.underlying4 h0
 obtain ⟨m,e1,x1,wm⟩:=DataW.trod_int Tryz.underlying3 h1
 obtain ⟨s,e2,x2,_⟩:=DataW.trod_string Tryz.underlying9 h2
 obtain rfl:=(List.cons.inj e0).1
 obtain rfl:=(List.cons.inj e1).1
 obtain rfl:=(List.cons.inj e2).1
 have hz3:∀ z ∈ y3.1.weights Tryz.prog 44,z≤reachBytes:=fun z hz'=>by
  refine hz z ?_
  simp only [DataW.weights,Tryz.underlying46]
  exact DataW.weights_mem_each (j:=3) rfl rfl z hz'
 subst x0
 subst x1
 subst x2
 obtain ⟨l,ds,hrow,hlen,hG,_,hbulk⟩:=open_row (.mk false 0 ⟨#[]⟩ []) DaW FullD (by decide) Tryz.underlying44 cellsDa4 DaW.up daCells n c3 y3 h3 hz3 (fun n' hn'=>ih n' (by omega))
 refine ⟨.mk k m s l,_,rfl,⟨_,rfl,hrow⟩,⟨wm,wfDs_of _ (fun i hi=>(hG i hi (by omega)).1)⟩,?_⟩
 have h4:=wtsD_bulk l ds hlen (fun i hi hi'=>(hG i hi hi').2)
 have h5:s.data.toList.length=s.size:=by simp
 rw [wtD]
 simp only [Rows.uptoBulk,Rows.uptoBulkAll]
 omega
end
end Lx
end Go.Proofs.YtiljemkglhloeaaGreatDoor
