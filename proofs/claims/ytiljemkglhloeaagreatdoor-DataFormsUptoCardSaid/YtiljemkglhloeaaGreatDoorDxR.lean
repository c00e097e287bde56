/- The program's reader of bytes: structure, given what data are one level down. Conditions: as each states. -/
/- The program's reader of bytes: data. Conditions: as each states. -/
/- The program: Decode. Conditions: the error variable holds its error. -/
import Derived.Test.YtiljemkglhloeaaGreatDoorDxI
import Derived.Deep.RegionHeld
import Derived.Deep.Cut
import Derived.Test.YtiljemkglhloeaaGreatDoorDxE
import Derived.BigQuiet
namespace Go.Proofs.YtiljemkglhloeaaGreatDoor
set_option linter.unusedSimpArgs false
set_option linter.unusedVariables false
namespace Lx
open Go Go.RowKit
theorem infoDa:(Tryz.prog.info? 46).map (fun i=>(i.zero,i.size,i.bytes))=some (some (.agg #[.bool false,.int .i64 0,.string ⟨#[]⟩,.slice none 0 0]),4,56):=by kernel_rfl
set_option maxRecDepth 100000 in
theorem step_da {ops:Array Oper} {o:Oper} {a:Act} {W:World} {K:Act→World→Prop} {Q:Exit→Act→World→Prop} {E:Prop} (hgd:o.guard=none) (s x:Operand)
  (ho:o.op=.call { callee:=.builtin .append,args:=#[s,x],argTypes:=#[44,44] })
  (base:Nat) (v:Value) (n:Nat) (xs:List Value) (hs:a.eval s=v) (hown:W.ownsRow base 46 4 v n xs) (B:Nat) (k:Bool) (z:Int) (y:ByteArray) (A:Option Addr) (l c:Nat) (hx:a.eval x=.slice (some ⟨B,0,none⟩) 1 1) (hB:W.heap[B]?=some (.cells #[.bool k,.int .i64 z,.string y,.slice A l c] 46 (0,0))) (hn:n≤2000000) (hbase:base≤W.heap.size)
  (h:∀ g c' w',w'.ownsRow base 46 4 (.slice (some ⟨g,0,none⟩) (n+1) c') (n+1) (xs++[.bool k,.int .i64 z,.string y,.slice A l c])→W.grownBy w' v.ownBlock→(v.ownBlock=some g ∨ g=W.heap.size)→K (a.put o.dst (.slice (some ⟨g,0,none⟩) (n+1) c')) w') :
  if Region.wanted o (yielded ops a.tmps)=true then Oper.wp Tryz.prog o a W K Q else E:=by
 obtain ⟨i0,hi,hz0,hz1,hz2⟩:=info_parts infoDa
 exact step_append_lies W hgd s x _ ho base _ i0 _ 4 56 Tryz.underlying44 hi hz0 hz1 hz2 rfl (by decide) v n xs hs hown ⟨B,0,none⟩ 1 1 [.bool k,.int .i64 z,.string y,.slice A l c] hx rfl (World.news_of_block (cs:=#[.bool k,.int .i64 z,.string y,.slice A l c]) hB) (by simp [Value.oneCell'])
  (by omega) (by unfold maxLen;omega) (by omega) hbase _ rfl (fun g cap w' h2 h3 h4 _=>h g cap w' h2 h3 h4)
/-- What data leave: refused, or what stands there; all rows are new memory. -/
def OutP (L R:Nat) (o:Option (DaT × List UInt8 × Nat)) (w:World):Ending→World→Prop:=fun e w'=>Kb (fun j=>j=R) w w' ∧
 ((o=none∧(∃ c z s A m q,e=.returned (.agg #[.bool c,.int .i64 z,.string s,.slice A m q]))∧∃ n',Refd L R n' w') ∨
  (∃ x r n' v rv',o=some (x,r,n')∧e=.returned v∧DaE (fun j=>j < w.heap.size) x v w'∧RdS L R r rv' (n':Nat) false w'∧n'≤4096))
def DecC (k:Nat):Prop:=∀ (L R n dp:Nat) (rest:List UInt8) (rv:Value) (w:World),RdS L R rest rv n false w→dp+k=201→n≤4096→Calls Tryz.prog 49 #[.pointer (some ⟨R,0,none⟩),.int .i64 dp] w (OutP L R (dec k n rest) w)
theorem fin_kb {R N:Nat} {w wr wf:World} (h:Kb (fun j=>j=R ∨ w.heap.size≤j) w wr) (hN:w.heap.size≤N) (hk:Kb (fun j=>j=N) wr wf):Kb (fun j=>j=R) w wf :=
 (h.trans (hk.wider (fun _ _ e=>.inr (e ▸ hN)))).wider (fun j hj e=>e.elim id (fun e=>by omega))
theorem refd_put {L R N:Nat} {n:Int} {w wf:World} (h:Refd L R n w) (hk:Kb (fun j=>j=N) w wf) (hL:L≤N) (hR:¬ R=N):Refd L R n wf:=by
 obtain ⟨rv,h⟩:=h
 exact ⟨rv,h.kb hk (fun _ _ e=>e ▸ hL) hR⟩
theorem strD_no {f:Nat→List UInt8→Option (DaT × List UInt8 × Nat)} {n:Nat} {rest:List UInt8} (h:¬ ∃ b r,rest=b :: r∧1≤b.toNat∧b.toNat≤32∧b.toNat≤r.length):strD f n rest=none:=by
 cases rest with
 | nil=>rw [strD]
 | cons b r=>rw [strD,if_neg (fun e=>h ⟨b,r,rfl,e⟩)]
def more (acc:List DaT) (o:Option (List DaT × List UInt8 × Nat)):Option (List DaT × List UInt8 × Nat):=match o with
 | none=>none
 | some (l,r,n)=>some (acc++l,r,n)
theorem more_none {f:Nat→List UInt8→Option (DaT × List UInt8 × Nat)} {acc:List DaT} {c n:Nat} {r:List UInt8} (h:f n r=none):more acc (decsF f (c+1) n r)=none:=by rw [decsF,h];rfl
theorem more_some {f:Nat→List UInt8→Option (DaT × List UInt8 × Nat)} {acc:List DaT} {c n n1:Nat} {r r1:List UInt8} {x:DaT} (h:f n r=some (x,r1,n1)):more acc (decsF f (c+1) n r)=more (acc++[x]) (decsF f c n1 r1):=by
 rw [decsF,h]
 show more acc (match decsF f c n1 r1 with | none=>none | some (l,r2,n2)=>some (x :: l,r2,n2))=_
 cases decsF f c n1 r1 with
 | none=>rfl
 | some p =>
  obtain ⟨l,r2,n2⟩:=p
  simp [more]
set_option maxRecDepth 100000 in
set_option maxHeartbeats 20000000 in
theorem str_any (k:Nat) (HC:Hid (DecC k)) (L R n dp:Nat) (rest:List UInt8) (rv:Value) (w:World) (h:RdS L R rest rv n false w) (hdp:dp+1+k=201) (hn:n≤4096) :
  Calls Tryz.prog 84 #[.pointer (some ⟨R,0,none⟩),.int .i64 dp] w (OutP L R (strD (dec k) n rest) w):=by
 have hRlt:=(Array.getElem?_eq_some_iff.1 h.box).1
 have hb:=below_alloc w (.cells #[.bool false,.int .i64 0,.string ⟨#[]⟩,.slice none 0 0] 46)
 have H1:=Lib.hid (h.below hb)
 have HN4:=Lib.hid (heap_alloc_new w (.cells #[.bool false,.int .i64 0,.string ⟨#[]⟩,.slice none 0 0] 46))
 have HKW:=Lib.hid (Kb.of_below (S:=fun j=>j=R ∨ w.heap.size≤j) hb)
 have HRL:=Lib.hid hRlt
 have HDP:=Lib.hid hdp
 have HNI:=Lib.hid hn
 have HLN:Hid (L≤w.heap.size):=Lib.hid (by have:=h.lo;omega)
 have HRN:Hid (¬ R=w.heap.size):=Lib.hid (by omega)
 have HLO:=Lib.hid h.lo
 have HSZ1:Hid (w.heap.size+1≤(w.alloc (.cells #[.bool false,.int .i64 0,.string ⟨#[]⟩,.slice none 0 0] 46)).heap.size):=Lib.hid (by simp)
 clear h hb hRlt hdp hn
 go_enter Tryz.func84,Tryz.ntmps84
 go_wp2_with fail
 generalize (w.alloc (.cells #[.bool false,.int .i64 0,.string ⟨#[]⟩,.slice none 0 0] 46))=W1 at H1 HN4 HKW HSZ1 ⊢
 obtain ⟨N4,hN4⟩:∃ N4,w.heap.size=N4:=⟨_,rfl⟩
 have HNE:=Lib.hid hN4
 rw [hN4] at HN4 HLN HRN ⊢
 clear hN4
 try go_at_call 107
 refine (nameF_any L R rest _ n W1 H1.out).mono ?_
 rintro e w2 ⟨hk2,⟨nm,rfl,hrf,hno⟩ | ⟨b,r2,rv2,rfl,hb1,hb2,hb3,rfl,hrd⟩⟩
 all_goals
  have HN4:=Lib.hid ((hk2.block N4 (Array.getElem?_eq_some_iff.1 HN4.out).1 (fun e=>HRN.out e.symm)).trans HN4.out)
  have HKW:=Lib.hid (HKW.out.trans (hk2.wider (fun _ _ e=>.inl e)))
  have HSZ2:Hid (w.heap.size+1≤w2.heap.size):=Lib.hid (Nat.le_trans HSZ1.out hk2.size)
  clear hk2
 ·obtain ⟨rvx,hrd⟩:=hrf
  have HNO:Hid (strD (dec k) n rest=none):=Lib.hid (strD_no hno)
  have hb5:=below_alloc w2 (.cells #[.bool true,.int .i64 0,.string nm,.slice none 0 0] 46)
  have H5:=Lib.hid (hrd.below hb5)
  have HN4:=Lib.hid ((hb5.block N4 (Array.getElem?_eq_some_iff.1 HN4.out).1).trans HN4.out)
  have HN5:=Lib.hid (heap_alloc_new w2 (.cells #[.bool true,.int .i64 0,.string nm,.slice none 0 0] 46))
  have HKW:=Lib.hid (HKW.out.trans (Kb.of_below (S:=fun j=>j=R ∨ w.heap.size≤j) hb5))
  clear hrd hb5 hno
  go_wp2_with fail
  generalize (w2.alloc (.cells #[.bool true,.int .i64 0,.string nm,.slice none 0 0] 46))=W5 at H5 HN4 HN5 HKW ⊢
  have HR5:Hid (¬ w2.heap.size=R):=Lib.hid (fun e=>by have:=HRL.out;have:=HSZ2.out;omega)
  generalize w2.heap.size=N5 at HN5 HR5 ⊢
  try go_at_call 82
  refine (small_any L R [] _ n true W5 H5.out (fun _=>rfl)).mono ?_
  rintro e WW ⟨hk6,⟨_,rfl,hrd6⟩ | ⟨_,_,_,hx,_⟩⟩
  ·have HRF:Hid (Refd L R n WW):=Lib.hid ⟨_,hrd6⟩
   have HN4:=Lib.hid ((hk6.block N4 (Array.getElem?_eq_some_iff.1 HN4.out).1 (fun e=>HRN.out e.symm)).trans HN4.out)
   have HN5:=Lib.hid ((hk6.block N5 (Array.getElem?_eq_some_iff.1 HN5.out).1 HR5.out).trans HN5.out)
   have HKW:=Lib.hid (HKW.out.trans (hk6.wider (fun _ _ e=>.inl e)))
   have haf:=arity_fits 0 WW
   rw [show ((0:Nat):Int)=0 from rfl] at haf
   have HAF:=Lib.hid haf
   clear hk6 hrd6 haf
   go_wp2_with fail
   try go_at_call 76
   refine HAF.out.mono ?_
   rintro e w7 ⟨rfl,hw7⟩
   have hw7:=hw7.symm
   subst hw7
   rw [show decide (0≤8)=true from rfl]
   go_wp2_with fail
   go_loopw [18] (fun t wr=>t=.int .i64 0∧wr=WW) (fun _ _=>0)
   case atStart=>exact ⟨rfl,rfl⟩
   case round =>
    obtain ⟨rfl,rfl⟩:=hrel
    have d0:=(cellH HN5.out 0).trans rfl
    have d1:=(cellH HN5.out 1).trans rfl
    have d2:=(cellH HN5.out 2).trans rfl
    have d3:=(cellH HN5.out 3).trans rfl
    have e0:=(cellH HN4.out 0).trans rfl
    have e1:=(cellH HN4.out 1).trans rfl
    have e2:=(cellH HN4.out 2).trans rfl
    have e3:=(cellH HN4.out 3).trans rfl
    have g0:=frozenH HN4.out 0
    have g1:=frozenH HN4.out 1
    have g2:=frozenH HN4.out 2
    have g3:=frozenH HN4.out 3
    go_wp2_with fail
    have hp4:=put4F (.bool true) (.int .i64 0) (.string nm) (.slice none 0 0) HN4.out
    have hk4:=kput4 wr N4 (.bool true) (.int .i64 0) (.string nm) (.slice none 0 0)
    have c0:=(cellH hp4 0).trans rfl
    have c1:=(cellH hp4 1).trans rfl
    have c2:=(cellH hp4 2).trans rfl
    have c3:=(cellH hp4 3).trans rfl
    exact bodyPost_ret (v:=.agg #[.bool true,.int .i64 0,.string nm,.slice none 0 0]) (by simp [results,Tryz.results84,go_sem,c0,c1,c2,c3]) rfl (by unfold OutP;exact ⟨fin_kb HKW.out (Nat.le_of_eq HNE.out) hk4,.inl ⟨HNO.out,⟨_,_,_,_,_,_,rfl⟩,_,refd_put HRF.out hk4 HLN.out HRN.out⟩⟩)
  ·cases hx
 ·have hb5:=below_alloc w2 (.cells #[.bool true,.int .i64 0,.string (bs (r2.take b.toNat)),.slice none 0 0] 46)
  have H5:=Lib.hid (hrd.below hb5)
  have HN4:=Lib.hid ((hb5.block N4 (Array.getElem?_eq_some_iff.1 HN4.out).1).trans HN4.out)
  have HN5:=Lib.hid (heap_alloc_new w2 (.cells #[.bool true,.int .i64 0,.string (bs (r2.take b.toNat)),.slice none 0 0] 46))
  have HKW:=Lib.hid (HKW.out.trans (Kb.of_below (S:=fun j=>j=R ∨ w.heap.size≤j) hb5))
  have HBC:=Lib.hid (show 1≤b.toNat∧b.toNat≤32∧b.toNat≤r2.length from ⟨hb1,hb2,hb3⟩)
  clear hrd hb5 hb1 hb2 hb3
  go_wp2_with fail
  generalize (w2.alloc (.cells #[.bool true,.int .i64 0,.string (bs (r2.take b.toNat)),.slice none 0 0] 46))=W5 at H5 HN4 HN5 HKW ⊢
  have HR5:Hid (¬ w2.heap.size=R):=Lib.hid (fun e=>by have:=HRL.out;have:=HSZ2.out;omega)
  have HN5W:Hid (w.heap.size≤w2.heap.size):=Lib.hid (by have:=HSZ2.out;omega)
  have HN45:Hid (¬ N4=w2.heap.size):=Lib.hid (fun e=>by have:=HSZ2.out;have:=HNE.out;omega)
  generalize w2.heap.size=N5 at HN5 HR5 HN5W HN45 ⊢
  obtain ⟨nm,hnm⟩:∃ nm,bs (r2.take b.toNat)=nm:=⟨_,rfl⟩
  have HNM:=Lib.hid hnm
  rw [hnm] at HN5 ⊢
  clear hnm
  obtain ⟨rx,hrx⟩:∃ rx,r2.drop b.toNat=rx:=⟨_,rfl⟩
  have HRX:=Lib.hid hrx
  rw [hrx] at H5
  clear hrx
  try go_at_call 82
  refine (small_any L R rx _ n false W5 H5.out (fun e=>by cases e)).mono ?_
  rintro e WW ⟨hk6,⟨hnil,rfl,hrd6⟩ | ⟨a,r3,rv3,hcons,_,rfl,hrd6⟩⟩
  ·have HNO:Hid (strD (dec k) n (b :: r2)=none):=Lib.hid (by rw [strD,if_pos HBC.out,HRX.out,hnil])
   clear hnil
   have HRF:Hid (Refd L R n WW):=Lib.hid ⟨_,hrd6⟩
   have HN4:=Lib.hid ((hk6.block N4 (Array.getElem?_eq_some_iff.1 HN4.out).1 (fun e=>HRN.out e.symm)).trans HN4.out)
   have HN5:=Lib.hid ((hk6.block N5 (Array.getElem?_eq_some_iff.1 HN5.out).1 HR5.out).trans HN5.out)
   have HKW:=Lib.hid (HKW.out.trans (hk6.wider (fun _ _ e=>.inl e)))
   have haf:=arity_fits 0 WW
   rw [show ((0:Nat):Int)=0 from rfl] at haf
   have HAF:=Lib.hid haf
   clear hk6 hrd6 haf
   go_wp2_with fail
   try go_at_call 76
   refine HAF.out.mono ?_
   rintro e w7 ⟨rfl,hw7⟩
   have hw7:=hw7.symm
   subst hw7
   rw [show decide (0≤8)=true from rfl]
   go_wp2_with fail
   go_loopw [18] (fun t wr=>t=.int .i64 0∧wr=WW) (fun _ _=>0)
   case atStart=>exact ⟨rfl,rfl⟩
   case round =>
    obtain ⟨rfl,rfl⟩:=hrel
    have d0:=(cellH HN5.out 0).trans rfl
    have d1:=(cellH HN5.out 1).trans rfl
    have d2:=(cellH HN5.out 2).trans rfl
    have d3:=(cellH HN5.out 3).trans rfl
    have e0:=(cellH HN4.out 0).trans rfl
    have e1:=(cellH HN4.out 1).trans rfl
    have e2:=(cellH HN4.out 2).trans rfl
    have e3:=(cellH HN4.out 3).trans rfl
    have g0:=frozenH HN4.out 0
    have g1:=frozenH HN4.out 1
    have g2:=frozenH HN4.out 2
    have g3:=frozenH HN4.out 3
    go_wp2_with fail
    have hp4:=put4F (.bool true) (.int .i64 0) (.string nm) (.slice none 0 0) HN4.out
    have hk4:=kput4 wr N4 (.bool true) (.int .i64 0) (.string nm) (.slice none 0 0)
    have c0:=(cellH hp4 0).trans rfl
    have c1:=(cellH hp4 1).trans rfl
    have c2:=(cellH hp4 2).trans rfl
    have c3:=(cellH hp4 3).trans rfl
    exact bodyPost_ret (v:=.agg #[.bool true,.int .i64 0,.string nm,.slice none 0 0]) (by simp [results,Tryz.results84,go_sem,c0,c1,c2,c3]) rfl (by unfold OutP;exact ⟨fin_kb HKW.out (Nat.le_of_eq HNE.out) hk4,.inl ⟨HNO.out,⟨_,_,_,_,_,_,rfl⟩,_,refd_put HRF.out hk4 HLN.out HRN.out⟩⟩)
  ·have HCONS:=Lib.hid hcons
   clear hcons
   have HN4:=Lib.hid ((hk6.block N4 (Array.getElem?_eq_some_iff.1 HN4.out).1 (fun e=>HRN.out e.symm)).trans HN4.out)
   have HN5:=Lib.hid ((hk6.block N5 (Array.getElem?_eq_some_iff.1 HN5.out).1 HR5.out).trans HN5.out)
   have HKW:=Lib.hid (HKW.out.trans (hk6.wider (fun _ _ e=>.inl e)))
   have H6:=Lib.hid hrd6
   clear hk6 hrd6
   obtain ⟨c,hc⟩:∃ c:Nat,a.toNat=c:=⟨_,rfl⟩
   have HCN:=Lib.hid hc
   rw [hc]
   clear hc
   go_wp2_with fail
   try go_at_call 76
   refine (arity_fits c WW).mono ?_
   rintro e w7 ⟨rfl,rfl⟩
   by_cases hc8:c≤8
   ·have hd8:decide (c≤8)=true:=by simpa using hc8
    have HC8:=Lib.hid hc8
    rw [hd8]
    have HSTR:Hid (∀ (l:List DaT) (r4:List UInt8) (n4:Nat),decsF (dec k) c n r3=some (l,r4,n4)→strD (dec k) n (b :: r2)=some (.mk true 0 nm l,r4,n4)):=Lib.hid (fun l r4 n4 e=>by
     rw [strD,if_pos HBC.out,HRX.out,HCONS.out]
     show (if a.toNat≤8 then _ else none)=_
     rw [HCN.out,if_pos HC8.out,e,HNM.out])
    have HSTN:Hid (decsF (dec k) c n r3=none→strD (dec k) n (b :: r2)=none):=Lib.hid (fun e=>by
     rw [strD,if_pos HBC.out,HRX.out,HCONS.out]
     show (if a.toNat≤8 then _ else none)=_
     rw [HCN.out,if_pos HC8.out,e])
    clear hc8 hd8
    go_wp2_with fail
    generalize hW6:w7=W6 at HN4 HN5 HKW H6 ⊢
    clear hW6
    have HW6W:Hid (w.heap.size≤W6.heap.size):=Lib.hid HKW.out.size
    have HRL6:Hid (R < W6.heap.size):=Lib.hid (Array.getElem?_eq_some_iff.1 H6.out.box).1
    have H5L:Hid (N5 < W6.heap.size):=Lib.hid (Array.getElem?_eq_some_iff.1 HN5.out).1
    have H4L:Hid (N4 < W6.heap.size):=Lib.hid (Array.getElem?_eq_some_iff.1 HN4.out).1
    have HLN5:Hid (L≤N5):=Lib.hid (by have:=HN5W.out;have:=HLN.out;have:=HNE.out;omega)
    have HL6:Hid (L≤W6.heap.size):=Lib.hid (by have:=H6.out.lo;have:=HRL6.out;omega)
    go_loopw [18] (fun t wr=>∃ i:Nat,i≤c∧t=.int .i64 i∧Hid (Kb (fun j=>j=R ∨ j=N5 ∨ W6.heap.size≤j) W6 wr) ∧
     ((∃ (acc:List DaT) (vs:List Value) (s:Option Addr) (cap ni:Nat) (ri:List UInt8) (rvi:Value),acc.length=i∧ni≤4096∧Hid (RowD (fun j=>j < W6.heap.size) W6 wr s cap acc vs)∧Hid (wr.heap[N5]?=some (.cells #[.bool true,.int .i64 0,.string nm,.slice s acc.length cap] 46 (0,0)))∧Hid (RdS L R ri rvi (ni:Nat) false wr)∧Hid (decsF (dec k) c n r3=more acc (decsF (dec k) (c - acc.length) ni ri)))
     ∨ (∃ (A5:Option Addr) (m5 q5:Nat) (n':Int),Hid (wr.heap[N5]?=some (.cells #[.bool true,.int .i64 0,.string nm,.slice A5 m5 q5] 46 (0,0)))∧Hid (Refd L R n' wr)∧Hid (decsF (dec k) c n r3=none)))) (fun t _=>c - (intOf t).toNat)
    case atStart=>exact ⟨0,Nat.zero_le _,rfl,Lib.hid (Kb.refl _ _),.inl ⟨[],[],none,0,n,r3,_,rfl,HNI.out,Lib.hid (RowD.start _ _),HN5,H6,Lib.hid (by
     show _=more [] (decsF (dec k) c n r3)
     cases decsF (dec k) c n r3 with
     | none=>rfl
     | some p=>rfl)⟩⟩
    case round =>
     obtain ⟨i,hi,rfl,HKR,hst⟩:=hrel
     rcases hst with ⟨acc,vs,s,cap,ni,ri,rvi,rfl,hni,HRO,HN5,HRD,HDS⟩ | ⟨A5,m5,q5,n',HN5,HRF,HDS⟩
     ·have HNB:=Lib.hid hni
      by_cases hlt:acc.length < c
      ·have hdc:decide (acc.length < c)=true:=by simpa using hlt
       have hdi:decide ((acc.length:Int) < (c:Int))=true:=by simp;omega
       have HLT:=Lib.hid hlt
       have b2:=(cellH HRD.out.box 2).trans rfl
       clear hlt hni
       go_upto_region 8 with fail
       clear b2 hdc hdi
       refine wp_region_held_drew (S:=fun _=>True) (by kernel_rfl) trivial (fun hHeld=>?_)
       have HBY:Hid (Below wr.heap.size wr wr.drew):=Lib.hid (below_drw (Below.refl _ _))
       have HN5:Hid (wr.drew.heap[N5]?=_):=HN5
       have HRD:=Lib.hid (HRD.out.below HBY.out)
       have HKR:=Lib.hid (HKR.out.trans (Kb.of_below (S:=fun j=>j=R ∨ j=N5 ∨ W6.heap.size≤j) HBY.out))
       have HROY:=Lib.hid (HRO.out.go (fun _ e=>e) (Kb.of_below HBY.out))
       have HAC:Hid (acc.length≤2000000):=Lib.hid (by have:=HLT.out;have:=HC8.out;omega)
       generalize wr.drew=Y at hHeld HBY HN5 HRD HKR HROY ⊢
       have hdp2:dp≤200:=by have:=HDP.out;omega
       have hdw:IntKind.i64.wrap ((dp:Int)+1)=(dp:Int)+1:=by first | (rw [IntKind.wrap_i64];omega) | (unfold IntKind.wrap;simp [IntKind.bits,IntKind.signed];omega)
       (refine wpAnyH_take (i:=0) (oi:=_) (v:=?_) rfl (by kernel_rfl) (by kernel_rfl) (by kernel_rfl) (fun _ _ _ h=>h) (Or.inl ⟨by kernel_rfl,?_⟩) (by assumption) ?_;rotate_left;(focus (intro w hSw;(try dsimp only at hSw);go_simp;(try with_reducible rfl);done));(try simp only [Act.put,List.setIfInBounds_toArray,List.set_cons_zero,List.set_cons_succ]))
       (refine wpAnyH_take (i:=2) (oi:=_) (v:=?_) rfl (by kernel_rfl) (by kernel_rfl) (by kernel_rfl) (fun _ _ _ h=>h) (Or.inl ⟨by kernel_rfl,?_⟩) (by assumption) ?_;rotate_left;(focus (intro w hSw;(try dsimp only at hSw);go_simp;(try with_reducible rfl);done));(try simp only [Act.put,List.setIfInBounds_toArray,List.set_cons_zero,List.set_cons_succ]))
       (refine wpAnyH_take (i:=3) (oi:=_) (v:=?_) rfl (by kernel_rfl) (by kernel_rfl) (by kernel_rfl) (fun _ _ _ h=>h) (Or.inl ⟨by kernel_rfl,?_⟩) (by assumption) ?_;rotate_left;(focus (intro w hSw;(try dsimp only at hSw);go_simp;(try with_reducible rfl);done));(try simp only [Act.put,List.setIfInBounds_toArray,List.set_cons_zero,List.set_cons_succ]))
       (refine wpAnyH_take (i:=4) (oi:=_) (v:=?_) rfl (by kernel_rfl) (by kernel_rfl) (by kernel_rfl) (fun _ _ _ h=>h) (Or.inl ⟨by kernel_rfl,?_⟩) (by assumption) ?_;rotate_left;(focus (intro w hSw;(try dsimp only at hSw);go_simp;(try with_reducible rfl);done));(try simp only [Act.put,List.setIfInBounds_toArray,List.set_cons_zero,List.set_cons_succ]))
       refine wpAnyH_ready (rs:=[1,5]) (by kernel_rfl) (by simp) ?_
       refine (AllReadyH.cons (o:=_) rfl (fun K hK=>?_) (AllReadyH.cons (o:=_) rfl (fun K hK=>?_) AllReadyH.nil))
       ·have x3:=(cellH HN5.out 3).trans rfl
        go_simp
        clear x3
        refine hK.out _ _ (trivial) (fun hHeld=>?_)
        clear hK K
        try simp only [Act.put,List.setIfInBounds_toArray,List.set_cons_zero,List.set_cons_succ]
        refine wpAnyH_ready (rs:=[5]) (by kernel_rfl) (by simp) ?_
        refine (AllReadyH.cons (o:=_) rfl (fun K hK=>?_) AllReadyH.nil)
        go_simp
        try go_at_call 49
        have hcall:=HC.out L R ni (dp+1) ri _ Y HRD.out (by have:=HDP.out;omega) HNB.out
        rw [show ((dp+1:Nat):Int)=(dp:Int)+1 from rfl] at hcall
        with_reducible refine hcall.mono ?_
        clear hcall
        rintro e Y2 ⟨hk2,⟨hnone,⟨cc,zz,ss,A2,m2,q2,rfl⟩,n',hrf⟩ | ⟨x,r',n',v,rv',hsome,rfl,hda,hrd,hn'⟩⟩
        ·have HNONE:Hid (decsF (dec k) c n r3=none):=Lib.hid (by rw [HDS.out,show c - acc.length=(c - acc.length - 1)+1 by have:=HLT.out;omega];exact more_none hnone)
         have HRF:=Lib.hid hrf
         have HN5:=Lib.hid ((hk2.block N5 (Array.getElem?_eq_some_iff.1 HN5.out).1 HR5.out).trans HN5.out)
         have HRO:=Lib.hid (HROY.out.go (fun _ e=>e) (hk2.wider (fun j _ e=>by subst e;exact HRL6.out)))
         have HKR:=Lib.hid (HKR.out.trans (hk2.wider (fun _ _ e=>.inl e)))
         clear hk2 hrf hnone HDS HRD
         go_simp
         refine hK.out _ _ (trivial) (fun hHeld=>?_)
         clear hK K
         try simp only [Act.put,List.setIfInBounds_toArray,List.set_cons_zero,List.set_cons_succ]
         refine wpAnyH_ready (rs:=[6]) (by kernel_rfl) (by simp) ?_
         refine (AllReadyH.cons (o:=_) rfl (fun K hK=>?_) AllReadyH.nil)
         go_simp
         have hbl:=below_alloc Y2 (.cells #[.bool cc,.int .i64 zz,.string ss,.slice A2 m2 q2] 46)
         have HT:=Lib.hid (heap_alloc_new Y2 (.cells #[.bool cc,.int .i64 zz,.string ss,.slice A2 m2 q2] 46))
         have HN5':=Lib.hid ((hbl.block N5 (Array.getElem?_eq_some_iff.1 HN5.out).1).trans HN5.out)
         have hown3:=own_belowN HRO.out.own hbl
         have HS3:Hid (W6.heap.size≤(Y2.alloc (.cells #[.bool cc,.int .i64 zz,.string ss,.slice A2 m2 q2] 46)).heap.size):=Lib.hid (Nat.le_trans HRO.out.keep.size hbl.size)
         have HO3:=Lib.hid hown3
         clear hown3 hbl
         refine hK.out _ _ (trivial) (fun hHeld=>?_)
         clear hK K
         try simp only [Act.put,List.setIfInBounds_toArray,List.set_cons_zero,List.set_cons_succ]
         refine wpAnyH_ready (rs:=[7]) (by kernel_rfl) (by simp) ?_
         refine (AllReadyH.cons (o:=_) rfl (fun K hK=>?_) AllReadyH.nil)
         refine step_da rfl (.tmp 25) (.tmp 30) rfl W6.heap.size (.slice s acc.length cap) acc.length _ (by kernel_rfl) HO3.out Y2.heap.size cc zz ss A2 m2 q2 (by kernel_rfl) HT.out (by have:=HAC.out;omega) HS3.out ?_
         intro g4 c4 Y4 hown4 hg4 hat4
         have hnown:∀ j,j < W6.heap.size→some j ≠ (Value.slice s acc.length cap).ownBlock:=fun j hj e=>by have:=(HO3.out.lt j e.symm).1;omega
         have hkg:Kb (fun j=>W6.heap.size≤j) Y2 Y4:=(Kb.of_below (S:=fun j=>W6.heap.size≤j) (below_alloc Y2 (.cells #[.bool cc,.int .i64 zz,.string ss,.slice A2 m2 q2] 46))).trans ⟨hg4.os,hg4.tape,hg4.output,hg4.size,fun j hj hn=>hg4.block j hj (hnown j (by omega))⟩
         have HN54:=Lib.hid ((hkg.block N5 (Array.getElem?_eq_some_iff.1 HN5.out).1 (by have:=H5L.out;omega)).trans HN5.out)
         have HKG:=Lib.hid hkg
         have HOW4:=Lib.hid hown4
         have HG4:=Lib.hid hg4
         have HAT4:=Lib.hid hat4
         clear hown4 hg4 hat4 hnown hkg
         refine hK.out _ _ (trivial) (fun hHeld=>?_)
         clear hK K
         try simp only [Act.put,List.setIfInBounds_toArray,List.set_cons_zero,List.set_cons_succ]
         (refine wpAnyH_take (i:=8) (oi:=_) (v:=?_) rfl (by kernel_rfl) (by kernel_rfl) (by kernel_rfl) (fun _ _ _ h=>h) (Or.inl ⟨by kernel_rfl,?_⟩) (by assumption) ?_;rotate_left;(focus (intro w hSw;(try dsimp only at hSw);go_simp;(try with_reducible rfl);done));(try simp only [Act.put,List.setIfInBounds_toArray,List.set_cons_zero,List.set_cons_succ]))
         have z3:=(cellH HN54.out 3).trans rfl
         have f3:=frozenH HN54.out 3
         refine wpAnyH_ready (rs:=[9]) (by kernel_rfl) (by simp) ?_
         refine (AllReadyH.cons (o:=_) rfl (fun K hK=>?_) AllReadyH.nil)
         go_simp
         have hput:=blk_put Y4 N5 3 (.slice (some ⟨g4,0,none⟩) (acc.length+1) c4) HN54.out (by show 3 < 4;decide)
         have hkp:Kb (fun j=>j=N5) Y4 (Y4.setCell ⟨N5,3,none⟩ (.slice (some ⟨g4,0,none⟩) (acc.length+1) c4)):=(Kb.refl (fun j=>j=N5) Y4).put (p:=⟨N5,3,none⟩) rfl _
         have HNEW:Hid ((Y4.setCell ⟨N5,3,none⟩ (.slice (some ⟨g4,0,none⟩) (acc.length+1) c4)).heap[N5]?=some (.cells #[.bool true,.int .i64 0,.string nm,.slice (some ⟨g4,0,none⟩) (acc.length+1) c4] 46 (0,0))):=Lib.hid hput
         have HRF2:Hid (Refd L R n' (Y4.setCell ⟨N5,3,none⟩ (.slice (some ⟨g4,0,none⟩) (acc.length+1) c4))):=Lib.hid (by
          obtain ⟨rvq,hq⟩:=HRF.out
          exact ⟨rvq,(hq.kb HKG.out (fun j _ e=>by have:=HL6.out;omega) (by have:=HRL6.out;omega)).kb hkp (fun j _ e=>by subst e;exact HLN5.out) (fun e=>HR5.out e.symm)⟩)
         have HK2:=Lib.hid ((HKR.out.trans (HKG.out.wider (fun _ _ e=>.inr (.inr e)))).trans (hkp.wider (fun _ _ e=>.inr (.inl e))))
         have HLEN:Hid (acc.length+1≤c):=Lib.hid (by have:=HLT.out;omega)
         clear hput hkp z3 f3
         generalize (Y4.setCell ⟨N5,3,none⟩ (.slice (some ⟨g4,0,none⟩) (acc.length+1) c4))=Y5 at HNEW HRF2 HK2 ⊢
         refine hK.out _ _ (trivial) (fun hHeld=>?_)
         clear hK K
         try simp only [Act.put,List.setIfInBounds_toArray,List.set_cons_zero,List.set_cons_succ]
         refine wpAnyH_done (by kernel_rfl) ?_ _
         have hac:=HAC.out
         have hlen:=HLEN.out
         go_wp2_with fail
         go_roundw
         case rel=>exact ⟨acc.length+1,HLEN.out,by go_num,HK2,.inr ⟨_,_,_,_,HNEW,HRF2,HNONE⟩⟩
         case measure=>have:=HLT.out;simp [intOf];omega
        ·obtain ⟨A2,m2,q2,hve⟩:=hda.this
         have HDS2:Hid (decsF (dec k) c n r3=more (acc++[x]) (decsF (dec k) (c - (acc.length+1)) n' r')):=Lib.hid (by
          rw [HDS.out,show c - acc.length=(c - (acc.length+1))+1 by have:=HLT.out;omega]
          exact more_some hsome)
         have HN5:=Lib.hid ((hk2.block N5 (Array.getElem?_eq_some_iff.1 HN5.out).1 HR5.out).trans HN5.out)
         have HRO0:=HRO
         have HK2c:Hid (Kb (fun j=>j < W6.heap.size) wr Y2):=Lib.hid ((Kb.of_below (S:=fun j=>j < W6.heap.size) HBY.out).trans (hk2.wider (fun j _ e=>by subst e;exact HRL6.out)))
         have HRO:=Lib.hid (HRO.out.go (fun _ e=>e) HK2c.out)
         have HDA:Hid (DaE (fun j=>j < W6.heap.size ∨ s=some ⟨j,0,none⟩) x v Y2):=Lib.hid (DaE.step _ _ _ _ _ _ hda (Kb.refl _ _) (fun j _ e=>by
          have h1:=HBY.out.size
          have h2:=HRO0.out.keep.size
          rcases e with e | e
          ·omega
          ·have:=(HRO0.out.own.lt j (by rw [e];rfl)).2
           omega))
         have HKR:=Lib.hid (HKR.out.trans (hk2.wider (fun _ _ e=>.inl e)))
         have HRN':=Lib.hid hrd
         have HNN:=Lib.hid hn'
         obtain ⟨cc,hcc⟩:∃ cc,x.ctor=cc:=⟨_,rfl⟩
         obtain ⟨zz,hzz⟩:∃ zz,x.int=zz:=⟨_,rfl⟩
         obtain ⟨ss,hss⟩:∃ ss,x.name=ss:=⟨_,rfl⟩
         rw [hcc,hzz,hss] at hve
         subst hve
         clear hk2 hda hrd hn' hsome HDS HRD hcc hzz hss HRO0
         go_simp
         refine hK.out _ _ (trivial) (fun hHeld=>?_)
         clear hK K
         try simp only [Act.put,List.setIfInBounds_toArray,List.set_cons_zero,List.set_cons_succ]
         refine wpAnyH_ready (rs:=[6]) (by kernel_rfl) (by simp) ?_
         refine (AllReadyH.cons (o:=_) rfl (fun K hK=>?_) AllReadyH.nil)
         go_simp
         have hbl:=below_alloc Y2 (.cells #[.bool cc,.int .i64 zz,.string ss,.slice A2 m2 q2] 46)
         have HT:=Lib.hid (heap_alloc_new Y2 (.cells #[.bool cc,.int .i64 zz,.string ss,.slice A2 m2 q2] 46))
         have HN5':=Lib.hid ((hbl.block N5 (Array.getElem?_eq_some_iff.1 HN5.out).1).trans HN5.out)
         have hown3:=own_belowN HRO.out.own hbl
         have HS3:Hid (W6.heap.size≤(Y2.alloc (.cells #[.bool cc,.int .i64 zz,.string ss,.slice A2 m2 q2] 46)).heap.size):=Lib.hid (Nat.le_trans HRO.out.keep.size hbl.size)
         have HO3:=Lib.hid hown3
         clear hown3 hbl
         refine hK.out _ _ (trivial) (fun hHeld=>?_)
         clear hK K
         try simp only [Act.put,List.setIfInBounds_toArray,List.set_cons_zero,List.set_cons_succ]
         refine wpAnyH_ready (rs:=[7]) (by kernel_rfl) (by simp) ?_
         refine (AllReadyH.cons (o:=_) rfl (fun K hK=>?_) AllReadyH.nil)
         refine step_da rfl (.tmp 25) (.tmp 30) rfl W6.heap.size (.slice s acc.length cap) acc.length _ (by kernel_rfl) HO3.out Y2.heap.size cc zz ss A2 m2 q2 (by kernel_rfl) HT.out (by have:=HAC.out;omega) HS3.out ?_
         intro g4 c4 Y4 hown4 hg4 hat4
         have hnown:∀ j,j < W6.heap.size→some j ≠ (Value.slice s acc.length cap).ownBlock:=fun j hj e=>by have:=(HO3.out.lt j e.symm).1;omega
         have hkg:Kb (fun j=>W6.heap.size≤j) Y2 Y4:=(Kb.of_below (S:=fun j=>W6.heap.size≤j) (below_alloc Y2 (.cells #[.bool cc,.int .i64 zz,.string ss,.slice A2 m2 q2] 46))).trans ⟨hg4.os,hg4.tape,hg4.output,hg4.size,fun j hj hn=>hg4.block j hj (hnown j (by omega))⟩
         have HN54:=Lib.hid ((hkg.block N5 (Array.getElem?_eq_some_iff.1 HN5.out).1 (by have:=H5L.out;omega)).trans HN5.out)
         have HKG:=Lib.hid hkg
         have HOW4:=Lib.hid hown4
         have HG4:=Lib.hid hg4
         have HAT4:=Lib.hid hat4
         clear hown4 hg4 hat4 hnown hkg
         refine hK.out _ _ (trivial) (fun hHeld=>?_)
         clear hK K
         try simp only [Act.put,List.setIfInBounds_toArray,List.set_cons_zero,List.set_cons_succ]
         (refine wpAnyH_take (i:=8) (oi:=_) (v:=?_) rfl (by kernel_rfl) (by kernel_rfl) (by kernel_rfl) (fun _ _ _ h=>h) (Or.inl ⟨by kernel_rfl,?_⟩) (by assumption) ?_;rotate_left;(focus (intro w hSw;(try dsimp only at hSw);go_simp;(try with_reducible rfl);done));(try simp only [Act.put,List.setIfInBounds_toArray,List.set_cons_zero,List.set_cons_succ]))
         have z3:=(cellH HN54.out 3).trans rfl
         have f3:=frozenH HN54.out 3
         refine wpAnyH_ready (rs:=[9]) (by kernel_rfl) (by simp) ?_
         refine (AllReadyH.cons (o:=_) rfl (fun K hK=>?_) AllReadyH.nil)
         go_simp
         have hsn:=HRO.out.snoc (x2:=x) (v2:=.agg #[.bool cc,.int .i64 zz,.string ss,.slice A2 m2 q2]) (o:=.cells #[.bool cc,.int .i64 zz,.string ss,.slice A2 m2 q2] 46) (Kb.refl _ _) HDA.out HOW4.out HG4.out HAT4.out
         have hput:=blk_put Y4 N5 3 (.slice (some ⟨g4,0,none⟩) (acc.length+1) c4) HN54.out (by show 3 < 4;decide)
         have hkp:Kb (fun j=>j=N5) Y4 (Y4.setCell ⟨N5,3,none⟩ (.slice (some ⟨g4,0,none⟩) (acc.length+1) c4)):=(Kb.refl (fun j=>j=N5) Y4).put (p:=⟨N5,3,none⟩) rfl _
         have HNEW:Hid ((Y4.setCell ⟨N5,3,none⟩ (.slice (some ⟨g4,0,none⟩) (acc.length+1) c4)).heap[N5]?=some (.cells #[.bool true,.int .i64 0,.string nm,.slice (some ⟨g4,0,none⟩) (acc.length+1) c4] 46 (0,0))):=Lib.hid hput
         have HRN2:Hid (RdS L R r' rv' (n':Nat) false (Y4.setCell ⟨N5,3,none⟩ (.slice (some ⟨g4,0,none⟩) (acc.length+1) c4))):=Lib.hid ((HRN'.out.kb HKG.out (fun j _ e=>by have:=HL6.out;omega) (by have:=HRL6.out;omega)).kb hkp (fun j _ e=>by subst e;exact HLN5.out) (fun e=>HR5.out e.symm))
         have HROW:=Lib.hid (hsn.go (fun _ e=>e) (hkp.wider (fun j _ e=>by subst e;exact H5L.out)))
         have HK2:=Lib.hid ((HKR.out.trans (HKG.out.wider (fun _ _ e=>.inr (.inr e)))).trans (hkp.wider (fun _ _ e=>.inr (.inl e))))
         have HLEN:Hid (acc.length+1≤c):=Lib.hid (by have:=HLT.out;omega)
         have HL1:Hid ((acc++[x]).length=acc.length+1):=Lib.hid (by simp)
         clear hput hkp z3 f3 hsn
         generalize (Y4.setCell ⟨N5,3,none⟩ (.slice (some ⟨g4,0,none⟩) (acc.length+1) c4))=Y5 at HNEW HRN2 HROW HK2 ⊢
         refine hK.out _ _ (trivial) (fun hHeld=>?_)
         clear hK K
         try simp only [Act.put,List.setIfInBounds_toArray,List.set_cons_zero,List.set_cons_succ]
         refine wpAnyH_done (by kernel_rfl) ?_ _
         have hac:=HAC.out
         have hlen:=HLEN.out
         go_wp2_with fail
         go_roundw
         case rel=>exact ⟨acc.length+1,HLEN.out,by go_num,HK2,.inl ⟨acc++[x],_,_,_,_,_,_,HL1.out,HNN.out,HROW,by rw [HL1.out];exact HNEW,HRN2,by rw [HL1.out];exact HDS2⟩⟩
         case measure=>have:=HLT.out;simp [intOf];omega
       ·go_simp
        try go_at_call 49
        have hcall:=HC.out L R ni (dp+1) ri _ Y HRD.out (by have:=HDP.out;omega) HNB.out
        rw [show ((dp+1:Nat):Int)=(dp:Int)+1 from rfl] at hcall
        with_reducible refine hcall.mono ?_
        clear hcall
        rintro e Y2 ⟨hk2,⟨hnone,⟨cc,zz,ss,A2,m2,q2,rfl⟩,n',hrf⟩ | ⟨x,r',n',v,rv',hsome,rfl,hda,hrd,hn'⟩⟩
        ·have HNONE:Hid (decsF (dec k) c n r3=none):=Lib.hid (by rw [HDS.out,show c - acc.length=(c - acc.length - 1)+1 by have:=HLT.out;omega];exact more_none hnone)
         have HRF:=Lib.hid hrf
         have HN5:=Lib.hid ((hk2.block N5 (Array.getElem?_eq_some_iff.1 HN5.out).1 HR5.out).trans HN5.out)
         have HRO:=Lib.hid (HROY.out.go (fun _ e=>e) (hk2.wider (fun j _ e=>by subst e;exact HRL6.out)))
         have HKR:=Lib.hid (HKR.out.trans (hk2.wider (fun _ _ e=>.inl e)))
         clear hk2 hrf hnone HDS HRD
         go_simp
         refine hK.out _ _ (trivial) (fun hHeld=>?_)
         clear hK K
         try simp only [Act.put,List.setIfInBounds_toArray,List.set_cons_zero,List.set_cons_succ]
         refine wpAnyH_ready (rs:=[1,6]) (by kernel_rfl) (by simp) ?_
         refine (AllReadyH.cons (o:=_) rfl (fun K hK=>?_) (AllReadyH.cons (o:=_) rfl (fun K hK=>?_) AllReadyH.nil))
         ·have x3:=(cellH HN5.out 3).trans rfl
          go_simp
          clear x3
          refine hK.out _ _ (trivial) (fun hHeld=>?_)
          clear hK K
          try simp only [Act.put,List.setIfInBounds_toArray,List.set_cons_zero,List.set_cons_succ]
          refine wpAnyH_ready (rs:=[6]) (by kernel_rfl) (by simp) ?_
          refine (AllReadyH.cons (o:=_) rfl (fun K hK=>?_) AllReadyH.nil)
          go_simp
          have hbl:=below_alloc Y2 (.cells #[.bool cc,.int .i64 zz,.string ss,.slice A2 m2 q2] 46)
          have HT:=Lib.hid (heap_alloc_new Y2 (.cells #[.bool cc,.int .i64 zz,.string ss,.slice A2 m2 q2] 46))
          have HN5':=Lib.hid ((hbl.block N5 (Array.getElem?_eq_some_iff.1 HN5.out).1).trans HN5.out)
          have hown3:=own_belowN HRO.out.own hbl
          have HS3:Hid (W6.heap.size≤(Y2.alloc (.cells #[.bool cc,.int .i64 zz,.string ss,.slice A2 m2 q2] 46)).heap.size):=Lib.hid (Nat.le_trans HRO.out.keep.size hbl.size)
          have HO3:=Lib.hid hown3
          clear hown3 hbl
          refine hK.out _ _ (trivial) (fun hHeld=>?_)
          clear hK K
          try simp only [Act.put,List.setIfInBounds_toArray,List.set_cons_zero,List.set_cons_succ]
          refine wpAnyH_ready (rs:=[7]) (by kernel_rfl) (by simp) ?_
          refine (AllReadyH.cons (o:=_) rfl (fun K hK=>?_) AllReadyH.nil)
          refine step_da rfl (.tmp 25) (.tmp 30) rfl W6.heap.size (.slice s acc.length cap) acc.length _ (by kernel_rfl) HO3.out Y2.heap.size cc zz ss A2 m2 q2 (by kernel_rfl) HT.out (by have:=HAC.out;omega) HS3.out ?_
          intro g4 c4 Y4 hown4 hg4 hat4
          have hnown:∀ j,j < W6.heap.size→some j ≠ (Value.slice s acc.length cap).ownBlock:=fun j hj e=>by have:=(HO3.out.lt j e.symm).1;omega
          have hkg:Kb (fun j=>W6.heap.size≤j) Y2 Y4:=(Kb.of_below (S:=fun j=>W6.heap.size≤j) (below_alloc Y2 (.cells #[.bool cc,.int .i64 zz,.string ss,.slice A2 m2 q2] 46))).trans ⟨hg4.os,hg4.tape,hg4.output,hg4.size,fun j hj hn=>hg4.block j hj (hnown j (by omega))⟩
          have HN54:=Lib.hid ((hkg.block N5 (Array.getElem?_eq_some_iff.1 HN5.out).1 (by have:=H5L.out;omega)).trans HN5.out)
          have HKG:=Lib.hid hkg
          have HOW4:=Lib.hid hown4
          have HG4:=Lib.hid hg4
          have HAT4:=Lib.hid hat4
          clear hown4 hg4 hat4 hnown hkg
          refine hK.out _ _ (trivial) (fun hHeld=>?_)
          clear hK K
          try simp only [Act.put,List.setIfInBounds_toArray,List.set_cons_zero,List.set_cons_succ]
          (refine wpAnyH_take (i:=8) (oi:=_) (v:=?_) rfl (by kernel_rfl) (by kernel_rfl) (by kernel_rfl) (fun _ _ _ h=>h) (Or.inl ⟨by kernel_rfl,?_⟩) (by assumption) ?_;rotate_left;(focus (intro w hSw;(try dsimp only at hSw);go_simp;(try with_reducible rfl);done));(try simp only [Act.put,List.setIfInBounds_toArray,List.set_cons_zero,List.set_cons_succ]))
          have z3:=(cellH HN54.out 3).trans rfl
          have f3:=frozenH HN54.out 3
          refine wpAnyH_ready (rs:=[9]) (by kernel_rfl) (by simp) ?_
          refine (AllReadyH.cons (o:=_) rfl (fun K hK=>?_) AllReadyH.nil)
          go_simp
          have hput:=blk_put Y4 N5 3 (.slice (some ⟨g4,0,none⟩) (acc.length+1) c4) HN54.out (by show 3 < 4;decide)
          have hkp:Kb (fun j=>j=N5) Y4 (Y4.setCell ⟨N5,3,none⟩ (.slice (some ⟨g4,0,none⟩) (acc.length+1) c4)):=(Kb.refl (fun j=>j=N5) Y4).put (p:=⟨N5,3,none⟩) rfl _
          have HNEW:Hid ((Y4.setCell ⟨N5,3,none⟩ (.slice (some ⟨g4,0,none⟩) (acc.length+1) c4)).heap[N5]?=some (.cells #[.bool true,.int .i64 0,.string nm,.slice (some ⟨g4,0,none⟩) (acc.length+1) c4] 46 (0,0))):=Lib.hid hput
          have HRF2:Hid (Refd L R n' (Y4.setCell ⟨N5,3,none⟩ (.slice (some ⟨g4,0,none⟩) (acc.length+1) c4))):=Lib.hid (by
           obtain ⟨rvq,hq⟩:=HRF.out
           exact ⟨rvq,(hq.kb HKG.out (fun j _ e=>by have:=HL6.out;omega) (by have:=HRL6.out;omega)).kb hkp (fun j _ e=>by subst e;exact HLN5.out) (fun e=>HR5.out e.symm)⟩)
          have HK2:=Lib.hid ((HKR.out.trans (HKG.out.wider (fun _ _ e=>.inr (.inr e)))).trans (hkp.wider (fun _ _ e=>.inr (.inl e))))
          have HLEN:Hid (acc.length+1≤c):=Lib.hid (by have:=HLT.out;omega)
          clear hput hkp z3 f3
          generalize (Y4.setCell ⟨N5,3,none⟩ (.slice (some ⟨g4,0,none⟩) (acc.length+1) c4))=Y5 at HNEW HRF2 HK2 ⊢
          refine hK.out _ _ (trivial) (fun hHeld=>?_)
          clear hK K
          try simp only [Act.put,List.setIfInBounds_toArray,List.set_cons_zero,List.set_cons_succ]
          refine wpAnyH_done (by kernel_rfl) ?_ _
          have hac:=HAC.out
          have hlen:=HLEN.out
          go_wp2_with fail
          go_roundw
          case rel=>exact ⟨acc.length+1,HLEN.out,by go_num,HK2,.inr ⟨_,_,_,_,HNEW,HRF2,HNONE⟩⟩
          case measure=>have:=HLT.out;simp [intOf];omega
         ·go_simp
          have hbl:=below_alloc Y2 (.cells #[.bool cc,.int .i64 zz,.string ss,.slice A2 m2 q2] 46)
          have HT:=Lib.hid (heap_alloc_new Y2 (.cells #[.bool cc,.int .i64 zz,.string ss,.slice A2 m2 q2] 46))
          have HN5':=Lib.hid ((hbl.block N5 (Array.getElem?_eq_some_iff.1 HN5.out).1).trans HN5.out)
          have hown3:=own_belowN HRO.out.own hbl
          have HS3:Hid (W6.heap.size≤(Y2.alloc (.cells #[.bool cc,.int .i64 zz,.string ss,.slice A2 m2 q2] 46)).heap.size):=Lib.hid (Nat.le_trans HRO.out.keep.size hbl.size)
          have HO3:=Lib.hid hown3
          clear hown3 hbl
          refine hK.out _ _ (trivial) (fun hHeld=>?_)
          clear hK K
          try simp only [Act.put,List.setIfInBounds_toArray,List.set_cons_zero,List.set_cons_succ]
          refine wpAnyH_ready (rs:=[1]) (by kernel_rfl) (by simp) ?_
          refine (AllReadyH.cons (o:=_) rfl (fun K hK=>?_) AllReadyH.nil)
          have x3:=(cellH HN5'.out 3).trans rfl
          go_simp
          clear x3
          refine hK.out _ _ (trivial) (fun hHeld=>?_)
          clear hK K
          try simp only [Act.put,List.setIfInBounds_toArray,List.set_cons_zero,List.set_cons_succ]
          refine wpAnyH_ready (rs:=[7]) (by kernel_rfl) (by simp) ?_
          refine (AllReadyH.cons (o:=_) rfl (fun K hK=>?_) AllReadyH.nil)
          refine step_da rfl (.tmp 25) (.tmp 30) rfl W6.heap.size (.slice s acc.length cap) acc.length _ (by kernel_rfl) HO3.out Y2.heap.size cc zz ss A2 m2 q2 (by kernel_rfl) HT.out (by have:=HAC.out;omega) HS3.out ?_
          intro g4 c4 Y4 hown4 hg4 hat4
          have hnown:∀ j,j < W6.heap.size→some j ≠ (Value.slice s acc.length cap).ownBlock:=fun j hj e=>by have:=(HO3.out.lt j e.symm).1;omega
          have hkg:Kb (fun j=>W6.heap.size≤j) Y2 Y4:=(Kb.of_below (S:=fun j=>W6.heap.size≤j) (below_alloc Y2 (.cells #[.bool cc,.int .i64 zz,.string ss,.slice A2 m2 q2] 46))).trans ⟨hg4.os,hg4.tape,hg4.output,hg4.size,fun j hj hn=>hg4.block j hj (hnown j (by omega))⟩
          have HN54:=Lib.hid ((hkg.block N5 (Array.getElem?_eq_some_iff.1 HN5.out).1 (by have:=H5L.out;omega)).trans HN5.out)
          have HKG:=Lib.hid hkg
          have HOW4:=Lib.hid hown4
          have HG4:=Lib.hid hg4
          have HAT4:=Lib.hid hat4
          clear hown4 hg4 hat4 hnown hkg
          refine hK.out _ _ (trivial) (fun hHeld=>?_)
          clear hK K
          try simp only [Act.put,List.setIfInBounds_toArray,List.set_cons_zero,List.set_cons_succ]
          (refine wpAnyH_take (i:=8) (oi:=_) (v:=?_) rfl (by kernel_rfl) (by kernel_rfl) (by kernel_rfl) (fun _ _ _ h=>h) (Or.inl ⟨by kernel_rfl,?_⟩) (by assumption) ?_;rotate_left;(focus (intro w hSw;(try dsimp only at hSw);go_simp;(try with_reducible rfl);done));(try simp only [Act.put,List.setIfInBounds_toArray,List.set_cons_zero,List.set_cons_succ]))
          have z3:=(cellH HN54.out 3).trans rfl
          have f3:=frozenH HN54.out 3
          refine wpAnyH_ready (rs:=[9]) (by kernel_rfl) (by simp) ?_
          refine (AllReadyH.cons (o:=_) rfl (fun K hK=>?_) AllReadyH.nil)
          go_simp
          have hput:=blk_put Y4 N5 3 (.slice (some ⟨g4,0,none⟩) (acc.length+1) c4) HN54.out (by show 3 < 4;decide)
          have hkp:Kb (fun j=>j=N5) Y4 (Y4.setCell ⟨N5,3,none⟩ (.slice (some ⟨g4,0,none⟩) (acc.length+1) c4)):=(Kb.refl (fun j=>j=N5) Y4).put (p:=⟨N5,3,none⟩) rfl _
          have HNEW:Hid ((Y4.setCell ⟨N5,3,none⟩ (.slice (some ⟨g4,0,none⟩) (acc.length+1) c4)).heap[N5]?=some (.cells #[.bool true,.int .i64 0,.string nm,.slice (some ⟨g4,0,none⟩) (acc.length+1) c4] 46 (0,0))):=Lib.hid hput
          have HRF2:Hid (Refd L R n' (Y4.setCell ⟨N5,3,none⟩ (.slice (some ⟨g4,0,none⟩) (acc.length+1) c4))):=Lib.hid (by
           obtain ⟨rvq,hq⟩:=HRF.out
           exact ⟨rvq,(hq.kb HKG.out (fun j _ e=>by have:=HL6.out;omega) (by have:=HRL6.out;omega)).kb hkp (fun j _ e=>by subst e;exact HLN5.out) (fun e=>HR5.out e.symm)⟩)
          have HK2:=Lib.hid ((HKR.out.trans (HKG.out.wider (fun _ _ e=>.inr (.inr e)))).trans (hkp.wider (fun _ _ e=>.inr (.inl e))))
          have HLEN:Hid (acc.length+1≤c):=Lib.hid (by have:=HLT.out;omega)
          clear hput hkp z3 f3
          generalize (Y4.setCell ⟨N5,3,none⟩ (.slice (some ⟨g4,0,none⟩) (acc.length+1) c4))=Y5 at HNEW HRF2 HK2 ⊢
          refine hK.out _ _ (trivial) (fun hHeld=>?_)
          clear hK K
          try simp only [Act.put,List.setIfInBounds_toArray,List.set_cons_zero,List.set_cons_succ]
          refine wpAnyH_done (by kernel_rfl) ?_ _
          have hac:=HAC.out
          have hlen:=HLEN.out
          go_wp2_with fail
          go_roundw
          case rel=>exact ⟨acc.length+1,HLEN.out,by go_num,HK2,.inr ⟨_,_,_,_,HNEW,HRF2,HNONE⟩⟩
          case measure=>have:=HLT.out;simp [intOf];omega
        ·obtain ⟨A2,m2,q2,hve⟩:=hda.this
         have HDS2:Hid (decsF (dec k) c n r3=more (acc++[x]) (decsF (dec k) (c - (acc.length+1)) n' r')):=Lib.hid (by
          rw [HDS.out,show c - acc.length=(c - (acc.length+1))+1 by have:=HLT.out;omega]
          exact more_some hsome)
         have HN5:=Lib.hid ((hk2.block N5 (Array.getElem?_eq_some_iff.1 HN5.out).1 HR5.out).trans HN5.out)
         have HRO0:=HRO
         have HK2c:Hid (Kb (fun j=>j < W6.heap.size) wr Y2):=Lib.hid ((Kb.of_below (S:=fun j=>j < W6.heap.size) HBY.out).trans (hk2.wider (fun j _ e=>by subst e;exact HRL6.out)))
         have HRO:=Lib.hid (HRO.out.go (fun _ e=>e) HK2c.out)
         have HDA:Hid (DaE (fun j=>j < W6.heap.size ∨ s=some ⟨j,0,none⟩) x v Y2):=Lib.hid (DaE.step _ _ _ _ _ _ hda (Kb.refl _ _) (fun j _ e=>by
          have h1:=HBY.out.size
          have h2:=HRO0.out.keep.size
          rcases e with e | e
          ·omega
          ·have:=(HRO0.out.own.lt j (by rw [e];rfl)).2
           omega))
         have HKR:=Lib.hid (HKR.out.trans (hk2.wider (fun _ _ e=>.inl e)))
         have HRN':=Lib.hid hrd
         have HNN:=Lib.hid hn'
         obtain ⟨cc,hcc⟩:∃ cc,x.ctor=cc:=⟨_,rfl⟩
         obtain ⟨zz,hzz⟩:∃ zz,x.int=zz:=⟨_,rfl⟩
         obtain ⟨ss,hss⟩:∃ ss,x.name=ss:=⟨_,rfl⟩
         rw [hcc,hzz,hss] at hve
         subst hve
         clear hk2 hda hrd hn' hsome HDS HRD hcc hzz hss HRO0
         go_simp
         refine hK.out _ _ (trivial) (fun hHeld=>?_)
         clear hK K
         try simp only [Act.put,List.setIfInBounds_toArray,List.set_cons_zero,List.set_cons_succ]
         refine wpAnyH_ready (rs:=[1,6]) (by kernel_rfl) (by simp) ?_
         refine (AllReadyH.cons (o:=_) rfl (fun K hK=>?_) (AllReadyH.cons (o:=_) rfl (fun K hK=>?_) AllReadyH.nil))
         ·have x3:=(cellH HN5.out 3).trans rfl
          go_simp
          clear x3
          refine hK.out _ _ (trivial) (fun hHeld=>?_)
          clear hK K
          try simp only [Act.put,List.setIfInBounds_toArray,List.set_cons_zero,List.set_cons_succ]
          refine wpAnyH_ready (rs:=[6]) (by kernel_rfl) (by simp) ?_
          refine (AllReadyH.cons (o:=_) rfl (fun K hK=>?_) AllReadyH.nil)
          go_simp
          have hbl:=below_alloc Y2 (.cells #[.bool cc,.int .i64 zz,.string ss,.slice A2 m2 q2] 46)
          have HT:=Lib.hid (heap_alloc_new Y2 (.cells #[.bool cc,.int .i64 zz,.string ss,.slice A2 m2 q2] 46))
          have HN5':=Lib.hid ((hbl.block N5 (Array.getElem?_eq_some_iff.1 HN5.out).1).trans HN5.out)
          have hown3:=own_belowN HRO.out.own hbl
          have HS3:Hid (W6.heap.size≤(Y2.alloc (.cells #[.bool cc,.int .i64 zz,.string ss,.slice A2 m2 q2] 46)).heap.size):=Lib.hid (Nat.le_trans HRO.out.keep.size hbl.size)
          have HO3:=Lib.hid hown3
          clear hown3 hbl
          refine hK.out _ _ (trivial) (fun hHeld=>?_)
          clear hK K
          try simp only [Act.put,List.setIfInBounds_toArray,List.set_cons_zero,List.set_cons_succ]
          refine wpAnyH_ready (rs:=[7]) (by kernel_rfl) (by simp) ?_
          refine (AllReadyH.cons (o:=_) rfl (fun K hK=>?_) AllReadyH.nil)
          refine step_da rfl (.tmp 25) (.tmp 30) rfl W6.heap.size (.slice s acc.length cap) acc.length _ (by kernel_rfl) HO3.out Y2.heap.size cc zz ss A2 m2 q2 (by kernel_rfl) HT.out (by have:=HAC.out;omega) HS3.out ?_
          intro g4 c4 Y4 hown4 hg4 hat4
          have hnown:∀ j,j < W6.heap.size→some j ≠ (Value.slice s acc.length cap).ownBlock:=fun j hj e=>by have:=(HO3.out.lt j e.symm).1;omega
          have hkg:Kb (fun j=>W6.heap.size≤j) Y2 Y4:=(Kb.of_below (S:=fun j=>W6.heap.size≤j) (below_alloc Y2 (.cells #[.bool cc,.int .i64 zz,.string ss,.slice A2 m2 q2] 46))).trans ⟨hg4.os,hg4.tape,hg4.output,hg4.size,fun j hj hn=>hg4.block j hj (hnown j (by omega))⟩
          have HN54:=Lib.hid ((hkg.block N5 (Array.getElem?_eq_some_iff.1 HN5.out).1 (by have:=H5L.out;omega)).trans HN5.out)
          have HKG:=Lib.hid hkg
          have HOW4:=Lib.hid hown4
          have HG4:=Lib.hid hg4
          have HAT4:=Lib.hid hat4
          clear hown4 hg4 hat4 hnown hkg
          refine hK.out _ _ (trivial) (fun hHeld=>?_)
          clear hK K
          try simp only [Act.put,List.setIfInBounds_toArray,List.set_cons_zero,List.set_cons_succ]
          (refine wpAnyH_take (i:=8) (oi:=_) (v:=?_) rfl (by kernel_rfl) (by kernel_rfl) (by kernel_rfl) (fun _ _ _ h=>h) (Or.inl ⟨by kernel_rfl,?_⟩) (by assumption) ?_;rotate_left;(focus (intro w hSw;(try dsimp only at hSw);go_simp;(try with_reducible rfl);done));(try simp only [Act.put,List.setIfInBounds_toArray,List.set_cons_zero,List.set_cons_succ]))
          have z3:=(cellH HN54.out 3).trans rfl
          have f3:=frozenH HN54.out 3
          refine wpAnyH_ready (rs:=[9]) (by kernel_rfl) (by simp) ?_
          refine (AllReadyH.cons (o:=_) rfl (fun K hK=>?_) AllReadyH.nil)
          go_simp
          have hsn:=HRO.out.snoc (x2:=x) (v2:=.agg #[.bool cc,.int .i64 zz,.string ss,.slice A2 m2 q2]) (o:=.cells #[.bool cc,.int .i64 zz,.string ss,.slice A2 m2 q2] 46) (Kb.refl _ _) HDA.out HOW4.out HG4.out HAT4.out
          have hput:=blk_put Y4 N5 3 (.slice (some ⟨g4,0,none⟩) (acc.length+1) c4) HN54.out (by show 3 < 4;decide)
          have hkp:Kb (fun j=>j=N5) Y4 (Y4.setCell ⟨N5,3,none⟩ (.slice (some ⟨g4,0,none⟩) (acc.length+1) c4)):=(Kb.refl (fun j=>j=N5) Y4).put (p:=⟨N5,3,none⟩) rfl _
          have HNEW:Hid ((Y4.setCell ⟨N5,3,none⟩ (.slice (some ⟨g4,0,none⟩) (acc.length+1) c4)).heap[N5]?=some (.cells #[.bool true,.int .i64 0,.string nm,.slice (some ⟨g4,0,none⟩) (acc.length+1) c4] 46 (0,0))):=Lib.hid hput
          have HRN2:Hid (RdS L R r' rv' (n':Nat) false (Y4.setCell ⟨N5,3,none⟩ (.slice (some ⟨g4,0,none⟩) (acc.length+1) c4))):=Lib.hid ((HRN'.out.kb HKG.out (fun j _ e=>by have:=HL6.out;omega) (by have:=HRL6.out;omega)).kb hkp (fun j _ e=>by subst e;exact HLN5.out) (fun e=>HR5.out e.symm))
          have HROW:=Lib.hid (hsn.go (fun _ e=>e) (hkp.wider (fun j _ e=>by subst e;exact H5L.out)))
          have HK2:=Lib.hid ((HKR.out.trans (HKG.out.wider (fun _ _ e=>.inr (.inr e)))).trans (hkp.wider (fun _ _ e=>.inr (.inl e))))
          have HLEN:Hid (acc.length+1≤c):=Lib.hid (by have:=HLT.out;omega)
          have HL1:Hid ((acc++[x]).length=acc.length+1):=Lib.hid (by simp)
          clear hput hkp z3 f3 hsn
          generalize (Y4.setCell ⟨N5,3,none⟩ (.slice (some ⟨g4,0,none⟩) (acc.length+1) c4))=Y5 at HNEW HRN2 HROW HK2 ⊢
          refine hK.out _ _ (trivial) (fun hHeld=>?_)
          clear hK K
          try simp only [Act.put,List.setIfInBounds_toArray,List.set_cons_zero,List.set_cons_succ]
          refine wpAnyH_done (by kernel_rfl) ?_ _
          have hac:=HAC.out
          have hlen:=HLEN.out
          go_wp2_with fail
          go_roundw
          case rel=>exact ⟨acc.length+1,HLEN.out,by go_num,HK2,.inl ⟨acc++[x],_,_,_,_,_,_,HL1.out,HNN.out,HROW,by rw [HL1.out];exact HNEW,HRN2,by rw [HL1.out];exact HDS2⟩⟩
          case measure=>have:=HLT.out;simp [intOf];omega
         ·go_simp
          have hbl:=below_alloc Y2 (.cells #[.bool cc,.int .i64 zz,.string ss,.slice A2 m2 q2] 46)
          have HT:=Lib.hid (heap_alloc_new Y2 (.cells #[.bool cc,.int .i64 zz,.string ss,.slice A2 m2 q2] 46))
          have HN5':=Lib.hid ((hbl.block N5 (Array.getElem?_eq_some_iff.1 HN5.out).1).trans HN5.out)
          have hown3:=own_belowN HRO.out.own hbl
          have HS3:Hid (W6.heap.size≤(Y2.alloc (.cells #[.bool cc,.int .i64 zz,.string ss,.slice A2 m2 q2] 46)).heap.size):=Lib.hid (Nat.le_trans HRO.out.keep.size hbl.size)
          have HO3:=Lib.hid hown3
          clear hown3 hbl
          refine hK.out _ _ (trivial) (fun hHeld=>?_)
          clear hK K
          try simp only [Act.put,List.setIfInBounds_toArray,List.set_cons_zero,List.set_cons_succ]
          refine wpAnyH_ready (rs:=[1]) (by kernel_rfl) (by simp) ?_
          refine (AllReadyH.cons (o:=_) rfl (fun K hK=>?_) AllReadyH.nil)
          have x3:=(cellH HN5'.out 3).trans rfl
          go_simp
          clear x3
          refine hK.out _ _ (trivial) (fun hHeld=>?_)
          clear hK K
          try simp only [Act.put,List.setIfInBounds_toArray,List.set_cons_zero,List.set_cons_succ]
          refine wpAnyH_ready (rs:=[7]) (by kernel_rfl) (by simp) ?_
          refine (AllReadyH.cons (o:=_) rfl (fun K hK=>?_) AllReadyH.nil)
          refine step_da rfl (.tmp 25) (.tmp 30) rfl W6.heap.size (.slice s acc.length cap) acc.length _ (by kernel_rfl) HO3.out Y2.heap.size cc zz ss A2 m2 q2 (by kernel_rfl) HT.out (by have:=HAC.out;omega) HS3.out ?_
          intro g4 c4 Y4 hown4 hg4 hat4
          have hnown:∀ j,j < W6.heap.size→some j ≠ (Value.slice s acc.length cap).ownBlock:=fun j hj e=>by have:=(HO3.out.lt j e.symm).1;omega
          have hkg:Kb (fun j=>W6.heap.size≤j) Y2 Y4:=(Kb.of_below (S:=fun j=>W6.heap.size≤j) (below_alloc Y2 (.cells #[.bool cc,.int .i64 zz,.string ss,.slice A2 m2 q2] 46))).trans ⟨hg4.os,hg4.tape,hg4.output,hg4.size,fun j hj hn=>hg4.block j hj (hnown j (by omega))⟩
          have HN54:=Lib.hid ((hkg.block N5 (Array.getElem?_eq_some_iff.1 HN5.out).1 (by have:=H5L.out;omega)).trans HN5.out)
          have HKG:=Lib.hid hkg
          have HOW4:=Lib.hid hown4
          have HG4:=Lib.hid hg4
          have HAT4:=Lib.hid hat4
          clear hown4 hg4 hat4 hnown hkg
          refine hK.out _ _ (trivial) (fun hHeld=>?_)
          clear hK K
          try simp only [Act.put,List.setIfInBounds_toArray,List.set_cons_zero,List.set_cons_succ]
          (refine wpAnyH_take (i:=8) (oi:=_) (v:=?_) rfl (by kernel_rfl) (by kernel_rfl) (by kernel_rfl) (fun _ _ _ h=>h) (Or.inl ⟨by kernel_rfl,?_⟩) (by assumption) ?_;rotate_left;(focus (intro w hSw;(try dsimp only at hSw);go_simp;(try with_reducible rfl);done));(try simp only [Act.put,List.setIfInBounds_toArray,List.set_cons_zero,List.set_cons_succ]))
          have z3:=(cellH HN54.out 3).trans rfl
          have f3:=frozenH HN54.out 3
          refine wpAnyH_ready (rs:=[9]) (by kernel_rfl) (by simp) ?_
          refine (AllReadyH.cons (o:=_) rfl (fun K hK=>?_) AllReadyH.nil)
          go_simp
          have hsn:=HRO.out.snoc (x2:=x) (v2:=.agg #[.bool cc,.int .i64 zz,.string ss,.slice A2 m2 q2]) (o:=.cells #[.bool cc,.int .i64 zz,.string ss,.slice A2 m2 q2] 46) (Kb.refl _ _) HDA.out HOW4.out HG4.out HAT4.out
          have hput:=blk_put Y4 N5 3 (.slice (some ⟨g4,0,none⟩) (acc.length+1) c4) HN54.out (by show 3 < 4;decide)
          have hkp:Kb (fun j=>j=N5) Y4 (Y4.setCell ⟨N5,3,none⟩ (.slice (some ⟨g4,0,none⟩) (acc.length+1) c4)):=(Kb.refl (fun j=>j=N5) Y4).put (p:=⟨N5,3,none⟩) rfl _
          have HNEW:Hid ((Y4.setCell ⟨N5,3,none⟩ (.slice (some ⟨g4,0,none⟩) (acc.length+1) c4)).heap[N5]?=some (.cells #[.bool true,.int .i64 0,.string nm,.slice (some ⟨g4,0,none⟩) (acc.length+1) c4] 46 (0,0))):=Lib.hid hput
          have HRN2:Hid (RdS L R r' rv' (n':Nat) false (Y4.setCell ⟨N5,3,none⟩ (.slice (some ⟨g4,0,none⟩) (acc.length+1) c4))):=Lib.hid ((HRN'.out.kb HKG.out (fun j _ e=>by have:=HL6.out;omega) (by have:=HRL6.out;omega)).kb hkp (fun j _ e=>by subst e;exact HLN5.out) (fun e=>HR5.out e.symm))
          have HROW:=Lib.hid (hsn.go (fun _ e=>e) (hkp.wider (fun j _ e=>by subst e;exact H5L.out)))
          have HK2:=Lib.hid ((HKR.out.trans (HKG.out.wider (fun _ _ e=>.inr (.inr e)))).trans (hkp.wider (fun _ _ e=>.inr (.inl e))))
          have HLEN:Hid (acc.length+1≤c):=Lib.hid (by have:=HLT.out;omega)
          have HL1:Hid ((acc++[x]).length=acc.length+1):=Lib.hid (by simp)
          clear hput hkp z3 f3 hsn
          generalize (Y4.setCell ⟨N5,3,none⟩ (.slice (some ⟨g4,0,none⟩) (acc.length+1) c4))=Y5 at HNEW HRN2 HROW HK2 ⊢
          refine hK.out _ _ (trivial) (fun hHeld=>?_)
          clear hK K
          try simp only [Act.put,List.setIfInBounds_toArray,List.set_cons_zero,List.set_cons_succ]
          refine wpAnyH_done (by kernel_rfl) ?_ _
          have hac:=HAC.out
          have hlen:=HLEN.out
          go_wp2_with fail
          go_roundw
          case rel=>exact ⟨acc.length+1,HLEN.out,by go_num,HK2,.inl ⟨acc++[x],_,_,_,_,_,_,HL1.out,HNN.out,HROW,by rw [HL1.out];exact HNEW,HRN2,by rw [HL1.out];exact HDS2⟩⟩
          case measure=>have:=HLT.out;simp [intOf];omega
      ·have hic:acc.length=c:=by omega
       have hdc:decide (acc.length < c)=false:=by simp;omega
       have hdi:decide ((acc.length:Int) < (c:Int))=false:=by simp;omega
       have HRES:Hid (decsF (dec k) c n r3=some (acc,ri,ni)):=Lib.hid (by
        rw [HDS.out,show c - acc.length=0 by omega]
        simp [decsF,more])
       have HN4:=Lib.hid ((HKR.out.block N4 H4L.out (by have:=H4L.out;have:=HRN.out;have:=HN45.out;omega)).trans HN4.out)
       have HKW:=Lib.hid (HKW.out.trans (HKR.out.wider (fun j _ e=>by
        rcases e with e | e | e
        ·exact .inl e
        ·exact .inr (by have:=HN5W.out;omega)
        ·exact .inr (by have:=HW6W.out;omega))))
       have HHE:=Lib.hid (HRO.out.held (fun _ e=>e))
       clear hi hic
       have d0:=(cellH HN5.out 0).trans rfl
       have d1:=(cellH HN5.out 1).trans rfl
       have d2:=(cellH HN5.out 2).trans rfl
       have d3:=(cellH HN5.out 3).trans rfl
       have e0:=(cellH HN4.out 0).trans rfl
       have e1:=(cellH HN4.out 1).trans rfl
       have e2:=(cellH HN4.out 2).trans rfl
       have e3:=(cellH HN4.out 3).trans rfl
       have g0:=frozenH HN4.out 0
       have g1:=frozenH HN4.out 1
       have g2:=frozenH HN4.out 2
       have g3:=frozenH HN4.out 3
       go_wp2_with fail
       have hp4:=put4F (.bool true) (.int .i64 0) (.string nm) (.slice s acc.length cap) HN4.out
       have hk4:=kput4 wr N4 (.bool true) (.int .i64 0) (.string nm) (.slice s acc.length cap)
       have c0:=(cellH hp4 0).trans rfl
       have c1:=(cellH hp4 1).trans rfl
       have c2:=(cellH hp4 2).trans rfl
       have c3:=(cellH hp4 3).trans rfl
       exact bodyPost_ret (v:=.agg #[.bool true,.int .i64 0,.string nm,.slice s acc.length cap]) (by simp [results,Tryz.results84,go_sem,c0,c1,c2,c3]) rfl (by
        unfold OutP
        refine ⟨fin_kb HKW.out (Nat.le_of_eq HNE.out) hk4,.inr ⟨.mk true 0 nm acc,ri,ni,_,_,HSTR.out acc ri ni HRES.out,rfl,?_,HRD.out.kb hk4 (fun _ _ e=>e ▸ HLN.out) HRN.out,HNB.out⟩⟩
        exact daE_row (RowW.step DaE.step _ _ _ _ _ _ HHE.out (hk4.wider (fun j _ e=>by subst e;exact H4L.out)) (fun j _ e=>by have:=HW6W.out;show j < W6.heap.size;omega)))
     ·by_cases hlt:i < c
      ·have hdc:decide (i < c)=true:=by simpa using hlt
       have hdi:decide ((i:Int) < (c:Int))=true:=by simp;omega
       obtain ⟨rvq,hq⟩:=HRF.out
       have b2:=(cellH hq.box 2).trans rfl
       clear hq
       have HN4:=Lib.hid ((HKR.out.block N4 H4L.out (by have:=H4L.out;have:=HRN.out;have:=HN45.out;omega)).trans HN4.out)
       have HKW:=Lib.hid (HKW.out.trans (HKR.out.wider (fun j _ e=>by
        rcases e with e | e | e
        ·exact .inl e
        ·exact .inr (by have:=HN5W.out;omega)
        ·exact .inr (by have:=HW6W.out;omega))))
       have d0:=(cellH HN5.out 0).trans rfl
       have d1:=(cellH HN5.out 1).trans rfl
       have d2:=(cellH HN5.out 2).trans rfl
       have d3:=(cellH HN5.out 3).trans rfl
       have e0:=(cellH HN4.out 0).trans rfl
       have e1:=(cellH HN4.out 1).trans rfl
       have e2:=(cellH HN4.out 2).trans rfl
       have e3:=(cellH HN4.out 3).trans rfl
       have g0:=frozenH HN4.out 0
       have g1:=frozenH HN4.out 1
       have g2:=frozenH HN4.out 2
       have g3:=frozenH HN4.out 3
       go_wp2_with fail
       have hp4:=put4F (.bool true) (.int .i64 0) (.string nm) (.slice A5 m5 q5) HN4.out
       have hk4:=kput4 wr N4 (.bool true) (.int .i64 0) (.string nm) (.slice A5 m5 q5)
       have c0:=(cellH hp4 0).trans rfl
       have c1:=(cellH hp4 1).trans rfl
       have c2:=(cellH hp4 2).trans rfl
       have c3:=(cellH hp4 3).trans rfl
       exact bodyPost_ret (v:=.agg #[.bool true,.int .i64 0,.string nm,.slice A5 m5 q5]) (by simp [results,Tryz.results84,go_sem,c0,c1,c2,c3]) rfl (by unfold OutP;exact ⟨fin_kb HKW.out (Nat.le_of_eq HNE.out) hk4,.inl ⟨HSTN.out HDS.out,⟨_,_,_,_,_,_,rfl⟩,_,refd_put HRF.out hk4 HLN.out HRN.out⟩⟩)
      ·have hdc:decide (i < c)=false:=by simpa using hlt
       have hdi:decide ((i:Int) < (c:Int))=false:=by simp;omega
       have HN4:=Lib.hid ((HKR.out.block N4 H4L.out (by have:=H4L.out;have:=HRN.out;have:=HN45.out;omega)).trans HN4.out)
       have HKW:=Lib.hid (HKW.out.trans (HKR.out.wider (fun j _ e=>by
        rcases e with e | e | e
        ·exact .inl e
        ·exact .inr (by have:=HN5W.out;omega)
        ·exact .inr (by have:=HW6W.out;omega))))
       have d0:=(cellH HN5.out 0).trans rfl
       have d1:=(cellH HN5.out 1).trans rfl
       have d2:=(cellH HN5.out 2).trans rfl
       have d3:=(cellH HN5.out 3).trans rfl
       have e0:=(cellH HN4.out 0).trans rfl
       have e1:=(cellH HN4.out 1).trans rfl
       have e2:=(cellH HN4.out 2).trans rfl
       have e3:=(cellH HN4.out 3).trans rfl
       have g0:=frozenH HN4.out 0
       have g1:=frozenH HN4.out 1
       have g2:=frozenH HN4.out 2
       have g3:=frozenH HN4.out 3
       go_wp2_with fail
       have hp4:=put4F (.bool true) (.int .i64 0) (.string nm) (.slice A5 m5 q5) HN4.out
       have hk4:=kput4 wr N4 (.bool true) (.int .i64 0) (.string nm) (.slice A5 m5 q5)
       have c0:=(cellH hp4 0).trans rfl
       have c1:=(cellH hp4 1).trans rfl
       have c2:=(cellH hp4 2).trans rfl
       have c3:=(cellH hp4 3).trans rfl
       exact bodyPost_ret (v:=.agg #[.bool true,.int .i64 0,.string nm,.slice A5 m5 q5]) (by simp [results,Tryz.results84,go_sem,c0,c1,c2,c3]) rfl (by unfold OutP;exact ⟨fin_kb HKW.out (Nat.le_of_eq HNE.out) hk4,.inl ⟨HSTN.out HDS.out,⟨_,_,_,_,_,_,rfl⟩,_,refd_put HRF.out hk4 HLN.out HRN.out⟩⟩)
   ·have hd8:decide (c≤8)=false:=by simpa using hc8
    have HC9:Hid (0 < c):=Lib.hid (by omega)
    have HNO:Hid (strD (dec k) n (b :: r2)=none):=Lib.hid (by
     rw [strD,if_pos HBC.out,HRX.out,HCONS.out]
     show (if a.toNat≤8 then _ else none)=_
     rw [HCN.out,if_neg hc8])
    rw [hd8]
    clear hc8 hd8
    go_wp2_with fail
    try go_at_call 81
    refine (refuse_any L R _ _ n _ _ H6.out).mono ?_
    rintro e WW ⟨rfl,hrd8,hk8⟩
    have HRF:Hid (Refd L R n WW):=Lib.hid ⟨_,hrd8⟩
    have HN4:=Lib.hid ((hk8.block N4 (Array.getElem?_eq_some_iff.1 HN4.out).1 (fun e=>HRN.out e.symm)).trans HN4.out)
    have HN5:=Lib.hid ((hk8.block N5 (Array.getElem?_eq_some_iff.1 HN5.out).1 HR5.out).trans HN5.out)
    have HKW:=Lib.hid (HKW.out.trans (hk8.wider (fun _ _ e=>.inl e)))
    have HB2:=Lib.hid hrd8.box
    have hd0:decide (0 < c)=true:=by have:=HC9.out;simp;omega
    have hd1:decide ((0:Int) < (c:Int))=true:=by have:=HC9.out;simp;omega
    clear hk8 hrd8
    go_wp2_with fail
    go_loopw [18] (fun t wr=>t=.int .i64 0∧wr=WW) (fun _ _=>0)
    case atStart=>exact ⟨rfl,rfl⟩
    case round =>
     obtain ⟨rfl,rfl⟩:=hrel
     have b2:=(cellH HB2.out 2).trans rfl
     have d0:=(cellH HN5.out 0).trans rfl
     have d1:=(cellH HN5.out 1).trans rfl
     have d2:=(cellH HN5.out 2).trans rfl
     have d3:=(cellH HN5.out 3).trans rfl
     have e0:=(cellH HN4.out 0).trans rfl
     have e1:=(cellH HN4.out 1).trans rfl
     have e2:=(cellH HN4.out 2).trans rfl
     have e3:=(cellH HN4.out 3).trans rfl
     have g0:=frozenH HN4.out 0
     have g1:=frozenH HN4.out 1
     have g2:=frozenH HN4.out 2
     have g3:=frozenH HN4.out 3
     go_wp2_with fail
     have hp4:=put4F (.bool true) (.int .i64 0) (.string nm) (.slice none 0 0) HN4.out
     have hk4:=kput4 wr N4 (.bool true) (.int .i64 0) (.string nm) (.slice none 0 0)
     have c0:=(cellH hp4 0).trans rfl
     have c1:=(cellH hp4 1).trans rfl
     have c2:=(cellH hp4 2).trans rfl
     have c3:=(cellH hp4 3).trans rfl
     exact bodyPost_ret (v:=.agg #[.bool true,.int .i64 0,.string nm,.slice none 0 0]) (by simp [results,Tryz.results84,go_sem,c0,c1,c2,c3]) rfl (by unfold OutP;exact ⟨fin_kb HKW.out (Nat.le_of_eq HNE.out) hk4,.inl ⟨HNO.out,⟨_,_,_,_,_,_,rfl⟩,_,refd_put HRF.out hk4 HLN.out HRN.out⟩⟩)
end Lx
end Go.Proofs.YtiljemkglhloeaaGreatDoor
namespace Go.Proofs.YtiljemkglhloeaaGreatDoor
set_option linter.unusedSimpArgs false
set_option linter.unusedVariables false
namespace Lx
open Go Go.RowKit
set_option maxRecDepth 100000 in
set_option maxHeartbeats 8000000 in
theorem data_zero:DecC 0:=by
 intro L R n dp rest rv w h hdp hn
 have hRlt:=(Array.getElem?_eq_some_iff.1 h.box).1
 have h1:=h.below (below_alloc w (.cells #[.bool false,.int .i64 0,.string ⟨#[]⟩,.slice none 0 0] 46))
 have hput:=h.put (n':=(n+1:Nat))
 have hkp:Kb (fun j=>j=R) w (w.setCell ⟨R,1,none⟩ (.int .i64 ((n+1:Nat):Int))):=(Kb.refl (fun j=>j=R) _).put (p:=⟨R,1,none⟩) rfl _
 rw [show ((n+1:Nat):Int)=(n:Int)+1 from rfl] at hput hkp
 have hb:=below_alloc (w.setCell ⟨R,1,none⟩ (.int .i64 ((n:Int)+1))) (.cells #[.bool false,.int .i64 0,.string ⟨#[]⟩,.slice none 0 0] 46)
 have hn4:=heap_alloc_new (w.setCell ⟨R,1,none⟩ (.int .i64 ((n:Int)+1))) (.cells #[.bool false,.int .i64 0,.string ⟨#[]⟩,.slice none 0 0] 46)
 have hss:(w.setCell ⟨R,1,none⟩ (.int .i64 ((n:Int)+1))).heap.size=w.heap.size:=by simp
 rw [hss] at hn4
 have HRD:=Lib.hid (hput.below hb)
 have HN4:=Lib.hid hn4
 have HKW:=Lib.hid ((hkp.wider (S':=fun j=>j=R ∨ w.heap.size≤j) (fun _ _ e=>.inl e)).trans (Kb.of_below hb))
 have HDP:=Lib.hid hdp
 have HLN:Hid (L≤w.heap.size):=Lib.hid (by have:=h.lo;omega)
 have HRN:Hid (¬ R=w.heap.size):=Lib.hid (by omega)
 have HSZ:Hid (w.heap.size < ((w.setCell ⟨R,1,none⟩ (.int .i64 ((n:Int)+1))).alloc (.cells #[.bool false,.int .i64 0,.string ⟨#[]⟩,.slice none 0 0] 46)).heap.size):=Lib.hid (Array.getElem?_eq_some_iff.1 HN4.out).1
 have b1:=(cellH h1.box 1).trans rfl
 have f1:=frozenH h1.box 1
 have b1w:=(cellH h.box 1).trans rfl
 have f1w:=frozenH h.box 1
 have b1p:=(cellH HRD.out.box 1).trans rfl
 clear h hb h1 hn4 hput hkp hss
 by_cases hbig:4096 < n+1
 ·have hd1:decide (4096 < n+1)=true:=by simp;omega
  have hd2:decide ((4096:Int) < (n:Int)+1)=true:=by simp;omega
  go_enter Tryz.func49,Tryz.ntmps49
  go_wp2_with fail
  clear b1 f1 b1p b1w f1w
  generalize ((w.setCell ⟨R,1,none⟩ (.int .i64 ((n:Int)+1))).alloc (.cells #[.bool false,.int .i64 0,.string ⟨#[]⟩,.slice none 0 0] 46))=W2 at HRD HN4 HKW HSZ ⊢
  obtain ⟨N4,hN4⟩:∃ N4,w.heap.size=N4:=⟨_,rfl⟩
  have HNE:=Lib.hid hN4
  rw [hN4] at HN4 HLN HRN HSZ ⊢
  clear hN4
  try go_at_call 81
  refine (refuse_any L R _ _ _ _ _ HRD.out).mono ?_
  rintro e W3 ⟨rfl,hrd3,hk3⟩
  have HRF:Hid (Refd L R (n+1:Nat) W3):=Lib.hid ⟨_,hrd3⟩
  have HN4:=Lib.hid ((hk3.block N4 (Array.getElem?_eq_some_iff.1 HN4.out).1 (fun e=>HRN.out e.symm)).trans HN4.out)
  have HKW:=Lib.hid (HKW.out.trans (hk3.wider (fun _ _ e=>.inl e)))
  clear hrd3 hk3
  have e0:=(cellH HN4.out 0).trans rfl
  have e1:=(cellH HN4.out 1).trans rfl
  have e2:=(cellH HN4.out 2).trans rfl
  have e3:=(cellH HN4.out 3).trans rfl
  have g0:=frozenH HN4.out 0
  have g1:=frozenH HN4.out 1
  have g2:=frozenH HN4.out 2
  have g3:=frozenH HN4.out 3
  go_wp2_with fail
  have hp4:=put4F (.bool false) (.int .i64 0) (.string ⟨#[]⟩) (.slice none 0 0) HN4.out
  have hk4:=kput4 W3 N4 (.bool false) (.int .i64 0) (.string ⟨#[]⟩) (.slice none 0 0)
  have c0:=(cellH hp4 0).trans rfl
  have c1:=(cellH hp4 1).trans rfl
  have c2:=(cellH hp4 2).trans rfl
  have c3:=(cellH hp4 3).trans rfl
  exact bodyPost_ret (v:=.agg #[.bool false,.int .i64 0,.string ⟨#[]⟩,.slice none 0 0]) (by simp [results,Tryz.results49,go_sem,c0,c1,c2,c3]) rfl (by unfold OutP;exact ⟨fin_kb HKW.out (Nat.le_of_eq HNE.out) hk4,.inl ⟨rfl,⟨_,_,_,_,_,_,rfl⟩,_,refd_put HRF.out hk4 HLN.out HRN.out⟩⟩)
 ·have hd1:decide (4096 < n+1)=false:=by simp;omega
  have hd2:decide ((4096:Int) < (n:Int)+1)=false:=by simp;omega
  have hd3:decide (200 < dp)=true:=by simp;omega
  have hd4:decide ((200:Int) < (dp:Int))=true:=by simp;omega
  go_enter Tryz.func49,Tryz.ntmps49
  go_wp2_with fail
  clear b1 f1 b1p b1w f1w
  generalize ((w.setCell ⟨R,1,none⟩ (.int .i64 ((n:Int)+1))).alloc (.cells #[.bool false,.int .i64 0,.string ⟨#[]⟩,.slice none 0 0] 46))=W2 at HRD HN4 HKW HSZ ⊢
  obtain ⟨N4,hN4⟩:∃ N4,w.heap.size=N4:=⟨_,rfl⟩
  have HNE:=Lib.hid hN4
  rw [hN4] at HN4 HLN HRN HSZ ⊢
  clear hN4
  try go_at_call 81
  refine (refuse_any L R _ _ _ _ _ HRD.out).mono ?_
  rintro e W3 ⟨rfl,hrd3,hk3⟩
  have HRF:Hid (Refd L R (n+1:Nat) W3):=Lib.hid ⟨_,hrd3⟩
  have HN4:=Lib.hid ((hk3.block N4 (Array.getElem?_eq_some_iff.1 HN4.out).1 (fun e=>HRN.out e.symm)).trans HN4.out)
  have HKW:=Lib.hid (HKW.out.trans (hk3.wider (fun _ _ e=>.inl e)))
  clear hrd3 hk3
  have e0:=(cellH HN4.out 0).trans rfl
  have e1:=(cellH HN4.out 1).trans rfl
  have e2:=(cellH HN4.out 2).trans rfl
  have e3:=(cellH HN4.out 3).trans rfl
  have g0:=frozenH HN4.out 0
  have g1:=frozenH HN4.out 1
  have g2:=frozenH HN4.out 2
  have g3:=frozenH HN4.out 3
  go_wp2_with fail
  have hp4:=put4F (.bool false) (.int .i64 0) (.string ⟨#[]⟩) (.slice none 0 0) HN4.out
  have hk4:=kput4 W3 N4 (.bool false) (.int .i64 0) (.string ⟨#[]⟩) (.slice none 0 0)
  have c0:=(cellH hp4 0).trans rfl
  have c1:=(cellH hp4 1).trans rfl
  have c2:=(cellH hp4 2).trans rfl
  have c3:=(cellH hp4 3).trans rfl
  exact bodyPost_ret (v:=.agg #[.bool false,.int .i64 0,.string ⟨#[]⟩,.slice none 0 0]) (by simp [results,Tryz.results49,go_sem,c0,c1,c2,c3]) rfl (by unfold OutP;exact ⟨fin_kb HKW.out (Nat.le_of_eq HNE.out) hk4,.inl ⟨rfl,⟨_,_,_,_,_,_,rfl⟩,_,refd_put HRF.out hk4 HLN.out HRN.out⟩⟩)
set_option maxRecDepth 100000 in
set_option maxHeartbeats 16000000 in
theorem data_step (k:Nat) (HC:Hid (DecC k)):DecC (k+1):=by
 intro L R n dp rest rv w h hdp hn
 have hRlt:=(Array.getElem?_eq_some_iff.1 h.box).1
 have h1:=h.below (below_alloc w (.cells #[.bool false,.int .i64 0,.string ⟨#[]⟩,.slice none 0 0] 46))
 have hput:=h.put (n':=(n+1:Nat))
 have hkp:Kb (fun j=>j=R) w (w.setCell ⟨R,1,none⟩ (.int .i64 ((n+1:Nat):Int))):=(Kb.refl (fun j=>j=R) _).put (p:=⟨R,1,none⟩) rfl _
 rw [show ((n+1:Nat):Int)=(n:Int)+1 from rfl] at hput hkp
 have hb:=below_alloc (w.setCell ⟨R,1,none⟩ (.int .i64 ((n:Int)+1))) (.cells #[.bool false,.int .i64 0,.string ⟨#[]⟩,.slice none 0 0] 46)
 have hn4:=heap_alloc_new (w.setCell ⟨R,1,none⟩ (.int .i64 ((n:Int)+1))) (.cells #[.bool false,.int .i64 0,.string ⟨#[]⟩,.slice none 0 0] 46)
 have hss:(w.setCell ⟨R,1,none⟩ (.int .i64 ((n:Int)+1))).heap.size=w.heap.size:=by simp
 rw [hss] at hn4
 have HRD:=Lib.hid (hput.below hb)
 have HN4:=Lib.hid hn4
 have HKW:=Lib.hid ((hkp.wider (S':=fun j=>j=R ∨ w.heap.size≤j) (fun _ _ e=>.inl e)).trans (Kb.of_below hb))
 have HDP:=Lib.hid hdp
 have HLN:Hid (L≤w.heap.size):=Lib.hid (by have:=h.lo;omega)
 have HRN:Hid (¬ R=w.heap.size):=Lib.hid (by omega)
 have HSZ:Hid (w.heap.size < ((w.setCell ⟨R,1,none⟩ (.int .i64 ((n:Int)+1))).alloc (.cells #[.bool false,.int .i64 0,.string ⟨#[]⟩,.slice none 0 0] 46)).heap.size):=Lib.hid (Array.getElem?_eq_some_iff.1 HN4.out).1
 have b1:=(cellH h1.box 1).trans rfl
 have f1:=frozenH h1.box 1
 have b1w:=(cellH h.box 1).trans rfl
 have f1w:=frozenH h.box 1
 have b1p:=(cellH HRD.out.box 1).trans rfl
 clear h hb h1 hn4 hput hkp hss
 by_cases hbig:4096 < n+1
 ·have HBG:=Lib.hid hbig
  have hd1:decide (4096 < n+1)=true:=by simp;omega
  have hd2:decide ((4096:Int) < (n:Int)+1)=true:=by simp;omega
  go_enter Tryz.func49,Tryz.ntmps49
  go_wp2_with fail
  clear b1 f1 b1p b1w f1w
  generalize ((w.setCell ⟨R,1,none⟩ (.int .i64 ((n:Int)+1))).alloc (.cells #[.bool false,.int .i64 0,.string ⟨#[]⟩,.slice none 0 0] 46))=W2 at HRD HN4 HKW HSZ ⊢
  obtain ⟨N4,hN4⟩:∃ N4,w.heap.size=N4:=⟨_,rfl⟩
  have HNE:=Lib.hid hN4
  rw [hN4] at HN4 HLN HRN HSZ ⊢
  clear hN4
  try go_at_call 81
  refine (refuse_any L R _ _ _ _ _ HRD.out).mono ?_
  rintro e W3 ⟨rfl,hrd3,hk3⟩
  have HRF:Hid (Refd L R (n+1:Nat) W3):=Lib.hid ⟨_,hrd3⟩
  have HN4:=Lib.hid ((hk3.block N4 (Array.getElem?_eq_some_iff.1 HN4.out).1 (fun e=>HRN.out e.symm)).trans HN4.out)
  have HKW:=Lib.hid (HKW.out.trans (hk3.wider (fun _ _ e=>.inl e)))
  clear hrd3 hk3
  have e0:=(cellH HN4.out 0).trans rfl
  have e1:=(cellH HN4.out 1).trans rfl
  have e2:=(cellH HN4.out 2).trans rfl
  have e3:=(cellH HN4.out 3).trans rfl
  have g0:=frozenH HN4.out 0
  have g1:=frozenH HN4.out 1
  have g2:=frozenH HN4.out 2
  have g3:=frozenH HN4.out 3
  go_wp2_with fail
  have hp4:=put4F (.bool false) (.int .i64 0) (.string ⟨#[]⟩) (.slice none 0 0) HN4.out
  have hk4:=kput4 W3 N4 (.bool false) (.int .i64 0) (.string ⟨#[]⟩) (.slice none 0 0)
  have c0:=(cellH hp4 0).trans rfl
  have c1:=(cellH hp4 1).trans rfl
  have c2:=(cellH hp4 2).trans rfl
  have c3:=(cellH hp4 3).trans rfl
  exact bodyPost_ret (v:=.agg #[.bool false,.int .i64 0,.string ⟨#[]⟩,.slice none 0 0]) (by simp [results,Tryz.results49,go_sem,c0,c1,c2,c3]) rfl (by unfold OutP;exact ⟨fin_kb HKW.out (Nat.le_of_eq HNE.out) hk4,.inl ⟨(by show (if 4096 < n+1 then none else _)=_;rw [if_pos HBG.out]),⟨_,_,_,_,_,_,rfl⟩,_,refd_put HRF.out hk4 HLN.out HRN.out⟩⟩)
 ·have hd1:decide (4096 < n+1)=false:=by simp;omega
  have hd2:decide ((4096:Int) < (n:Int)+1)=false:=by simp;omega
  have hd3:decide (200 < dp)=false:=by simp;omega
  have hd4:decide ((200:Int) < (dp:Int))=false:=by simp;omega
  go_enter Tryz.func49,Tryz.ntmps49
  go_wp2_with fail
  clear b1 f1 b1p b1w f1w
  generalize ((w.setCell ⟨R,1,none⟩ (.int .i64 ((n:Int)+1))).alloc (.cells #[.bool false,.int .i64 0,.string ⟨#[]⟩,.slice none 0 0] 46))=W2 at HRD HN4 HKW HSZ ⊢
  obtain ⟨N4,hN4⟩:∃ N4,w.heap.size=N4:=⟨_,rfl⟩
  have HNE:=Lib.hid hN4
  rw [hN4] at HN4 HLN HRN HSZ ⊢
  clear hN4
  have HN1:Hid (n+1≤4096):=Lib.hid (by omega)
  clear hd1 hd2 hd3 hd4
  try go_at_call 82
  refine (small_any L R rest _ _ false W2 HRD.out (fun e=>by cases e)).mono ?_
  rintro e W3 ⟨hk3,⟨rfl,rfl,hrd3⟩ | ⟨b,r,rv3,rfl,_,rfl,hrd3⟩⟩
  ·have HRD3:=Lib.hid hrd3
   have HN4:=Lib.hid ((hk3.block N4 (Array.getElem?_eq_some_iff.1 HN4.out).1 (fun e=>HRN.out e.symm)).trans HN4.out)
   have HKW:=Lib.hid (HKW.out.trans (hk3.wider (fun _ _ e=>.inl e)))
   have HNO:Hid (dec (k+1) n []=none):=Lib.hid (by show (if 4096 < n+1 then none else none)=_;split <;> rfl)
   clear hk3 hrd3
   go_wp2_with fail
   try go_at_call 83
   refine (numberF_any L R [] _ _ true W3 HRD3.out (fun _=>rfl)).mono ?_
   rintro e W4 ⟨hk4',⟨_,rfl,hrf4⟩ | ⟨hx,_⟩⟩
   ·have HRF:=Lib.hid hrf4
    have HN4:=Lib.hid ((hk4'.block N4 (Array.getElem?_eq_some_iff.1 HN4.out).1 (fun e=>HRN.out e.symm)).trans HN4.out)
    have HKW:=Lib.hid (HKW.out.trans (hk4'.wider (fun _ _ e=>.inl e)))
    clear hk4' hrf4
    have e0:=(cellH HN4.out 0).trans rfl
    have e1:=(cellH HN4.out 1).trans rfl
    have e2:=(cellH HN4.out 2).trans rfl
    have e3:=(cellH HN4.out 3).trans rfl
    have g0:=frozenH HN4.out 0
    have g1:=frozenH HN4.out 1
    have g2:=frozenH HN4.out 2
    have g3:=frozenH HN4.out 3
    go_wp2_with fail
    have hp4:=put4F (.bool false) (.int .i64 0) (.string ⟨#[]⟩) (.slice none 0 0) HN4.out
    have hk4:=kput4 W4 N4 (.bool false) (.int .i64 0) (.string ⟨#[]⟩) (.slice none 0 0)
    have c0:=(cellH hp4 0).trans rfl
    have c1:=(cellH hp4 1).trans rfl
    have c2:=(cellH hp4 2).trans rfl
    have c3:=(cellH hp4 3).trans rfl
    exact bodyPost_ret (v:=.agg #[.bool false,.int .i64 0,.string ⟨#[]⟩,.slice none 0 0]) (by simp [results,Tryz.results49,go_sem,c0,c1,c2,c3]) rfl (by unfold OutP;exact ⟨fin_kb HKW.out (Nat.le_of_eq HNE.out) hk4,.inl ⟨HNO.out,⟨_,_,_,_,_,_,rfl⟩,_,refd_put HRF.out hk4 HLN.out HRN.out⟩⟩)
   ·simp at hx
  ·have HRD3:=Lib.hid hrd3
   have HN4:=Lib.hid ((hk3.block N4 (Array.getElem?_eq_some_iff.1 HN4.out).1 (fun e=>HRN.out e.symm)).trans HN4.out)
   have HKW:=Lib.hid (HKW.out.trans (hk3.wider (fun _ _ e=>.inl e)))
   clear hk3 hrd3
   by_cases hb0:b.toNat=0
   ·have HB0:=Lib.hid hb0
    rw [hb0]
    clear hb0
    go_wp2_with fail
    try go_at_call 83
    refine (numberF_any L R r _ _ false W3 HRD3.out (fun e=>by cases e)).mono ?_
    rintro e W4 ⟨hk4',⟨hx,rfl,hrf4⟩ | ⟨hx,rfl,rv4,hrd4⟩⟩
    ·have HRF:=Lib.hid hrf4
     have HNO:Hid (dec (k+1) n (b :: r)=none):=Lib.hid (by rw [dec,if_neg (by have:=HN1.out;omega)];show (if b.toNat=0 then _ else _)=_;rw [if_pos HB0.out,if_pos hx])
     have HN4:=Lib.hid ((hk4'.block N4 (Array.getElem?_eq_some_iff.1 HN4.out).1 (fun e=>HRN.out e.symm)).trans HN4.out)
     have HKW:=Lib.hid (HKW.out.trans (hk4'.wider (fun _ _ e=>.inl e)))
     clear hk4' hrf4 hx
     have e0:=(cellH HN4.out 0).trans rfl
     have e1:=(cellH HN4.out 1).trans rfl
     have e2:=(cellH HN4.out 2).trans rfl
     have e3:=(cellH HN4.out 3).trans rfl
     have g0:=frozenH HN4.out 0
     have g1:=frozenH HN4.out 1
     have g2:=frozenH HN4.out 2
     have g3:=frozenH HN4.out 3
     go_wp2_with fail
     have hp4:=put4F (.bool false) (.int .i64 0) (.string ⟨#[]⟩) (.slice none 0 0) HN4.out
     have hk4:=kput4 W4 N4 (.bool false) (.int .i64 0) (.string ⟨#[]⟩) (.slice none 0 0)
     have c0:=(cellH hp4 0).trans rfl
     have c1:=(cellH hp4 1).trans rfl
     have c2:=(cellH hp4 2).trans rfl
     have c3:=(cellH hp4 3).trans rfl
     exact bodyPost_ret (v:=.agg #[.bool false,.int .i64 0,.string ⟨#[]⟩,.slice none 0 0]) (by simp [results,Tryz.results49,go_sem,c0,c1,c2,c3]) rfl (by unfold OutP;exact ⟨fin_kb HKW.out (Nat.le_of_eq HNE.out) hk4,.inl ⟨HNO.out,⟨_,_,_,_,_,_,rfl⟩,_,refd_put HRF.out hk4 HLN.out HRN.out⟩⟩)
    ·have HOK:Hid (dec (k+1) n (b :: r)=some (.mk false (numP (r.take 8) 8) ⟨#[]⟩ [],r.drop 8,n+1)):=Lib.hid (by rw [dec,if_neg (by have:=HN1.out;omega)];show (if b.toNat=0 then _ else _)=_;rw [if_pos HB0.out,if_neg (by omega)])
     have HN4:=Lib.hid ((hk4'.block N4 (Array.getElem?_eq_some_iff.1 HN4.out).1 (fun e=>HRN.out e.symm)).trans HN4.out)
     have HKW:=Lib.hid (HKW.out.trans (hk4'.wider (fun _ _ e=>.inl e)))
     have HRD4:=Lib.hid hrd4
     clear hk4' hrd4 hx
     generalize numP (r.take 8) 8=z at HOK ⊢
     have e0:=(cellH HN4.out 0).trans rfl
     have e1:=(cellH HN4.out 1).trans rfl
     have e2:=(cellH HN4.out 2).trans rfl
     have e3:=(cellH HN4.out 3).trans rfl
     have g0:=frozenH HN4.out 0
     have g1:=frozenH HN4.out 1
     have g2:=frozenH HN4.out 2
     have g3:=frozenH HN4.out 3
     go_wp2_with fail
     have hp4:=put4F (.bool false) (.int .i64 z) (.string ⟨#[]⟩) (.slice none 0 0) HN4.out
     have hk4:=kput4 W4 N4 (.bool false) (.int .i64 z) (.string ⟨#[]⟩) (.slice none 0 0)
     have c0:=(cellH hp4 0).trans rfl
     have c1:=(cellH hp4 1).trans rfl
     have c2:=(cellH hp4 2).trans rfl
     have c3:=(cellH hp4 3).trans rfl
     exact bodyPost_ret (v:=.agg #[.bool false,.int .i64 z,.string ⟨#[]⟩,.slice none 0 0]) (by simp [results,Tryz.results49,go_sem,c0,c1,c2,c3]) rfl (by
      unfold OutP
      exact ⟨fin_kb HKW.out (Nat.le_of_eq HNE.out) hk4,.inr ⟨_,_,_,_,_,HOK.out,rfl,daE_row (RowW.nil _ _),HRD4.out.kb hk4 (fun _ _ e=>e ▸ HLN.out) HRN.out,by have:=HN1.out;omega⟩⟩)
   ·by_cases hb1:b.toNat=1
    ·have HB1:=Lib.hid hb1
     rw [hb1]
     clear hb0 hb1
     go_wp2_with fail
     try go_at_call 84
     refine (str_any k HC L R (n+1) dp r _ W3 HRD3.out (by have:=HDP.out;omega) (by have:=HN1.out;omega)).mono ?_
     rintro e W4 ⟨hk4',⟨hx,⟨cc,zz,ss,A2,m2,q2,rfl⟩,n4,hrf4⟩ | ⟨x,r4,n4,v,rv4,hx,rfl,hda,hrd4,hn4⟩⟩
     ·have HRF:=Lib.hid hrf4
      have HNO:Hid (dec (k+1) n (b :: r)=none):=Lib.hid (by rw [dec,if_neg (by have:=HN1.out;omega)];show (if b.toNat=0 then _ else _)=_;rw [if_neg (by have:=HB1.out;omega),if_pos HB1.out,hx])
      have HN4:=Lib.hid ((hk4'.block N4 (Array.getElem?_eq_some_iff.1 HN4.out).1 (fun e=>HRN.out e.symm)).trans HN4.out)
      have HKW:=Lib.hid (HKW.out.trans (hk4'.wider (fun _ _ e=>.inl e)))
      clear hk4' hrf4 hx
      have e0:=(cellH HN4.out 0).trans rfl
      have e1:=(cellH HN4.out 1).trans rfl
      have e2:=(cellH HN4.out 2).trans rfl
      have e3:=(cellH HN4.out 3).trans rfl
      have g0:=frozenH HN4.out 0
      have g1:=frozenH HN4.out 1
      have g2:=frozenH HN4.out 2
      have g3:=frozenH HN4.out 3
      go_wp2_with fail
      have hp4:=put4F (.bool cc) (.int .i64 zz) (.string ss) (.slice A2 m2 q2) HN4.out
      have hk4:=kput4 W4 N4 (.bool cc) (.int .i64 zz) (.string ss) (.slice A2 m2 q2)
      have c0:=(cellH hp4 0).trans rfl
      have c1:=(cellH hp4 1).trans rfl
      have c2:=(cellH hp4 2).trans rfl
      have c3:=(cellH hp4 3).trans rfl
      exact bodyPost_ret (v:=.agg #[.bool cc,.int .i64 zz,.string ss,.slice A2 m2 q2]) (by simp [results,Tryz.results49,go_sem,c0,c1,c2,c3]) rfl (by unfold OutP;exact ⟨fin_kb HKW.out (Nat.le_of_eq HNE.out) hk4,.inl ⟨HNO.out,⟨_,_,_,_,_,_,rfl⟩,_,refd_put HRF.out hk4 HLN.out HRN.out⟩⟩)
     ·have HOK:Hid (dec (k+1) n (b :: r)=some (x,r4,n4)):=Lib.hid (by rw [dec,if_neg (by have:=HN1.out;omega)];show (if b.toNat=0 then _ else _)=_;rw [if_neg (by have:=HB1.out;omega),if_pos HB1.out,hx])
      obtain ⟨A2,m2,q2,hve⟩:=hda.this
      have hlt3:N4 < W3.heap.size:=(Array.getElem?_eq_some_iff.1 HN4.out).1
      have HLT3:=Lib.hid hlt3
      have HN4:=Lib.hid ((hk4'.block N4 (Array.getElem?_eq_some_iff.1 HN4.out).1 (fun e=>HRN.out e.symm)).trans HN4.out)
      have HKW:=Lib.hid (HKW.out.trans (hk4'.wider (fun _ _ e=>.inl e)))
      have HRD4:=Lib.hid hrd4
      have HDA:=Lib.hid hda
      have HNN:=Lib.hid hn4
      obtain ⟨cc,hcc⟩:∃ cc,x.ctor=cc:=⟨_,rfl⟩
      obtain ⟨zz,hzz⟩:∃ zz,x.int=zz:=⟨_,rfl⟩
      obtain ⟨ss,hss⟩:∃ ss,x.name=ss:=⟨_,rfl⟩
      rw [hcc,hzz,hss] at hve
      subst hve
      clear hk4' hrd4 hx hda hn4 hcc hzz hss hlt3
      have e0:=(cellH HN4.out 0).trans rfl
      have e1:=(cellH HN4.out 1).trans rfl
      have e2:=(cellH HN4.out 2).trans rfl
      have e3:=(cellH HN4.out 3).trans rfl
      have g0:=frozenH HN4.out 0
      have g1:=frozenH HN4.out 1
      have g2:=frozenH HN4.out 2
      have g3:=frozenH HN4.out 3
      go_wp2_with fail
      have hp4:=put4F (.bool cc) (.int .i64 zz) (.string ss) (.slice A2 m2 q2) HN4.out
      have hk4:=kput4 W4 N4 (.bool cc) (.int .i64 zz) (.string ss) (.slice A2 m2 q2)
      have c0:=(cellH hp4 0).trans rfl
      have c1:=(cellH hp4 1).trans rfl
      have c2:=(cellH hp4 2).trans rfl
      have c3:=(cellH hp4 3).trans rfl
      exact bodyPost_ret (v:=.agg #[.bool cc,.int .i64 zz,.string ss,.slice A2 m2 q2]) (by simp [results,Tryz.results49,go_sem,c0,c1,c2,c3]) rfl (by
       unfold OutP
       exact ⟨fin_kb HKW.out (Nat.le_of_eq HNE.out) hk4,.inr ⟨_,_,_,_,_,HOK.out,rfl,DaE.step _ _ _ _ _ _ HDA.out (hk4.wider (fun j _ e=>by subst e;exact HLT3.out)) (fun j _ e=>by have:=HLT3.out;have:=HNE.out;show j < W3.heap.size;omega),HRD4.out.kb hk4 (fun _ _ e=>e ▸ HLN.out) HRN.out,HNN.out⟩⟩)
    ·have HNO:Hid (dec (k+1) n (b :: r)=none):=Lib.hid (by rw [dec,if_neg (by have:=HN1.out;omega)];show (if b.toNat=0 then _ else _)=_;rw [if_neg hb0,if_neg hb1])
     obtain ⟨q,hq⟩:∃ q:Nat,b.toNat=q:=⟨_,rfl⟩
     rw [hq] at hb0 hb1 ⊢
     have he0:((q:Int) == 0)=false:=by simp;omega
     have he1:((q:Int) == 1)=false:=by simp;omega
     have he2:(q == 0)=false:=by simp;omega
     have he3:(q == 1)=false:=by simp;omega
     clear hq
     go_wp2_with fail
     clear he0 he1 he2 he3
     have HRD:=HRD3
     try go_at_call 81
     refine (refuse_any L R _ _ _ _ _ HRD.out).mono ?_
     rintro e W5 ⟨rfl,hrd3,hk3⟩
     have HRF:Hid (Refd L R (n+1:Nat) W5):=Lib.hid ⟨_,hrd3⟩
     have HN4:=Lib.hid ((hk3.block N4 (Array.getElem?_eq_some_iff.1 HN4.out).1 (fun e=>HRN.out e.symm)).trans HN4.out)
     have HKW:=Lib.hid (HKW.out.trans (hk3.wider (fun _ _ e=>.inl e)))
     clear hrd3 hk3
     have e0:=(cellH HN4.out 0).trans rfl
     have e1:=(cellH HN4.out 1).trans rfl
     have e2:=(cellH HN4.out 2).trans rfl
     have e3:=(cellH HN4.out 3).trans rfl
     have g0:=frozenH HN4.out 0
     have g1:=frozenH HN4.out 1
     have g2:=frozenH HN4.out 2
     have g3:=frozenH HN4.out 3
     go_wp2_with fail
     have hp4:=put4F (.bool false) (.int .i64 0) (.string ⟨#[]⟩) (.slice none 0 0) HN4.out
     have hk4:=kput4 W5 N4 (.bool false) (.int .i64 0) (.string ⟨#[]⟩) (.slice none 0 0)
     have c0:=(cellH hp4 0).trans rfl
     have c1:=(cellH hp4 1).trans rfl
     have c2:=(cellH hp4 2).trans rfl
     have c3:=(cellH hp4 3).trans rfl
     exact bodyPost_ret (v:=.agg #[.bool false,.int .i64 0,.string ⟨#[]⟩,.slice none 0 0]) (by simp [results,Tryz.results49,go_sem,c0,c1,c2,c3]) rfl (by unfold OutP;exact ⟨fin_kb HKW.out (Nat.le_of_eq HNE.out) hk4,.inl ⟨HNO.out,⟨_,_,_,_,_,_,rfl⟩,_,refd_put HRF.out hk4 HLN.out HRN.out⟩⟩)
theorem data_any:∀ k,DecC k
 | 0=>data_zero
 | k+1=>data_step k (Lib.hid (data_any k))
end Lx
end Go.Proofs.YtiljemkglhloeaaGreatDoor
namespace Go.Proofs.YtiljemkglhloeaaGreatDoor
set_option linter.unusedSimpArgs false
set_option linter.unusedVariables false
namespace Lx
open Go Go.RowKit
def ErrY (a:Addr) (w:World):Prop:=w.cell? ⟨10,0,none⟩=some (.iface 231 (.pointer (some a)))
theorem ErrY.stay {a:Addr} {w w':World} (h:ErrY a w) (hb:Below w.heap.size w w'):ErrY a w':=(World.cell?_of_block (hb.block _ (World.block_lt_of_cell? _ _ h))).trans h
theorem he_stay {R:Nat} {a:Addr} {w w':World} (h:ErrY a w) (hk:Kb (fun j=>j=R) w w') (hR:10 ≠ R) {w2:World} (hb:Below w'.heap.size w' w2):ErrY a w2:=ErrY.stay ((World.cell?_of_block (hk.block _ (World.block_lt_of_cell? _ _ h) hR)).trans h) hb
def zeroD:Value:=.agg #[.bool false,.int .i64 0,.string ⟨#[]⟩,.slice none 0 0]
/-- What Decode gives. -/
def DcdP (a:Addr) (l:List UInt8) (w:World):Ending→World→Prop:=fun e w'=>Below w.heap.size w w' ∧
 ((∃ x m v,dec 200 0 l=some (x,[],m)∧e=.returned (.tuple #[v,.nilIface])∧DaE (fun j=>j < w.heap.size) x v w') ∨
  ((¬ ∃ x m,dec 200 0 l=some (x,[],m))∧e=.returned (.tuple #[zeroD,errV a])))
set_option maxRecDepth 100000 in
set_option maxHeartbeats 8000000 in
theorem decode_any (ad:Addr) (Vol:Nat→Prop) (l:List UInt8) (v:Value) (w:World) (hv:RowW 1 ByH Vol l v w) (he:ErrY ad w) :
  Calls Tryz.prog 25 #[v] w (DcdP ad l w):=by
 obtain ⟨A,c,rfl⟩:=hv.slice
 have hv:RowW 1 ByH (fun j=>w.heap.size≤j) l (.slice A l.length c) w:=by
  obtain ⟨A',c',e,h1,h2,h3⟩:=hv
  exact ⟨A',c',e,h1,h2,fun i hi=>by
   obtain ⟨b,off,vi,e1,e2,_,e4,e5⟩:=h3 i hi
   exact ⟨b,off,vi,e1,e2,by omega,e4,e5⟩⟩
 have hb1:=below_alloc w (.cells #[.bool false,.int .i64 0,.string ⟨#[]⟩,.slice none 0 0] 46)
 have hb2:=below_alloc (w.alloc (.cells #[.bool false,.int .i64 0,.string ⟨#[]⟩,.slice none 0 0] 46)) (.cells #[.slice A l.length c,.int .i64 0,.bool false] 98)
 have hbb:=hb1.trans (hb2.mono hb1.size)
 have hn:=(hb2.block w.heap.size (by simp)).trans (heap_alloc_new w (.cells #[.bool false,.int .i64 0,.string ⟨#[]⟩,.slice none 0 0] 46))
 have hr:=heap_alloc_new (w.alloc (.cells #[.bool false,.int .i64 0,.string ⟨#[]⟩,.slice none 0 0] 46)) (.cells #[.slice A l.length c,.int .i64 0,.bool false] 98)
 rw [show (w.alloc (.cells #[.bool false,.int .i64 0,.string ⟨#[]⟩,.slice none 0 0] 46)).heap.size=w.heap.size+1 by simp] at hr
 have hrd:RdS w.heap.size (w.heap.size+1) l (.slice A l.length c) ((0:Nat):Int) false ((w.alloc (.cells #[.bool false,.int .i64 0,.string ⟨#[]⟩,.slice none 0 0] 46)).alloc (.cells #[.slice A l.length c,.int .i64 0,.bool false] 98)) :=
  ⟨hr,(RowW.step ByH.step).below hv hbb,by omega⟩
 have HN:=Lib.hid hn
 have HBB:=Lib.hid hbb
 have HE:=Lib.hid (he.stay hbb)
 have HGN:Hid (10 < w.heap.size):=Lib.hid (World.block_lt_of_cell? _ _ he)
 have HGL:Hid (10 ≠ w.heap.size+1):=Lib.hid (by have:10 < w.heap.size:=World.block_lt_of_cell? _ _ he;omega)
 have hcall:=data_any 200 w.heap.size (w.heap.size+1) 0 1 l _ _ hrd (by omega) (by omega)
 rw [show ((1:Nat):Int)=1 from rfl] at hcall
 have HC:=Lib.hid hcall
 clear hv hb1 hb2 hbb hn hr hrd he hcall
 go_enter Tryz.func25,Tryz.ntmps25
 go_wp2_with fail
 generalize ((w.alloc (.cells #[.bool false,.int .i64 0,.string ⟨#[]⟩,.slice none 0 0] 46)).alloc (.cells #[.slice A l.length c,.int .i64 0,.bool false] 98))=W at HN HBB HE HC ⊢
 try go_at_call 49
 refine HC.out.mono ?_
 rintro e W1 ⟨hk,⟨hnone,⟨cc,zz,ss,A2,m2,q2,rfl⟩,n',rv,hrd⟩ | ⟨x,r,n',v',rv,hsome,rfl,hda,hrd,hn'⟩⟩
 ·have hb3:Below w.heap.size w W1:=HBB.out.trans (hk.below HBB.out.size (fun j e=>by omega))
  have hb4:=below_alloc W1 (.cells #[.bool cc,.int .i64 zz,.string ss,.slice A2 m2 q2] 46)
  have hn1:=(hk.block w.heap.size (Array.getElem?_eq_some_iff.1 HN.out).1 (by omega)).trans HN.out
  have HN1:=Lib.hid ((hb4.block w.heap.size (Array.getElem?_eq_some_iff.1 hn1).1).trans hn1)
  have HB4:=Lib.hid (hb3.trans (hb4.mono hb3.size))
  have HR4:=Lib.hid (hrd.below hb4)
  have HE4:=Lib.hid (he_stay HE.out hk HGL.out hb4)
  have HX4:=Lib.hid (heap_alloc_new W1 (.cells #[.bool cc,.int .i64 zz,.string ss,.slice A2 m2 q2] 46))
  have HNO:=Lib.hid hnone
  clear hk hb3 hb4 hn1 hrd hnone
  have b2:=(cellH HR4.out.box 2).trans rfl
  go_upto_region 4 with fail
  clear b2
  generalize (W1.alloc (.cells #[.bool cc,.int .i64 zz,.string ss,.slice A2 m2 q2] 46))=W4 at HN1 HB4 HR4 HE4 HX4 ⊢
  have el:W4.cell? ⟨10,0,none⟩=some (.iface 231 (.pointer (some ad))):=HE4.out
  have hgl:=HGL.out
  have hgn:10 < w.heap.size:=HGN.out
  have e0:=(cellH HN1.out 0).trans rfl
  have e1:=(cellH HN1.out 1).trans rfl
  have e2:=(cellH HN1.out 2).trans rfl
  have e3:=(cellH HN1.out 3).trans rfl
  have g0:=frozenH HN1.out 0
  have g1:=frozenH HN1.out 1
  have g2:=frozenH HN1.out 2
  have g3:=frozenH HN1.out 3
  go_region
  all_goals
   go_wp2_with fail
   have hp4:=put4F (.bool false) (.int .i64 0) (.string ⟨#[]⟩) (.slice none 0 0) HN1.out
   have hk4:=kput4 W4 w.heap.size (.bool false) (.int .i64 0) (.string ⟨#[]⟩) (.slice none 0 0)
   have hbf:=HB4.out.trans (hk4.below HB4.out.size (fun j e=>Nat.le_of_eq e.symm))
   have c0:=(cellH hp4 0).trans rfl
   have c1:=(cellH hp4 1).trans rfl
   have c2:=(cellH hp4 2).trans rfl
   have c3:=(cellH hp4 3).trans rfl
   exact bodyPost_ret (v:=.tuple #[.agg #[.bool false,.int .i64 0,.string ⟨#[]⟩,.slice none 0 0],errV ad]) (by simp [results,Tryz.results25,go_sem,c0,c1,c2,c3,errV]) rfl (by unfold DcdP;exact ⟨below_drw hbf,.inr ⟨(fun ⟨x,m,e⟩=>by rw [HNO.out] at e;cases e),rfl⟩⟩)
 ·obtain ⟨A2,m2,q2,hve⟩:=hda.this
  obtain ⟨cc,hcc⟩:∃ cc,x.ctor=cc:=⟨_,rfl⟩
  obtain ⟨zz,hzz⟩:∃ zz,x.int=zz:=⟨_,rfl⟩
  obtain ⟨ss,hss⟩:∃ ss,x.name=ss:=⟨_,rfl⟩
  rw [hcc,hzz,hss] at hve
  subst hve
  have hb3:Below w.heap.size w W1:=HBB.out.trans (hk.below HBB.out.size (fun j e=>by omega))
  have hb4:=below_alloc W1 (.cells #[.bool cc,.int .i64 zz,.string ss,.slice A2 m2 q2] 46)
  have hn1:=(hk.block w.heap.size (Array.getElem?_eq_some_iff.1 HN.out).1 (by omega)).trans HN.out
  have HN1:=Lib.hid ((hb4.block w.heap.size (Array.getElem?_eq_some_iff.1 hn1).1).trans hn1)
  have HB4:=Lib.hid (hb3.trans (hb4.mono hb3.size))
  have HR4:=Lib.hid (hrd.below hb4)
  have HE4:=Lib.hid (he_stay HE.out hk HGL.out hb4)
  have HX4:=Lib.hid (heap_alloc_new W1 (.cells #[.bool cc,.int .i64 zz,.string ss,.slice A2 m2 q2] 46))
  have HSO:=Lib.hid hsome
  have HDA:=Lib.hid (DaE.step.below hda hb4)
  obtain ⟨Ar,cr,hrv⟩:=hrd.row.slice
  subst hrv
  have HWL:=Lib.hid (HBB.out.size)
  clear hk hb3 hb4 hn1 hrd hsome hda hcc hzz hss hn'
  have b2:=(cellH HR4.out.box 2).trans rfl
  have b0:=(cellH HR4.out.box 0).trans rfl
  by_cases hr0:r.length=0
  ·have hnil:r=[]:=List.eq_nil_of_length_eq_zero hr0
   subst hnil
   have hx:=HX4.out
   have x0:=(cellH hx 0).trans rfl
   have x1:=(cellH hx 1).trans rfl
   have x2:=(cellH hx 2).trans rfl
   have x3:=(cellH hx 3).trans rfl
   clear hx hr0
   have e0:=(cellH HN1.out 0).trans rfl
   have e1:=(cellH HN1.out 1).trans rfl
   have e2:=(cellH HN1.out 2).trans rfl
   have e3:=(cellH HN1.out 3).trans rfl
   have g0:=frozenH HN1.out 0
   have g1:=frozenH HN1.out 1
   have g2:=frozenH HN1.out 2
   have g3:=frozenH HN1.out 3
   go_wp2_with fail
   generalize (W1.alloc (.cells #[.bool cc,.int .i64 zz,.string ss,.slice A2 m2 q2] 46))=W4 at HN1 HB4 HR4 HE4 HX4 HDA ⊢
   have hp4:=put4F (.bool cc) (.int .i64 zz) (.string ss) (.slice A2 m2 q2) HN1.out
   have hk4:=kput4 W4 w.heap.size (.bool cc) (.int .i64 zz) (.string ss) (.slice A2 m2 q2)
   have hbf:=HB4.out.trans (hk4.below HB4.out.size (fun j e=>Nat.le_of_eq e.symm))
   have c0:=(cellH hp4 0).trans rfl
   have c1:=(cellH hp4 1).trans rfl
   have c2:=(cellH hp4 2).trans rfl
   have c3:=(cellH hp4 3).trans rfl
   exact bodyPost_ret (v:=.tuple #[.agg #[.bool cc,.int .i64 zz,.string ss,.slice A2 m2 q2],.nilIface]) (by simp [results,Tryz.results25,go_sem,c0,c1,c2,c3,errV]) rfl (by unfold DcdP;exact ⟨hbf,.inl ⟨x,_,_,HSO.out,rfl,DaE.step _ _ _ _ _ _ HDA.out (hk4.wider (fun j _ e=>by subst e;have:=HWL.out;have:=(Array.getElem?_eq_some_iff.1 HN.out).1;exact this)) (fun j _ e=>by have:=HWL.out;show j < W.heap.size;omega)⟩⟩)
  ·have hd1:decide (0 < r.length)=true:=by simp;omega
   have hd2:decide ((r.length:Int) > 0)=true:=by simp;omega
   have HR0:=Lib.hid hr0
   clear hr0
   go_upto_region 4 with fail
   clear b2 b0 hd1 hd2
   generalize (W1.alloc (.cells #[.bool cc,.int .i64 zz,.string ss,.slice A2 m2 q2] 46))=W4 at HN1 HB4 HR4 HE4 HX4 ⊢
   have el:W4.cell? ⟨10,0,none⟩=some (.iface 231 (.pointer (some ad))):=HE4.out
   have hgl:=HGL.out
   have hgn:10 < w.heap.size:=HGN.out
   have e0:=(cellH HN1.out 0).trans rfl
   have e1:=(cellH HN1.out 1).trans rfl
   have e2:=(cellH HN1.out 2).trans rfl
   have e3:=(cellH HN1.out 3).trans rfl
   have g0:=frozenH HN1.out 0
   have g1:=frozenH HN1.out 1
   have g2:=frozenH HN1.out 2
   have g3:=frozenH HN1.out 3
   go_region
   all_goals
    go_wp2_with fail
    have hp4:=put4F (.bool false) (.int .i64 0) (.string ⟨#[]⟩) (.slice none 0 0) HN1.out
    have hk4:=kput4 W4 w.heap.size (.bool false) (.int .i64 0) (.string ⟨#[]⟩) (.slice none 0 0)
    have hbf:=HB4.out.trans (hk4.below HB4.out.size (fun j e=>Nat.le_of_eq e.symm))
    have c0:=(cellH hp4 0).trans rfl
    have c1:=(cellH hp4 1).trans rfl
    have c2:=(cellH hp4 2).trans rfl
    have c3:=(cellH hp4 3).trans rfl
    exact bodyPost_ret (v:=.tuple #[.agg #[.bool false,.int .i64 0,.string ⟨#[]⟩,.slice none 0 0],errV ad]) (by simp [results,Tryz.results25,go_sem,c0,c1,c2,c3,errV]) rfl (by unfold DcdP;exact ⟨below_drw hbf,.inr ⟨(fun ⟨y,m,e⟩=>by rw [HSO.out] at e;simp only [Option.some.injEq,Prod.mk.injEq] at e;exact HR0.out (by rw [e.2.1];rfl)),rfl⟩⟩)
end Lx
end Go.Proofs.YtiljemkglhloeaaGreatDoor
