/- The program's reader of bytes: structure, given what data are one level down. Conditions: as each states. -/
import Derived.Test.YtnpacamcgifabaaDoorDq
import Derived.Deep.RegionHeld
import Derived.Deep.Cut
namespace Go.Proofs.YtnpacamcgifabaaDoor
set_option linter.unusedSimpArgs false
set_option linter.unusedVariables false
namespace Lx
open Go Go.RowKit
theorem infoDa:(Tryd.prog.info? 68).map (fun i=>(i.zero,i.size,i.bytes))=some (some (.agg #[.bool false,.int .i64 0,.string ⟨#[]⟩,.slice none 0 0]),4,56):=by kernel_rfl
set_option maxRecDepth 100000 in
theorem step_da {ops:Array Oper} {o:Oper} {a:Act} {W:World} {K:Act→World→Prop} {Q:Exit→Act→World→Prop} {E:Prop} (hgd:o.guard=none) (s x:Operand)
  (ho:o.op=.call { callee:=.builtin .append,args:=#[s,x],argTypes:=#[66,66] })
  (base:Nat) (v:Value) (n:Nat) (xs:List Value) (hs:a.eval s=v) (hown:W.ownsRow base 68 4 v n xs) (B:Nat) (k:Bool) (z:Int) (y:ByteArray) (A:Option Addr) (l c:Nat) (hx:a.eval x=.slice (some ⟨B,0,none⟩) 1 1) (hB:W.heap[B]?=some (.cells #[.bool k,.int .i64 z,.string y,.slice A l c] 68 (0,0))) (hn:n≤2000000) (hbase:base≤W.heap.size)
  (h:∀ g c' w',w'.ownsRow base 68 4 (.slice (some ⟨g,0,none⟩) (n+1) c') (n+1) (xs++[.bool k,.int .i64 z,.string y,.slice A l c])→W.grownBy w' v.ownBlock→(v.ownBlock=some g ∨ g=W.heap.size)→K (a.put o.dst (.slice (some ⟨g,0,none⟩) (n+1) c')) w') :
  if Region.wanted o (yielded ops a.tmps)=true then Oper.wp Tryd.prog o a W K Q else E:=by
 obtain ⟨i0,hi,hz0,hz1,hz2⟩:=info_parts infoDa
 exact step_append_lies W hgd s x _ ho base _ i0 _ 4 56 Tryd.underlying66 hi hz0 hz1 hz2 rfl (by decide) v n xs hs hown ⟨B,0,none⟩ 1 1 [.bool k,.int .i64 z,.string y,.slice A l c] hx rfl (World.news_of_block (cs:=#[.bool k,.int .i64 z,.string y,.slice A l c]) hB) (by simp [Value.oneCell'])
  (by omega) (by unfold maxLen;omega) (by omega) hbase _ rfl (fun g cap w' h2 h3 h4 _=>h g cap w' h2 h3 h4)
/-- What data leave: refused, or what stands there; all rows are new memory. -/
def OutP (L R:Nat) (o:Option (DaT × List UInt8 × Nat)) (w:World):Ending→World→Prop:=fun e w'=>Kb (fun j=>j=R) w w' ∧
 ((o=none∧(∃ c z s A m q,e=.returned (.agg #[.bool c,.int .i64 z,.string s,.slice A m q]))∧∃ n',Refd L R n' w') ∨
  (∃ x r n' v rv',o=some (x,r,n')∧e=.returned v∧DaE (fun j=>j < w.heap.size) x v w'∧RdS L R r rv' (n':Nat) false w'∧n'≤4096))
def DecC (k:Nat):Prop:=∀ (L R n dp:Nat) (rest:List UInt8) (rv:Value) (w:World),RdS L R rest rv n false w→dp+k=201→n≤4096→Calls Tryd.prog 72 #[.pointer (some ⟨R,0,none⟩),.int .i64 dp] w (OutP L R (dec k n rest) w)
theorem fin_kb {R N:Nat} {w wr wf:World} (h:Kb (fun j=>j=R ∨ w.heap.size≤j) w wr) (hN:w.heap.size≤N) (hk:Kb (fun j=>j=N) wr wf):Kb (fun j=>j=R) w wf :=
 (h.trans (hk.wider (fun _ _ e=>.inr (e ▸ hN)))).wider (fun j hj e=>e.elim id (fun e=>by omega))
theorem refd_put {L R N:Nat} {n:Int} {w wf:World} (h:Refd L R n w) (hk:Kb (fun j=>j=N) w wf) (hL:L≤N) (hR:¬ R=N):Refd L R n wf:=by
 obtain ⟨rv,h⟩:=h
 exact ⟨rv,h.kb hk (fun _ _ e=>e ▸ hL) hR⟩
theorem strD_no {f:Nat→List UInt8→Option (DaT × List UInt8 × Nat)} {n:Nat} {rest:List UInt8} (h:¬ ∃ b r,rest=b :: r∧1≤b.toNat∧b.toNat≤32∧b.toNat≤r.length):strD f n rest=none:=by
 cases rest with
 | nil=>rw [strD]
 | cons b r=>rw [strD,if_neg (fun e=>h ⟨b,r,rfl,e⟩)]
def more (acc:List DaT) (o:Option (List DaT × List UInt8 × Nat)):Option (List DaT × List UInt8 × Nat):=match o with
 | none=>none
 | some (l,r,n)=>some (acc++l,r,n)
theorem more_none {f:Nat→List UInt8→Option (DaT × List UInt8 × Nat)} {acc:List DaT} {c n:Nat} {r:List UInt8} (h:f n r=none):more acc (decsF f (c+1) n r)=none:=by rw [decsF,h];rfl
theorem more_some {f:Nat→List UInt8→Option (DaT × List UInt8 × Nat)} {acc:List DaT} {c n n1:Nat} {r r1:List UInt8} {x:DaT} (h:f n r=some (x,r1,n1)):more acc (decsF f (c+1) n r)=more (acc++[x]) (decsF f c n1 r1):=by
 rw [decsF,h]
 show more acc (match decsF f c n1 r1 with | none=>none | some (l,r2,n2)=>some (x :: l,r2,n2))=_
 cases decsF f c n1 r1 with
 | none=>rfl
 | some p =>
  obtain ⟨l,r2,n2⟩:=p
  simp [more]
set_option maxRecDepth 100000 in
set_option maxHeartbeats 20000000 in
theorem str_any (k:Nat) (HC:Hid (DecC k)) (L R n dp:Nat) (rest:List UInt8) (rv:Value) (w:World) (h:RdS L R rest rv n false w) (hdp:dp+1+k=201) (hn:n≤4096) :
  Calls Tryd.prog 96 #[.pointer (some ⟨R,0,none⟩),.int .i64 dp] w (OutP L R (strD (dec k) n rest) w):=by
 have hRlt:=(Array.getElem?_eq_some_iff.1 h.box).1
 have hb:=below_alloc w (.cells #[.bool false,.int .i64 0,.string ⟨#[]⟩,.slice none 0 0] 68)
 have H1:=Lib.hid (h.below hb)
 have HN4:=Lib.hid (heap_alloc_new w (.cells #[.bool false,.int .i64 0,.string ⟨#[]⟩,.slice none 0 0] 68))
 have HKW:=Lib.hid (Kb.of_below (S:=fun j=>j=R ∨ w.heap.size≤j) hb)
 have HRL:=Lib.hid hRlt
 have HDP:=Lib.hid hdp
 have HNI:=Lib.hid hn
 have HLN:Hid (L≤w.heap.size):=Lib.hid (by have:=h.lo;omega)
 have HRN:Hid (¬ R=w.heap.size):=Lib.hid (by omega)
 have HLO:=Lib.hid h.lo
 have HSZ1:Hid (w.heap.size+1≤(w.alloc (.cells #[.bool false,.int .i64 0,.string ⟨#[]⟩,.slice none 0 0] 68)).heap.size):=Lib.hid (by simp)
 clear h hb hRlt hdp hn
 go_enter Tryd.func96,Tryd.ntmps96
 go_wp2_with fail
 generalize (w.alloc (.cells #[.bool false,.int .i64 0,.string ⟨#[]⟩,.slice none 0 0] 68))=W1 at H1 HN4 HKW HSZ1 ⊢
 obtain ⟨N4,hN4⟩:∃ N4,w.heap.size=N4:=⟨_,rfl⟩
 have HNE:=Lib.hid hN4
 rw [hN4] at HN4 HLN HRN ⊢
 clear hN4
 try go_at_call 113
 refine (name_any L R rest _ n W1 H1.out).mono ?_
 rintro e w2 ⟨hk2,⟨nm,rfl,hrf,hno⟩ | ⟨b,r2,rv2,rfl,hb1,hb2,hb3,rfl,hrd⟩⟩
 all_goals
  have HN4:=Lib.hid ((hk2.block N4 (Array.getElem?_eq_some_iff.1 HN4.out).1 (fun e=>HRN.out e.symm)).trans HN4.out)
  have HKW:=Lib.hid (HKW.out.trans (hk2.wider (fun _ _ e=>.inl e)))
  have HSZ2:Hid (w.heap.size+1≤w2.heap.size):=Lib.hid (Nat.le_trans HSZ1.out hk2.size)
  clear hk2
 ·obtain ⟨rvx,hrd⟩:=hrf
  have HNO:Hid (strD (dec k) n rest=none):=Lib.hid (strD_no hno)
  have hb5:=below_alloc w2 (.cells #[.bool true,.int .i64 0,.string nm,.slice none 0 0] 68)
  have H5:=Lib.hid (hrd.below hb5)
  have HN4:=Lib.hid ((hb5.block N4 (Array.getElem?_eq_some_iff.1 HN4.out).1).trans HN4.out)
  have HN5:=Lib.hid (heap_alloc_new w2 (.cells #[.bool true,.int .i64 0,.string nm,.slice none 0 0] 68))
  have HKW:=Lib.hid (HKW.out.trans (Kb.of_below (S:=fun j=>j=R ∨ w.heap.size≤j) hb5))
  clear hrd hb5 hno
  go_wp2_with fail
  generalize (w2.alloc (.cells #[.bool true,.int .i64 0,.string nm,.slice none 0 0] 68))=W5 at H5 HN4 HN5 HKW ⊢
  have HR5:Hid (¬ w2.heap.size=R):=Lib.hid (fun e=>by have:=HRL.out;have:=HSZ2.out;omega)
  generalize w2.heap.size=N5 at HN5 HR5 ⊢
  try go_at_call 94
  refine (small_any L R [] _ n true W5 H5.out (fun _=>rfl)).mono ?_
  rintro e WW ⟨hk6,⟨_,rfl,hrd6⟩ | ⟨_,_,_,hx,_⟩⟩
  ·have HRF:Hid (Refd L R n WW):=Lib.hid ⟨_,hrd6⟩
   have HN4:=Lib.hid ((hk6.block N4 (Array.getElem?_eq_some_iff.1 HN4.out).1 (fun e=>HRN.out e.symm)).trans HN4.out)
   have HN5:=Lib.hid ((hk6.block N5 (Array.getElem?_eq_some_iff.1 HN5.out).1 HR5.out).trans HN5.out)
   have HKW:=Lib.hid (HKW.out.trans (hk6.wider (fun _ _ e=>.inl e)))
   have haf:=arity_fits 0 WW
   rw [show ((0:Nat):Int)=0 from rfl] at haf
   have HAF:=Lib.hid haf
   clear hk6 hrd6 haf
   go_wp2_with fail
   try go_at_call 98
   refine HAF.out.mono ?_
   rintro e w7 ⟨rfl,hw7⟩
   have hw7:=hw7.symm
   subst hw7
   rw [show decide (0≤8)=true from rfl]
   go_wp2_with fail
   go_loopw [18] (fun t wr=>t=.int .i64 0∧wr=WW) (fun _ _=>0)
   case atStart=>exact ⟨rfl,rfl⟩
   case round =>
    obtain ⟨rfl,rfl⟩:=hrel
    have d0:=(cellH HN5.out 0).trans rfl
    have d1:=(cellH HN5.out 1).trans rfl
    have d2:=(cellH HN5.out 2).trans rfl
    have d3:=(cellH HN5.out 3).trans rfl
    have e0:=(cellH HN4.out 0).trans rfl
    have e1:=(cellH HN4.out 1).trans rfl
    have e2:=(cellH HN4.out 2).trans rfl
    have e3:=(cellH HN4.out 3).trans rfl
    have g0:=frozenH HN4.out 0
    have g1:=frozenH HN4.out 1
    have g2:=frozenH HN4.out 2
    have g3:=frozenH HN4.out 3
    go_wp2_with fail
    have hp4:=put4 (.bool true) (.int .i64 0) (.string nm) (.slice none 0 0) HN4.out
    have hk4:=kput4 wr N4 (.bool true) (.int .i64 0) (.string nm) (.slice none 0 0)
    have c0:=(cellH hp4 0).trans rfl
    have c1:=(cellH hp4 1).trans rfl
    have c2:=(cellH hp4 2).trans rfl
    have c3:=(cellH hp4 3).trans rfl
    exact bodyPost_ret (v:=.agg #[.bool true,.int .i64 0,.string nm,.slice none 0 0]) (by simp [results,Tryd.results96,go_sem,c0,c1,c2,c3]) rfl (by unfold OutP;exact ⟨fin_kb HKW.out (Nat.le_of_eq HNE.out) hk4,.inl ⟨HNO.out,⟨_,_,_,_,_,_,rfl⟩,_,refd_put HRF.out hk4 HLN.out HRN.out⟩⟩)
  ·cases hx
 ·have hb5:=below_alloc w2 (.cells #[.bool true,.int .i64 0,.string (bs (r2.take b.toNat)),.slice none 0 0] 68)
  have H5:=Lib.hid (hrd.below hb5)
  have HN4:=Lib.hid ((hb5.block N4 (Array.getElem?_eq_some_iff.1 HN4.out).1).trans HN4.out)
  have HN5:=Lib.hid (heap_alloc_new w2 (.cells #[.bool true,.int .i64 0,.string (bs (r2.take b.toNat)),.slice none 0 0] 68))
  have HKW:=Lib.hid (HKW.out.trans (Kb.of_below (S:=fun j=>j=R ∨ w.heap.size≤j) hb5))
  have HBC:=Lib.hid (show 1≤b.toNat∧b.toNat≤32∧b.toNat≤r2.length from ⟨hb1,hb2,hb3⟩)
  clear hrd hb5 hb1 hb2 hb3
  go_wp2_with fail
  generalize (w2.alloc (.cells #[.bool true,.int .i64 0,.string (bs (r2.take b.toNat)),.slice none 0 0] 68))=W5 at H5 HN4 HN5 HKW ⊢
  have HR5:Hid (¬ w2.heap.size=R):=Lib.hid (fun e=>by have:=HRL.out;have:=HSZ2.out;omega)
  have HN5W:Hid (w.heap.size≤w2.heap.size):=Lib.hid (by have:=HSZ2.out;omega)
  have HN45:Hid (¬ N4=w2.heap.size):=Lib.hid (fun e=>by have:=HSZ2.out;have:=HNE.out;omega)
  generalize w2.heap.size=N5 at HN5 HR5 HN5W HN45 ⊢
  obtain ⟨nm,hnm⟩:∃ nm,bs (r2.take b.toNat)=nm:=⟨_,rfl⟩
  have HNM:=Lib.hid hnm
  rw [hnm] at HN5 ⊢
  clear hnm
  obtain ⟨rx,hrx⟩:∃ rx,r2.drop b.toNat=rx:=⟨_,rfl⟩
  have HRX:=Lib.hid hrx
  rw [hrx] at H5
  clear hrx
  try go_at_call 94
  refine (small_any L R rx _ n false W5 H5.out (fun e=>by cases e)).mono ?_
  rintro e WW ⟨hk6,⟨hnil,rfl,hrd6⟩ | ⟨a,r3,rv3,hcons,_,rfl,hrd6⟩⟩
  ·have HNO:Hid (strD (dec k) n (b :: r2)=none):=Lib.hid (by rw [strD,if_pos HBC.out,HRX.out,hnil])
   clear hnil
   have HRF:Hid (Refd L R n WW):=Lib.hid ⟨_,hrd6⟩
   have HN4:=Lib.hid ((hk6.block N4 (Array.getElem?_eq_some_iff.1 HN4.out).1 (fun e=>HRN.out e.symm)).trans HN4.out)
   have HN5:=Lib.hid ((hk6.block N5 (Array.getElem?_eq_some_iff.1 HN5.out).1 HR5.out).trans HN5.out)
   have HKW:=Lib.hid (HKW.out.trans (hk6.wider (fun _ _ e=>.inl e)))
   have haf:=arity_fits 0 WW
   rw [show ((0:Nat):Int)=0 from rfl] at haf
   have HAF:=Lib.hid haf
   clear hk6 hrd6 haf
   go_wp2_with fail
   try go_at_call 98
   refine HAF.out.mono ?_
   rintro e w7 ⟨rfl,hw7⟩
   have hw7:=hw7.symm
   subst hw7
   rw [show decide (0≤8)=true from rfl]
   go_wp2_with fail
   go_loopw [18] (fun t wr=>t=.int .i64 0∧wr=WW) (fun _ _=>0)
   case atStart=>exact ⟨rfl,rfl⟩
   case round =>
    obtain ⟨rfl,rfl⟩:=hrel
    have d0:=(cellH HN5.out 0).trans rfl
    have d1:=(cellH HN5.out 1).trans rfl
    have d2:=(cellH HN5.out 2).trans rfl
    have d3:=(cellH HN5.out 3).trans rfl
    have e0:=(cellH HN4.out 0).trans rfl
    have e1:=(cellH HN4.out 1).trans rfl
    have e2:=(cellH HN4.out 2).trans rfl
    have e3:=(cellH HN4.out 3).trans rfl
    have g0:=frozenH HN4.out 0
    have g1:=frozenH HN4.out 1
    have g2:=frozenH HN4.out 2
    have g3:=frozenH HN4.out 3
    go_wp2_with fail
    have hp4:=put4 (.bool true) (.int .i64 0) (.string nm) (.slice none 0 0) HN4.out
    have hk4:=kput4 wr N4 (.bool true) (.int .i64 0) (.string nm) (.slice none 0 0)
    have c0:=(cellH hp4 0).trans rfl
    have c1:=(cellH hp4 1).trans rfl
    have c2:=(cellH hp4 2).trans rfl
    have c3:=(cellH hp4 3).trans rfl
    exact bodyPost_ret (v:=.agg #[.bool true,.int .i64 0,.string nm,.slice none 0 0]) (by simp [results,Tryd.results96,go_sem,c0,c1,c2,c3]) rfl (by unfold OutP;exact ⟨fin_kb HKW.out (Nat.le_of_eq HNE.out) hk4,.inl ⟨HNO.out,⟨_,_,_,_,_,_,rfl⟩,_,refd_put HRF.out hk4 HLN.out HRN.out⟩⟩)
  ·have HCONS:=Lib.hid hcons
   clear hcons
   have HN4:=Lib.hid ((hk6.block N4 (Array.getElem?_eq_some_iff.1 HN4.out).1 (fun e=>HRN.out e.symm)).trans HN4.out)
   have HN5:=Lib.hid ((hk6.block N5 (Array.getElem?_eq_some_iff.1 HN5.out).1 HR5.out).trans HN5.out)
   have HKW:=Lib.hid (HKW.out.trans (hk6.wider (fun _ _ e=>.inl e)))
   have H6:=Lib.hid hrd6
   clear hk6 hrd6
   obtain ⟨c,hc⟩:∃ c:Nat,a.toNat=c:=⟨_,rfl⟩
   have HCN:=Lib.hid hc
   rw [hc]
   clear hc
   go_wp2_with fail
   try go_at_call 98
   refine (arity_fits c WW).mono ?_
   rintro e w7 ⟨rfl,rfl⟩
   by_cases hc8:c≤8
   ·have hd8:decide (c≤8)=true:=by simpa using hc8
    have HC8:=Lib.hid hc8
    rw [hd8]
    have HSTR:Hid (∀ (l:List DaT) (r4:List UInt8) (n4:Nat),decsF (dec k) c n r3=some (l,r4,n4)→strD (dec k) n (b :: r2)=some (.mk true 0 nm l,r4,n4)):=Lib.hid (fun l r4 n4 e=>by
     rw [strD,if_pos HBC.out,HRX.out,HCONS.out]
     show (if a.toNat≤8 then _ else none)=_
     rw [HCN.out,if_pos HC8.out,e,HNM.out])
    have HSTN:Hid (decsF (dec k) c n r3=none→strD (dec k) n (b :: r2)=none):=Lib.hid (fun e=>by
     rw [strD,if_pos HBC.out,HRX.out,HCONS.out]
     show (if a.toNat≤8 then _ else none)=_
     rw [HCN.out,if_pos HC8.out,e])
    clear hc8 hd8
    go_wp2_with fail
    generalize hW6:w7=W6 at HN4 HN5 HKW H6 ⊢
    clear hW6
    have HW6W:Hid (w.heap.size≤W6.heap.size):=Lib.hid HKW.out.size
    have HRL6:Hid (R < W6.heap.size):=Lib.hid (Array.getElem?_eq_some_iff.1 H6.out.box).1
    have H5L:Hid (N5 < W6.heap.size):=Lib.hid (Array.getElem?_eq_some_iff.1 HN5.out).1
    have H4L:Hid (N4 < W6.heap.size):=Lib.hid (Array.getElem?_eq_some_iff.1 HN4.out).1
    have HLN5:Hid (L≤N5):=Lib.hid (by have:=HN5W.out;have:=HLN.out;have:=HNE.out;omega)
    have HL6:Hid (L≤W6.heap.size):=Lib.hid (by have:=H6.out.lo;have:=HRL6.out;omega)
    go_loopw [18] (fun t wr=>∃ i:Nat,i≤c∧t=.int .i64 i∧Hid (Kb (fun j=>j=R ∨ j=N5 ∨ W6.heap.size≤j) W6 wr) ∧
     ((∃ (acc:List DaT) (vs:List Value) (s:Option Addr) (cap ni:Nat) (ri:List UInt8) (rvi:Value),acc.length=i∧ni≤4096∧Hid (RowD (fun j=>j < W6.heap.size) W6 wr s cap acc vs)∧Hid (wr.heap[N5]?=some (.cells #[.bool true,.int .i64 0,.string nm,.slice s acc.length cap] 68 (0,0)))∧Hid (RdS L R ri rvi (ni:Nat) false wr)∧Hid (decsF (dec k) c n r3=more acc (decsF (dec k) (c - acc.length) ni ri)))
     ∨ (∃ (A5:Option Addr) (m5 q5:Nat) (n':Int),Hid (wr.heap[N5]?=some (.cells #[.bool true,.int .i64 0,.string nm,.slice A5 m5 q5] 68 (0,0)))∧Hid (Refd L R n' wr)∧Hid (decsF (dec k) c n r3=none)))) (fun t _=>c - (intOf t).toNat)
    case atStart=>exact ⟨0,Nat.zero_le _,rfl,Lib.hid (Kb.refl _ _),.inl ⟨[],[],none,0,n,r3,_,rfl,HNI.out,Lib.hid (RowD.start _ _),HN5,H6,Lib.hid (by
     show _=more [] (decsF (dec k) c n r3)
     cases decsF (dec k) c n r3 with
     | none=>rfl
     | some p=>rfl)⟩⟩
    case round =>
     obtain ⟨i,hi,rfl,HKR,hst⟩:=hrel
     rcases hst with ⟨acc,vs,s,cap,ni,ri,rvi,rfl,hni,HRO,HN5,HRD,HDS⟩ | ⟨A5,m5,q5,n',HN5,HRF,HDS⟩
     ·have HNB:=Lib.hid hni
      by_cases hlt:acc.length < c
      ·have hdc:decide (acc.length < c)=true:=by simpa using hlt
       have hdi:decide ((acc.length:Int) < (c:Int))=true:=by simp;omega
       have HLT:=Lib.hid hlt
       have b2:=(cellH HRD.out.box 2).trans rfl
       clear hlt hni
       go_upto_region 8 with fail
       clear b2 hdc hdi
       refine wp_region_held_drew (S:=fun _=>True) (by kernel_rfl) trivial (fun hHeld=>?_)
       have HBY:Hid (Below wr.heap.size wr wr.drew):=Lib.hid (below_drw (Below.refl _ _))
       have HN5:Hid (wr.drew.heap[N5]?=_):=HN5
       have HRD:=Lib.hid (HRD.out.below HBY.out)
       have HKR:=Lib.hid (HKR.out.trans (Kb.of_below (S:=fun j=>j=R ∨ j=N5 ∨ W6.heap.size≤j) HBY.out))
       have HROY:=Lib.hid (HRO.out.go (fun _ e=>e) (Kb.of_below HBY.out))
       have HAC:Hid (acc.length≤2000000):=Lib.hid (by have:=HLT.out;have:=HC8.out;omega)
       generalize wr.drew=Y at hHeld HBY HN5 HRD HKR HROY ⊢
       have hdp2:dp≤200:=by have:=HDP.out;omega
       have hdw:IntKind.i64.wrap ((dp:Int)+1)=(dp:Int)+1:=by first | (rw [IntKind.wrap_i64];omega) | (unfold IntKind.wrap;simp [IntKind.bits,IntKind.signed];omega)
       (refine wpAnyH_take (i:=0) (oi:=_) (v:=?_) rfl (by kernel_rfl) (by kernel_rfl) (by kernel_rfl) (fun _ _ _ h=>h) (Or.inl ⟨by kernel_rfl,?_⟩) (by assumption) ?_;rotate_left;(focus (intro w hSw;(try dsimp only at hSw);go_simp;(try with_reducible rfl);done));(try simp only [Act.put,List.setIfInBounds_toArray,List.set_cons_zero,List.set_cons_succ]))
       (refine wpAnyH_take (i:=2) (oi:=_) (v:=?_) rfl (by kernel_rfl) (by kernel_rfl) (by kernel_rfl) (fun _ _ _ h=>h) (Or.inl ⟨by kernel_rfl,?_⟩) (by assumption) ?_;rotate_left;(focus (intro w hSw;(try dsimp only at hSw);go_simp;(try with_reducible rfl);done));(try simp only [Act.put,List.setIfInBounds_toArray,List.set_cons_zero,List.set_cons_succ]))
       (refine wpAnyH_take (i:=3) (oi:=_) (v:=?_) rfl (by kernel_rfl) (by kernel_rfl) (by kernel_rfl) (fun _ _ _ h=>h) (Or.inl ⟨by kernel_rfl,?_⟩) (by assumption) ?_;rotate_left;(focus (intro w hSw;(try dsimp only at hSw);go_simp;(try with_reducible rfl);done));(try simp only [Act.put,List.setIfInBounds_toArray,List.set_cons_zero,List.set_cons_succ]))
       (refine wpAnyH_take (i:=4) (oi:=_) (v:=?_) rfl (by kernel_rfl) (by kernel_rfl) (by kernel_rfl) (fun _ _ _ h=>h) (Or.inl ⟨by kernel_rfl,?_⟩) (by assumption) ?_;rotate_left;(focus (intro w hSw;(try dsimp only at hSw);go_simp;(try with_reducible rfl);done));(try simp only [Act.put,List.setIfInBounds_toArray,List.set_cons_zero,List.set_cons_succ]))
       refine wpAnyH_ready (rs:=[1,5]) (by kernel_rfl) (by simp) ?_
       refine (AllReadyH.cons (o:=_) rfl (fun K hK=>?_) (AllReadyH.cons (o:=_) rfl (fun K hK=>?_) AllReadyH.nil))
       ·have x3:=(cellH HN5.out 3).trans rfl
        go_simp
        clear x3
        refine hK.out _ _ (trivial) (fun hHeld=>?_)
        clear hK K
        try simp only [Act.put,List.setIfInBounds_toArray,List.set_cons_zero,List.set_cons_succ]
        refine wpAnyH_ready (rs:=[5]) (by kernel_rfl) (by simp) ?_
        refine (AllReadyH.cons (o:=_) rfl (fun K hK=>?_) AllReadyH.nil)
        go_simp
        try go_at_call 72
        have hcall:=HC.out L R ni (dp+1) ri _ Y HRD.out (by have:=HDP.out;omega) HNB.out
        rw [show ((dp+1:Nat):Int)=(dp:Int)+1 from rfl] at hcall
        with_reducible refine hcall.mono ?_
        clear hcall
        rintro e Y2 ⟨hk2,⟨hnone,⟨cc,zz,ss,A2,m2,q2,rfl⟩,n',hrf⟩ | ⟨x,r',n',v,rv',hsome,rfl,hda,hrd,hn'⟩⟩
        ·have HNONE:Hid (decsF (dec k) c n r3=none):=Lib.hid (by rw [HDS.out,show c - acc.length=(c - acc.length - 1)+1 by have:=HLT.out;omega];exact more_none hnone)
         have HRF:=Lib.hid hrf
         have HN5:=Lib.hid ((hk2.block N5 (Array.getElem?_eq_some_iff.1 HN5.out).1 HR5.out).trans HN5.out)
         have HRO:=Lib.hid (HROY.out.go (fun _ e=>e) (hk2.wider (fun j _ e=>by subst e;exact HRL6.out)))
         have HKR:=Lib.hid (HKR.out.trans (hk2.wider (fun _ _ e=>.inl e)))
         clear hk2 hrf hnone HDS HRD
         go_simp
         refine hK.out _ _ (trivial) (fun hHeld=>?_)
         clear hK K
         try simp only [Act.put,List.setIfInBounds_toArray,List.set_cons_zero,List.set_cons_succ]
         refine wpAnyH_ready (rs:=[6]) (by kernel_rfl) (by simp) ?_
         refine (AllReadyH.cons (o:=_) rfl (fun K hK=>?_) AllReadyH.nil)
         go_simp
         have hbl:=below_alloc Y2 (.cells #[.bool cc,.int .i64 zz,.string ss,.slice A2 m2 q2] 68)
         have HT:=Lib.hid (heap_alloc_new Y2 (.cells #[.bool cc,.int .i64 zz,.string ss,.slice A2 m2 q2] 68))
         have HN5':=Lib.hid ((hbl.block N5 (Array.getElem?_eq_some_iff.1 HN5.out).1).trans HN5.out)
         have hown3:=own_belowN HRO.out.own hbl
         have HS3:Hid (W6.heap.size≤(Y2.alloc (.cells #[.bool cc,.int .i64 zz,.string ss,.slice A2 m2 q2] 68)).heap.size):=Lib.hid (Nat.le_trans HRO.out.keep.size hbl.size)
         have HO3:=Lib.hid hown3
         clear hown3 hbl
         refine hK.out _ _ (trivial) (fun hHeld=>?_)
         clear hK K
         try simp only [Act.put,List.setIfInBounds_toArray,List.set_cons_zero,List.set_cons_succ]
         refine wpAnyH_ready (rs:=[7]) (by kernel_rfl) (by simp) ?_
         refine (AllReadyH.cons (o:=_) rfl (fun K hK=>?_) AllReadyH.nil)
         refine step_da rfl (.tmp 25) (.tmp 30) rfl W6.heap.size (.slice s acc.length cap) acc.length _ (by kernel_rfl) HO3.out Y2.heap.size cc zz ss A2 m2 q2 (by kernel_rfl) HT.out (by have:=HAC.out;omega) HS3.out ?_
         intro g4 c4 Y4 hown4 hg4 hat4
         have hnown:∀ j,j < W6.heap.size→some j ≠ (Value.slice s acc.length cap).ownBlock:=fun j hj e=>by have:=(HO3.out.lt j e.symm).1;omega
         have hkg:Kb (fun j=>W6.heap.size≤j) Y2 Y4:=(Kb.of_below (S:=fun j=>W6.heap.size≤j) (below_alloc Y2 (.cells #[.bool cc,.int .i64 zz,.string ss,.slice A2 m2 q2] 68))).trans ⟨hg4.os,hg4.tape,hg4.output,hg4.size,fun j hj hn=>hg4.block j hj (hnown j (by omega))⟩
         have HN54:=Lib.hid ((hkg.block N5 (Array.getElem?_eq_some_iff.1 HN5.out).1 (by have:=H5L.out;omega)).trans HN5.out)
         have HKG:=Lib.hid hkg
         have HOW4:=Lib.hid hown4
         have HG4:=Lib.hid hg4
         have HAT4:=Lib.hid hat4
         clear hown4 hg4 hat4 hnown hkg
         refine hK.out _ _ (trivial) (fun hHeld=>?_)
         clear hK K
         try simp only [Act.put,List.setIfInBounds_toArray,List.set_cons_zero,List.set_cons_succ]
         (refine wpAnyH_take (i:=8) (oi:=_) (v:=?_) rfl (by kernel_rfl) (by kernel_rfl) (by kernel_rfl) (fun _ _ _ h=>h) (Or.inl ⟨by kernel_rfl,?_⟩) (by assumption) ?_;rotate_left;(focus (intro w hSw;(try dsimp only at hSw);go_simp;(try with_reducible rfl);done));(try simp only [Act.put,List.setIfInBounds_toArray,List.set_cons_zero,List.set_cons_succ]))
         have z3:=(cellH HN54.out 3).trans rfl
         have f3:=frozenH HN54.out 3
         refine wpAnyH_ready (rs:=[9]) (by kernel_rfl) (by simp) ?_
         refine (AllReadyH.cons (o:=_) rfl (fun K hK=>?_) AllReadyH.nil)
         go_simp
         have hput:=blk_put Y4 N5 3 (.slice (some ⟨g4,0,none⟩) (acc.length+1) c4) HN54.out (by show 3 < 4;decide)
         have hkp:Kb (fun j=>j=N5) Y4 (Y4.setCell ⟨N5,3,none⟩ (.slice (some ⟨g4,0,none⟩) (acc.length+1) c4)):=(Kb.refl (fun j=>j=N5) Y4).put (p:=⟨N5,3,none⟩) rfl _
         have HNEW:Hid ((Y4.setCell ⟨N5,3,none⟩ (.slice (some ⟨g4,0,none⟩) (acc.length+1) c4)).heap[N5]?=some (.cells #[.bool true,.int .i64 0,.string nm,.slice (some ⟨g4,0,none⟩) (acc.length+1) c4] 68 (0,0))):=Lib.hid hput
         have HRF2:Hid (Refd L R n' (Y4.setCell ⟨N5,3,none⟩ (.slice (some ⟨g4,0,none⟩) (acc.length+1) c4))):=Lib.hid (by
          obtain ⟨rvq,hq⟩:=HRF.out
          exact ⟨rvq,(hq.kb HKG.out (fun j _ e=>by have:=HL6.out;omega) (by have:=HRL6.out;omega)).kb hkp (fun j _ e=>by subst e;exact HLN5.out) (fun e=>HR5.out e.symm)⟩)
         have HK2:=Lib.hid ((HKR.out.trans (HKG.out.wider (fun _ _ e=>.inr (.inr e)))).trans (hkp.wider (fun _ _ e=>.inr (.inl e))))
         have HLEN:Hid (acc.length+1≤c):=Lib.hid (by have:=HLT.out;omega)
         clear hput hkp z3 f3
         generalize (Y4.setCell ⟨N5,3,none⟩ (.slice (some ⟨g4,0,none⟩) (acc.length+1) c4))=Y5 at HNEW HRF2 HK2 ⊢
         refine hK.out _ _ (trivial) (fun hHeld=>?_)
         clear hK K
         try simp only [Act.put,List.setIfInBounds_toArray,List.set_cons_zero,List.set_cons_succ]
         refine wpAnyH_done (by kernel_rfl) ?_ _
         have hac:=HAC.out
         have hlen:=HLEN.out
         go_wp2_with fail
         go_roundw
         case rel=>exact ⟨acc.length+1,HLEN.out,by go_num,HK2,.inr ⟨_,_,_,_,HNEW,HRF2,HNONE⟩⟩
         case measure=>have:=HLT.out;simp [intOf];omega
        ·obtain ⟨A2,m2,q2,hve⟩:=hda.this
         have HDS2:Hid (decsF (dec k) c n r3=more (acc++[x]) (decsF (dec k) (c - (acc.length+1)) n' r')):=Lib.hid (by
          rw [HDS.out,show c - acc.length=(c - (acc.length+1))+1 by have:=HLT.out;omega]
          exact more_some hsome)
         have HN5:=Lib.hid ((hk2.block N5 (Array.getElem?_eq_some_iff.1 HN5.out).1 HR5.out).trans HN5.out)
         have HRO0:=HRO
         have HK2c:Hid (Kb (fun j=>j < W6.heap.size) wr Y2):=Lib.hid ((Kb.of_below (S:=fun j=>j < W6.heap.size) HBY.out).trans (hk2.wider (fun j _ e=>by subst e;exact HRL6.out)))
         have HRO:=Lib.hid (HRO.out.go (fun _ e=>e) HK2c.out)
         have HDA:Hid (DaE (fun j=>j < W6.heap.size ∨ s=some ⟨j,0,none⟩) x v Y2):=Lib.hid (DaE.step _ _ _ _ _ _ hda (Kb.refl _ _) (fun j _ e=>by
          have h1:=HBY.out.size
          have h2:=HRO0.out.keep.size
          rcases e with e | e
          ·omega
          ·have:=(HRO0.out.own.lt j (by rw [e];rfl)).2
           omega))
         have HKR:=Lib.hid (HKR.out.trans (hk2.wider (fun _ _ e=>.inl e)))
         have HRN':=Lib.hid hrd
         have HNN:=Lib.hid hn'
         obtain ⟨cc,hcc⟩:∃ cc,x.ctor=cc:=⟨_,rfl⟩
         obtain ⟨zz,hzz⟩:∃ zz,x.int=zz:=⟨_,rfl⟩
         obtain ⟨ss,hss⟩:∃ ss,x.name=ss:=⟨_,rfl⟩
         rw [hcc,hzz,hss] at hve
         subst hve
         clear hk2 hda hrd hn' hsome HDS HRD hcc hzz hss HRO0
         go_simp
         refine hK.out _ _ (trivial) (fun hHeld=>?_)
         clear hK K
         try simp only [Act.put,List.setIfInBounds_toArray,List.set_cons_zero,List.set_cons_succ]
         refine wpAnyH_ready (rs:=[6]) (by kernel_rfl) (by simp) ?_
         refine (AllReadyH.cons (o:=_) rfl (fun K hK=>?_) AllReadyH.nil)
         go_simp
         have hbl:=below_alloc Y2 (.cells #[.bool cc,.int .i64 zz,.string ss,.slice A2 m2 q2] 68)
         have HT:=Lib.hid (heap_alloc_new Y2 (.cells #[.bool cc,.int .i64 zz,.string ss,.slice A2 m2 q2] 68))
         have HN5':=Lib.hid ((hbl.block N5 (Array.getElem?_eq_some_iff.1 HN5.out).1).trans HN5.out)
         have hown3:=own_belowN HRO.out.own hbl
         have HS3:Hid (W6.heap.size≤(Y2.alloc (.cells #[.bool cc,.int .i64 zz,.string ss,.slice A2 m2 q2] 68)).heap.size):=Lib.hid (Nat.le_trans HRO.out.keep.size hbl.size)
         have HO3:=Lib.hid hown3
         clear hown3 hbl
         refine hK.out _ _ (trivial) (fun hHeld=>?_)
         clear hK K
         try simp only [Act.put,List.setIfInBounds_toArray,List.set_cons_zero,List.set_cons_succ]
         refine wpAnyH_ready (rs:=[7]) (by kernel_rfl) (by simp) ?_
         refine (AllReadyH.cons (o:=_) rfl (fun K hK=>?_) AllReadyH.nil)
         refine step_da rfl (.tmp 25) (.tmp 30) rfl W6.heap.size (.slice s acc.length cap) acc.length _ (by kernel_rfl) HO3.out Y2.heap.size cc zz ss A2 m2 q2 (by kernel_rfl) HT.out (by have:=HAC.out;omega) HS3.out ?_
         intro g4 c4 Y4 hown4 hg4 hat4
         have hnown:∀ j,j < W6.heap.size→some j ≠ (Value.slice s acc.length cap).ownBlock:=fun j hj e=>by have:=(HO3.out.lt j e.symm).1;omega
         have hkg:Kb (fun j=>W6.heap.size≤j) Y2 Y4:=(Kb.of_below (S:=fun j=>W6.heap.size≤j) (below_alloc Y2 (.cells #[.bool cc,.int .i64 zz,.string ss,.slice A2 m2 q2] 68))).trans ⟨hg4.os,hg4.tape,hg4.output,hg4.size,fun j hj hn=>hg4.block j hj (hnown j (by omega))⟩
         have HN54:=Lib.hid ((hkg.block N5 (Array.getElem?_eq_some_iff.1 HN5.out).1 (by have:=H5L.out;omega)).trans HN5.out)
         have HKG:=Lib.hid hkg
         have HOW4:=Lib.hid hown4
         have HG4:=Lib.hid hg4
         have HAT4:=Lib.hid hat4
         clear hown4 hg4 hat4 hnown hkg
         refine hK.out _ _ (trivial) (fun hHeld=>?_)
         clear hK K
         try simp only [Act.put,List.setIfInBounds_toArray,List.set_cons_zero,List.set_cons_succ]
         (refine wpAnyH_take (i:=8) (oi:=_) (v:=?_) rfl (by kernel_rfl) (by kernel_rfl) (by kernel_rfl) (fun _ _ _ h=>h) (Or.inl ⟨by kernel_rfl,?_⟩) (by assumption) ?_;rotate_left;(focus (intro w hSw;(try dsimp only at hSw);go_simp;(try with_reducible rfl);done));(try simp only [Act.put,List.setIfInBounds_toArray,List.set_cons_zero,List.set_cons_succ]))
         have z3:=(cellH HN54.out 3).trans rfl
         have f3:=frozenH HN54.out 3
         refine wpAnyH_ready (rs:=[9]) (by kernel_rfl) (by simp) ?_
         refine (AllReadyH.cons (o:=_) rfl (fun K hK=>?_) AllReadyH.nil)
         go_simp
         have hsn:=HRO.out.snoc (x2:=x) (v2:=.agg #[.bool cc,.int .i64 zz,.string ss,.slice A2 m2 q2]) (o:=.cells #[.bool cc,.int .i64 zz,.string ss,.slice A2 m2 q2] 68) (Kb.refl _ _) HDA.out HOW4.out HG4.out HAT4.out
         have hput:=blk_put Y4 N5 3 (.slice (some ⟨g4,0,none⟩) (acc.length+1) c4) HN54.out (by show 3 < 4;decide)
         have hkp:Kb (fun j=>j=N5) Y4 (Y4.setCell ⟨N5,3,none⟩ (.slice (some ⟨g4,0,none⟩) (acc.length+1) c4)):=(Kb.refl (fun j=>j=N5) Y4).put (p:=⟨N5,3,none⟩) rfl _
         have HNEW:Hid ((Y4.setCell ⟨N5,3,none⟩ (.slice (some ⟨g4,0,none⟩) (acc.length+1) c4)).heap[N5]?=some (.cells #[.bool true,.int .i64 0,.string nm,.slice (some ⟨g4,0,none⟩) (acc.length+1) c4] 68 (0,0))):=Lib.hid hput
         have HRN2:Hid (RdS L R r' rv' (n':Nat) false (Y4.setCell ⟨N5,3,none⟩ (.slice (some ⟨g4,0,none⟩) (acc.length+1) c4))):=Lib.hid ((HRN'.out.kb HKG.out (fun j _ e=>by have:=HL6.out;omega) (by have:=HRL6.out;omega)).kb hkp (fun j _ e=>by subst e;exact HLN5.out) (fun e=>HR5.out e.symm))
         have HROW:=Lib.hid (hsn.go (fun _ e=>e) (hkp.wider (fun j _ e=>by subst e;exact H5L.out)))
         have HK2:=Lib.hid ((HKR.out.trans (HKG.out.wider (fun _ _ e=>.inr (.inr e)))).trans (hkp.wider (fun _ _ e=>.inr (.inl e))))
         have HLEN:Hid (acc.length+1≤c):=Lib.hid (by have:=HLT.out;omega)
         have HL1:Hid ((acc++[x]).length=acc.length+1):=Lib.hid (by simp)
         clear hput hkp z3 f3 hsn
         generalize (Y4.setCell ⟨N5,3,none⟩ (.slice (some ⟨g4,0,none⟩) (acc.length+1) c4))=Y5 at HNEW HRN2 HROW HK2 ⊢
         refine hK.out _ _ (trivial) (fun hHeld=>?_)
         clear hK K
         try simp only [Act.put,List.setIfInBounds_toArray,List.set_cons_zero,List.set_cons_succ]
         refine wpAnyH_done (by kernel_rfl) ?_ _
         have hac:=HAC.out
         have hlen:=HLEN.out
         go_wp2_with fail
         go_roundw
         case rel=>exact ⟨acc.length+1,HLEN.out,by go_num,HK2,.inl ⟨acc++[x],_,_,_,_,_,_,HL1.out,HNN.out,HROW,by rw [HL1.out];exact HNEW,HRN2,by rw [HL1.out];exact HDS2⟩⟩
         case measure=>have:=HLT.out;simp [intOf];omega
       ·go_simp
        try go_at_call 72
        have hcall:=HC.out L R ni (dp+1) ri _ Y HRD.out (by have:=HDP.out;omega) HNB.out
        rw [show ((dp+1:Nat):Int)=(dp:Int)+1 from rfl] at hcall
        with_reducible refine hcall.mono ?_
        clear hcall
        rintro e Y2 ⟨hk2,⟨hnone,⟨cc,zz,ss,A2,m2,q2,rfl⟩,n',hrf⟩ | ⟨x,r',n',v,rv',hsome,rfl,hda,hrd,hn'⟩⟩
        ·have HNONE:Hid (decsF (dec k) c n r3=none):=Lib.hid (by rw [HDS.out,show c - acc.length=(c - acc.length - 1)+1 by have:=HLT.out;omega];exact more_none hnone)
         have HRF:=Lib.hid hrf
         have HN5:=Lib.hid ((hk2.block N5 (Array.getElem?_eq_some_iff.1 HN5.out).1 HR5.out).trans HN5.out)
         have HRO:=Lib.hid (HROY.out.go (fun _ e=>e) (hk2.wider (fun j _ e=>by subst e;exact HRL6.out)))
         have HKR:=Lib.hid (HKR.out.trans (hk2.wider (fun _ _ e=>.inl e)))
         clear hk2 hrf hnone HDS HRD
         go_simp
         refine hK.out _ _ (trivial) (fun hHeld=>?_)
         clear hK K
         try simp only [Act.put,List.setIfInBounds_toArray,List.set_cons_zero,List.set_cons_succ]
         refine wpAnyH_ready (rs:=[1,6]) (by kernel_rfl) (by simp) ?_
         refine (AllReadyH.cons (o:=_) rfl (fun K hK=>?_) (AllReadyH.cons (o:=_) rfl (fun K hK=>?_) AllReadyH.nil))
         ·have x3:=(cellH HN5.out 3).trans rfl
          go_simp
          clear x3
          refine hK.out _ _ (trivial) (fun hHeld=>?_)
          clear hK K
          try simp only [Act.put,List.setIfInBounds_toArray,List.set_cons_zero,List.set_cons_succ]
          refine wpAnyH_ready (rs:=[6]) (by kernel_rfl) (by simp) ?_
          refine (AllReadyH.cons (o:=_) rfl (fun K hK=>?_) AllReadyH.nil)
          go_simp
          have hbl:=below_alloc Y2 (.cells #[.bool cc,.int .i64 zz,.string ss,.slice A2 m2 q2] 68)
          have HT:=Lib.hid (heap_alloc_new Y2 (.cells #[.bool cc,.int .i64 zz,.string ss,.slice A2 m2 q2] 68))
          have HN5':=Lib.hid ((hbl.block N5 (Array.getElem?_eq_some_iff.1 HN5.out).1).trans HN5.out)
          have hown3:=own_belowN HRO.out.own hbl
          have HS3:Hid (W6.heap.size≤(Y2.alloc (.cells #[.bool cc,.int .i64 zz,.string ss,.slice A2 m2 q2] 68)).heap.size):=Lib.hid (Nat.le_trans HRO.out.keep.size hbl.size)
          have HO3:=Lib.hid hown3
          clear hown3 hbl
          refine hK.out _ _ (trivial) (fun hHeld=>?_)
          clear hK K
          try simp only [Act.put,List.setIfInBounds_toArray,List.set_cons_zero,List.set_cons_succ]
          refine wpAnyH_ready (rs:=[7]) (by kernel_rfl) (by simp) ?_
          refine (AllReadyH.cons (o:=_) rfl (fun K hK=>?_) AllReadyH.nil)
          refine step_da rfl (.tmp 25) (.tmp 30) rfl W6.heap.size (.slice s acc.length cap) acc.length _ (by kernel_rfl) HO3.out Y2.heap.size cc zz ss A2 m2 q2 (by kernel_rfl) HT.out (by have:=HAC.out;omega) HS3.out ?_
          intro g4 c4 Y4 hown4 hg4 hat4
          have hnown:∀ j,j < W6.heap.size→some j ≠ (Value.slice s acc.length cap).ownBlock:=fun j hj e=>by have:=(HO3.out.lt j e.symm).1;omega
          have hkg:Kb (fun j=>W6.heap.size≤j) Y2 Y4:=(Kb.of_below (S:=fun j=>W6.heap.size≤j) (below_alloc Y2 (.cells #[.bool cc,.int .i64 zz,.string ss,.slice A2 m2 q2] 68))).trans ⟨hg4.os,hg4.tape,hg4.output,hg4.size,fun j hj hn=>hg4.block j hj (hnown j (by omega))⟩
          have HN54:=Lib.hid ((hkg.block N5 (Array.getElem?_eq_some_iff.1 HN5.out).1 (by have:=H5L.out;omega)).trans HN5.out)
          have HKG:=Lib.hid hkg
          have HOW4:=Lib.hid hown4
          have HG4:=Lib.hid hg4
          have HAT4:=Lib.hid hat4
          clear hown4 hg4 hat4 hnown hkg
          refine hK.out _ _ (trivial) (fun hHeld=>?_)
          clear hK K
          try simp only [Act.put,List.setIfInBounds_toArray,List.set_cons_zero,List.set_cons_succ]
          (refine wpAnyH_take (i:=8) (oi:=_) (v:=?_) rfl (by kernel_rfl) (by kernel_rfl) (by kernel_rfl) (fun _ _ _ h=>h) (Or.inl ⟨by kernel_rfl,?_⟩) (by assumption) ?_;rotate_left;(focus (intro w hSw;(try dsimp only at hSw);go_simp;(try with_reducible rfl);done));(try simp only [Act.put,List.setIfInBounds_toArray,List.set_cons_zero,List.set_cons_succ]))
          have z3:=(cellH HN54.out 3).trans rfl
          have f3:=frozenH HN54.out 3
          refine wpAnyH_ready (rs:=[9]) (by kernel_rfl) (by simp) ?_
          refine (AllReadyH.cons (o:=_) rfl (fun K hK=>?_) AllReadyH.nil)
          go_simp
          have hput:=blk_put Y4 N5 3 (.slice (some ⟨g4,0,none⟩) (acc.length+1) c4) HN54.out (by show 3 < 4;decide)
          have hkp:Kb (fun j=>j=N5) Y4 (Y4.setCell ⟨N5,3,none⟩ (.slice (some ⟨g4,0,none⟩) (acc.length+1) c4)):=(Kb.refl (fun j=>j=N5) Y4).put (p:=⟨N5,3,none⟩) rfl _
          have HNEW:Hid ((Y4.setCell ⟨N5,3,none⟩ (.slice (some ⟨g4,0,none⟩) (acc.length+1) c4)).heap[N5]?=some (.cells #[.bool true,.int .i64 0,.string nm,.slice (some ⟨g4,0,none⟩) (acc.length+1) c4] 68 (0,0))):=Lib.hid hput
          have HRF2:Hid (Refd L R n' (Y4.setCell ⟨N5,3,none⟩ (.slice (some ⟨g4,0,none⟩) (acc.length+1) c4))):=Lib.hid (by
           obtain ⟨rvq,hq⟩:=HRF.out
           exact ⟨rvq,(hq.kb HKG.out (fun j _ e=>by have:=HL6.out;omega) (by have:=HRL6.out;omega)).kb hkp (fun j _ e=>by subst e;exact HLN5.out) (fun e=>HR5.out e.symm)⟩)
          have HK2:=Lib.hid ((HKR.out.trans (HKG.out.wider (fun _ _ e=>.inr (.inr e)))).trans (hkp.wider (fun _ _ e=>.inr (.inl e))))
          have HLEN:Hid (acc.length+1≤c):=Lib.hid (by have:=HLT.out;omega)
          clear hput hkp z3 f3
          generalize (Y4.setCell ⟨N5,3,none⟩ (.slice (some ⟨g4,0,none⟩) (acc.length+1) c4))=Y5 at HNEW HRF2 HK2 ⊢
          refine hK.out _ _ (trivial) (fun hHeld=>?_)
          clear hK K
          try simp only [Act.put,List.setIfInBounds_toArray,List.set_cons_zero,List.set_cons_succ]
          refine wpAnyH_done (by kernel_rfl) ?_ _
          have hac:=HAC.out
          have hlen:=HLEN.out
          go_wp2_with fail
          go_roundw
          case rel=>exact ⟨acc.length+1,HLEN.out,by go_num,HK2,.inr ⟨_,_,_,_,HNEW,HRF2,HNONE⟩⟩
          case measure=>have:=HLT.out;simp [intOf];omega
         ·go_simp
          have hbl:=below_alloc Y2 (.cells #[.bool cc,.int .i64 zz,.string ss,.slice A2 m2 q2] 68)
          have HT:=Lib.hid (heap_alloc_new Y2 (.cells #[.bool cc,.int .i64 zz,.string ss,.slice A2 m2 q2] 68))
          have HN5':=Lib.hid ((hbl.block N5 (Array.getElem?_eq_some_iff.1 HN5.out).1).trans HN5.out)
          have hown3:=own_belowN HRO.out.own hbl
          have HS3:Hid (W6.heap.size≤(Y2.alloc (.cells #[.bool cc,.int .i64 zz,.string ss,.slice A2 m2 q2] 68)).heap.size):=Lib.hid (Nat.le_trans HRO.out.keep.size hbl.size)
          have HO3:=Lib.hid hown3
          clear hown3 hbl
          refine hK.out _ _ (trivial) (fun hHeld=>?_)
          clear hK K
          try simp only [Act.put,List.setIfInBounds_toArray,List.set_cons_zero,List.set_cons_succ]
          refine wpAnyH_ready (rs:=[1]) (by kernel_rfl) (by simp) ?_
          refine (AllReadyH.cons (o:=_) rfl (fun K hK=>?_) AllReadyH.nil)
          have x3:=(cellH HN5'.out 3).trans rfl
          go_simp
          clear x3
          refine hK.out _ _ (trivial) (fun hHeld=>?_)
          clear hK K
          try simp only [Act.put,List.setIfInBounds_toArray,List.set_cons_zero,List.set_cons_succ]
          refine wpAnyH_ready (rs:=[7]) (by kernel_rfl) (by simp) ?_
          refine (AllReadyH.cons (o:=_) rfl (fun K hK=>?_) AllReadyH.nil)
          refine step_da rfl (.tmp 25) (.tmp 30) rfl W6.heap.size (.slice s acc.length cap) acc.length _ (by kernel_rfl) HO3.out Y2.heap.size cc zz ss A2 m2 q2 (by kernel_rfl) HT.out (by have:=HAC.out;omega) HS3.out ?_
          intro g4 c4 Y4 hown4 hg4 hat4
          have hnown:∀ j,j < W6.heap.size→some j ≠ (Value.slice s acc.length cap).ownBlock:=fun j hj e=>by have:=(HO3.out.lt j e.symm).1;omega
          have hkg:Kb (fun j=>W6.heap.size≤j) Y2 Y4:=(Kb.of_below (S:=fun j=>W6.heap.size≤j) (below_alloc Y2 (.cells #[.bool cc,.int .i64 zz,.string ss,.slice A2 m2 q2] 68))).trans ⟨hg4.os,hg4.tape,hg4.output,hg4.size,fun j hj hn=>hg4.block j hj (hnown j (by omega))⟩
          have HN54:=Lib.hid ((hkg.block N5 (Array.getElem?_eq_some_iff.1 HN5.out).1 (by have:=H5L.out;omega)).trans HN5.out)
          have HKG:=Lib.hid hkg
          have HOW4:=Lib.hid hown4
          have HG4:=Lib.hid hg4
          have HAT4:=Lib.hid hat4
          clear hown4 hg4 hat4 hnown hkg
          refine hK.out _ _ (trivial) (fun hHeld=>?_)
          clear hK K
          try simp only [Act.put,List.setIfInBounds_toArray,List.set_cons_zero,List.set_cons_succ]
          (refine wpAnyH_take (i:=8) (oi:=_) (v:=?_) rfl (by kernel_rfl) (by kernel_rfl) (by kernel_rfl) (fun _ _ _ h=>h) (Or.inl ⟨by kernel_rfl,?_⟩) (by assumption) ?_;rotate_left;(focus (intro w hSw;(try dsimp only at hSw);go_simp;(try with_reducible rfl);done));(try simp only [Act.put,List.setIfInBounds_toArray,List.set_cons_zero,List.set_cons_succ]))
          have z3:=(cellH HN54.out 3).trans rfl
          have f3:=frozenH HN54.out 3
          refine wpAnyH_ready (rs:=[9]) (by kernel_rfl) (by simp) ?_
          refine (AllReadyH.cons (o:=_) rfl (fun K hK=>?_) AllReadyH.nil)
          go_simp
          have hput:=blk_put Y4 N5 3 (.slice (some ⟨g4,0,none⟩) (acc.length+1) c4) HN54.out (by show 3 < 4;decide)
          have hkp:Kb (fun j=>j=N5) Y4 (Y4.setCell ⟨N5,3,none⟩ (.slice (some ⟨g4,0,none⟩) (acc.length+1) c4)):=(Kb.refl (fun j=>j=N5) Y4).put (p:=⟨N5,3,none⟩) rfl _
          have HNEW:Hid ((Y4.setCell ⟨N5,3,none⟩ (.slice (some ⟨g4,0,none⟩) (acc.length+1) c4)).heap[N5]?=some (.cells #[.bool true,.int .i64 0,.string nm,.slice (some ⟨g4,0,none⟩) (acc.length+1) c4] 68 (0,0))):=Lib.hid hput
          have HRF2:Hid (Refd L R n' (Y4.setCell ⟨N5,3,none⟩ (.slice (some ⟨g4,0,none⟩) (acc.length+1) c4))):=Lib.hid (by
           obtain ⟨rvq,hq⟩:=HRF.out
           exact ⟨rvq,(hq.kb HKG.out (fun j _ e=>by have:=HL6.out;omega) (by have:=HRL6.out;omega)).kb hkp (fun j _ e=>by subst e;exact HLN5.out) (fun e=>HR5.out e.symm)⟩)
          have HK2:=Lib.hid ((HKR.out.trans (HKG.out.wider (fun _ _ e=>.inr (.inr e)))).trans (hkp.wider (fun _ _ e=>.inr (.inl e))))
          have HLEN:Hid (acc.length+1≤c):=Lib.hid (by have:=HLT.out;omega)
          clear hput hkp z3 f3
          generalize (Y4.setCell ⟨N5,3,none⟩ (.slice (some ⟨g4,0,none⟩) (acc.length+1) c4))=Y5 at HNEW HRF2 HK2 ⊢
          refine hK.out _ _ (trivial) (fun hHeld=>?_)
          clear hK K
          try simp only [Act.put,List.setIfInBounds_toArray,List.set_cons_zero,List.set_cons_succ]
          refine wpAnyH_done (by kernel_rfl) ?_ _
          have hac:=HAC.out
          have hlen:=HLEN.out
          go_wp2_with fail
          go_roundw
          case rel=>exact ⟨acc.length+1,HLEN.out,by go_num,HK2,.inr ⟨_,_,_,_,HNEW,HRF2,HNONE⟩⟩
          case measure=>have:=HLT.out;simp [intOf];omega
        ·obtain ⟨A2,m2,q2,hve⟩:=hda.this
         have HDS2:Hid (decsF (dec k) c n r3=more (acc++[x]) (decsF (dec k) (c - (acc.length+1)) n' r')):=Lib.hid (by
          rw [HDS.out,show c - acc.length=(c - (acc.length+1))+1 by have:=HLT.out;omega]
          exact more_some hsome)
         have HN5:=Lib.hid ((hk2.block N5 (Array.getElem?_eq_some_iff.1 HN5.out).1 HR5.out).trans HN5.out)
         have HRO0:=HRO
         have HK2c:Hid (Kb (fun j=>j < W6.heap.size) wr Y2):=Lib.hid ((Kb.of_below (S:=fun j=>j < W6.heap.size) HBY.out).trans (hk2.wider (fun j _ e=>by subst e;exact HRL6.out)))
         have HRO:=Lib.hid (HRO.out.go (fun _ e=>e) HK2c.out)
         have HDA:Hid (DaE (fun j=>j < W6.heap.size ∨ s=some ⟨j,0,none⟩) x v Y2):=Lib.hid (DaE.step _ _ _ _ _ _ hda (Kb.refl _ _) (fun j _ e=>by
          have h1:=HBY.out.size
          have h2:=HRO0.out.keep.size
          rcases e with e | e
          ·omega
          ·have:=(HRO0.out.own.lt j (by rw [e];rfl)).2
           omega))
         have HKR:=Lib.hid (HKR.out.trans (hk2.wider (fun _ _ e=>.inl e)))
         have HRN':=Lib.hid hrd
         have HNN:=Lib.hid hn'
         obtain ⟨cc,hcc⟩:∃ cc,x.ctor=cc:=⟨_,rfl⟩
         obtain ⟨zz,hzz⟩:∃ zz,x.int=zz:=⟨_,rfl⟩
         obtain ⟨ss,hss⟩:∃ ss,x.name=ss:=⟨_,rfl⟩
         rw [hcc,hzz,hss] at hve
         subst hve
         clear hk2 hda hrd hn' hsome HDS HRD hcc hzz hss HRO0
         go_simp
         refine hK.out _ _ (trivial) (fun hHeld=>?_)
         clear hK K
         try simp only [Act.put,List.setIfInBounds_toArray,List.set_cons_zero,List.set_cons_succ]
         refine wpAnyH_ready (rs:=[1,6]) (by kernel_rfl) (by simp) ?_
         refine (AllReadyH.cons (o:=_) rfl (fun K hK=>?_) (AllReadyH.cons (o:=_) rfl (fun K hK=>?_) AllReadyH.nil))
         ·have x3:=(cellH HN5.out 3).trans rfl
          go_simp
          clear x3
          refine hK.out _ _ (trivial) (fun hHeld=>?_)
          clear hK K
          try simp only [Act.put,List.setIfInBounds_toArray,List.set_cons_zero,List.set_cons_succ]
          refine wpAnyH_ready (rs:=[6]) (by kernel_rfl) (by simp) ?_
          refine (AllReadyH.cons (o:=_) rfl (fun K hK=>?_) AllReadyH.nil)
          go_simp
          have hbl:=below_alloc Y2 (.cells #[.bool cc,.int .i64 zz,.string ss,.slice A2 m2 q2] 68)
          have HT:=Lib.hid (heap_alloc_new Y2 (.cells #[.bool cc,.int .i64 zz,.string ss,.slice A2 m2 q2] 68))
          have HN5':=Lib.hid ((hbl.block N5 (Array.getElem?_eq_some_iff.1 HN5.out).1).trans HN5.out)
          have hown3:=own_belowN HRO.out.own hbl
          have HS3:Hid (W6.heap.size≤(Y2.alloc (.cells #[.bool cc,.int .i64 zz,.string ss,.slice A2 m2 q2] 68)).heap.size):=Lib.hid (Nat.le_trans HRO.out.keep.size hbl.size)
          have HO3:=Lib.hid hown3
          clear hown3 hbl
          refine hK.out _ _ (trivial) (fun hHeld=>?_)
          clear hK K
          try simp only [Act.put,List.setIfInBounds_toArray,List.set_cons_zero,List.set_cons_succ]
          refine wpAnyH_ready (rs:=[7]) (by kernel_rfl) (by simp) ?_
          refine (AllReadyH.cons (o:=_) rfl (fun K hK=>?_) AllReadyH.nil)
          refine step_da rfl (.tmp 25) (.tmp 30) rfl W6.heap.size (.slice s acc.length cap) acc.length _ (by kernel_rfl) HO3.out Y2.heap.size cc zz ss A2 m2 q2 (by kernel_rfl) HT.out (by have:=HAC.out;omega) HS3.out ?_
          intro g4 c4 Y4 hown4 hg4 hat4
          have hnown:∀ j,j < W6.heap.size→some j ≠ (Value.slice s acc.length cap).ownBlock:=fun j hj e=>by have:=(HO3.out.lt j e.symm).1;omega
          have hkg:Kb (fun j=>W6.heap.size≤j) Y2 Y4:=(Kb.of_below (S:=fun j=>W6.heap.size≤j) (below_alloc Y2 (.cells #[.bool cc,.int .i64 zz,.string ss,.slice A2 m2 q2] 68))).trans ⟨hg4.os,hg4.tape,hg4.output,hg4.size,fun j hj hn=>hg4.block j hj (hnown j (by omega))⟩
          have HN54:=Lib.hid ((hkg.block N5 (Array.getElem?_eq_some_iff.1 HN5.out).1 (by have:=H5L.out;omega)).trans HN5.out)
          have HKG:=Lib.hid hkg
          have HOW4:=Lib.hid hown4
          have HG4:=Lib.hid hg4
          have HAT4:=Lib.hid hat4
          clear hown4 hg4 hat4 hnown hkg
          refine hK.out _ _ (trivial) (fun hHeld=>?_)
          clear hK K
          try simp only [Act.put,List.setIfInBounds_toArray,List.set_cons_zero,List.set_cons_succ]
          (refine wpAnyH_take (i:=8) (oi:=_) (v:=?_) rfl (by kernel_rfl) (by kernel_rfl) (by kernel_rfl) (fun _ _ _ h=>h) (Or.inl ⟨by kernel_rfl,?_⟩) (by assumption) ?_;rotate_left;(focus (intro w hSw;(try dsimp only at hSw);go_simp;(try with_reducible rfl);done));(try simp only [Act.put,List.setIfInBounds_toArray,List.set_cons_zero,List.set_cons_succ]))
          have z3:=(cellH HN54.out 3).trans rfl
          have f3:=frozenH HN54.out 3
          refine wpAnyH_ready (rs:=[9]) (by kernel_rfl) (by simp) ?_
          refine (AllReadyH.cons (o:=_) rfl (fun K hK=>?_) AllReadyH.nil)
          go_simp
          have hsn:=HRO.out.snoc (x2:=x) (v2:=.agg #[.bool cc,.int .i64 zz,.string ss,.slice A2 m2 q2]) (o:=.cells #[.bool cc,.int .i64 zz,.string ss,.slice A2 m2 q2] 68) (Kb.refl _ _) HDA.out HOW4.out HG4.out HAT4.out
          have hput:=blk_put Y4 N5 3 (.slice (some ⟨g4,0,none⟩) (acc.length+1) c4) HN54.out (by show 3 < 4;decide)
          have hkp:Kb (fun j=>j=N5) Y4 (Y4.setCell ⟨N5,3,none⟩ (.slice (some ⟨g4,0,none⟩) (acc.length+1) c4)):=(Kb.refl (fun j=>j=N5) Y4).put (p:=⟨N5,3,none⟩) rfl _
          have HNEW:Hid ((Y4.setCell ⟨N5,3,none⟩ (.slice (some ⟨g4,0,none⟩) (acc.length+1) c4)).heap[N5]?=some (.cells #[.bool true,.int .i64 0,.string nm,.slice (some ⟨g4,0,none⟩) (acc.length+1) c4] 68 (0,0))):=Lib.hid hput
          have HRN2:Hid (RdS L R r' rv' (n':Nat) false (Y4.setCell ⟨N5,3,none⟩ (.slice (some ⟨g4,0,none⟩) (acc.length+1) c4))):=Lib.hid ((HRN'.out.kb HKG.out (fun j _ e=>by have:=HL6.out;omega) (by have:=HRL6.out;omega)).kb hkp (fun j _ e=>by subst e;exact HLN5.out) (fun e=>HR5.out e.symm))
          have HROW:=Lib.hid (hsn.go (fun _ e=>e) (hkp.wider (fun j _ e=>by subst e;exact H5L.out)))
          have HK2:=Lib.hid ((HKR.out.trans (HKG.out.wider (fun _ _ e=>.inr (.inr e)))).trans (hkp.wider (fun _ _ e=>.inr (.inl e))))
          have HLEN:Hid (acc.length+1≤c):=Lib.hid (by have:=HLT.out;omega)
          have HL1:Hid ((acc++[x]).length=acc.length+1):=Lib.hid (by simp)
          clear hput hkp z3 f3 hsn
          generalize (Y4.setCell ⟨N5,3,none⟩ (.slice (some ⟨g4,0,none⟩) (acc.length+1) c4))=Y5 at HNEW HRN2 HROW HK2 ⊢
          refine hK.out _ _ (trivial) (fun hHeld=>?_)
          clear hK K
          try simp only [Act.put,List.setIfInBounds_toArray,List.set_cons_zero,List.set_cons_succ]
          refine wpAnyH_done (by kernel_rfl) ?_ _
          have hac:=HAC.out
          have hlen:=HLEN.out
          go_wp2_with fail
          go_roundw
          case rel=>exact ⟨acc.length+1,HLEN.out,by go_num,HK2,.inl ⟨acc++[x],_,_,_,_,_,_,HL1.out,HNN.out,HROW,by rw [HL1.out];exact HNEW,HRN2,by rw [HL1.out];exact HDS2⟩⟩
          case measure=>have:=HLT.out;simp [intOf];omega
         ·go_simp
          have hbl:=below_alloc Y2 (.cells #[.bool cc,.int .i64 zz,.string ss,.slice A2 m2 q2] 68)
          have HT:=Lib.hid (heap_alloc_new Y2 (.cells #[.bool cc,.int .i64 zz,.string ss,.slice A2 m2 q2] 68))
          have HN5':=Lib.hid ((hbl.block N5 (Array.getElem?_eq_some_iff.1 HN5.out).1).trans HN5.out)
          have hown3:=own_belowN HRO.out.own hbl
          have HS3:Hid (W6.heap.size≤(Y2.alloc (.cells #[.bool cc,.int .i64 zz,.string ss,.slice A2 m2 q2] 68)).heap.size):=Lib.hid (Nat.le_trans HRO.out.keep.size hbl.size)
          have HO3:=Lib.hid hown3
          clear hown3 hbl
          refine hK.out _ _ (trivial) (fun hHeld=>?_)
          clear hK K
          try simp only [Act.put,List.setIfInBounds_toArray,List.set_cons_zero,List.set_cons_succ]
          refine wpAnyH_ready (rs:=[1]) (by kernel_rfl) (by simp) ?_
          refine (AllReadyH.cons (o:=_) rfl (fun K hK=>?_) AllReadyH.nil)
          have x3:=(cellH HN5'.out 3).trans rfl
          go_simp
          clear x3
          refine hK.out _ _ (trivial) (fun hHeld=>?_)
          clear hK K
          try simp only [Act.put,List.setIfInBounds_toArray,List.set_cons_zero,List.set_cons_succ]
          refine wpAnyH_ready (rs:=[7]) (by kernel_rfl) (by simp) ?_
          refine (AllReadyH.cons (o:=_) rfl (fun K hK=>?_) AllReadyH.nil)
          refine step_da rfl (.tmp 25) (.tmp 30) rfl W6.heap.size (.slice s acc.length cap) acc.length _ (by kernel_rfl) HO3.out Y2.heap.size cc zz ss A2 m2 q2 (by kernel_rfl) HT.out (by have:=HAC.out;omega) HS3.out ?_
          intro g4 c4 Y4 hown4 hg4 hat4
          have hnown:∀ j,j < W6.heap.size→some j ≠ (Value.slice s acc.length cap).ownBlock:=fun j hj e=>by have:=(HO3.out.lt j e.symm).1;omega
          have hkg:Kb (fun j=>W6.heap.size≤j) Y2 Y4:=(Kb.of_below (S:=fun j=>W6.heap.size≤j) (below_alloc Y2 (.cells #[.bool cc,.int .i64 zz,.string ss,.slice A2 m2 q2] 68))).trans ⟨hg4.os,hg4.tape,hg4.output,hg4.size,fun j hj hn=>hg4.block j hj (hnown j (by omega))⟩
          have HN54:=Lib.hid ((hkg.block N5 (Array.getElem?_eq_some_iff.1 HN5.out).1 (by have:=H5L.out;omega)).trans HN5.out)
          have HKG:=Lib.hid hkg
          have HOW4:=Lib.hid hown4
          have HG4:=Lib.hid hg4
          have HAT4:=Lib.hid hat4
          clear hown4 hg4 hat4 hnown hkg
          refine hK.out _ _ (trivial) (fun hHeld=>?_)
          clear hK K
          try simp only [Act.put,List.setIfInBounds_toArray,List.set_cons_zero,List.set_cons_succ]
          (refine wpAnyH_take (i:=8) (oi:=_) (v:=?_) rfl (by kernel_rfl) (by kernel_rfl) (by kernel_rfl) (fun _ _ _ h=>h) (Or.inl ⟨by kernel_rfl,?_⟩) (by assumption) ?_;rotate_left;(focus (intro w hSw;(try dsimp only at hSw);go_simp;(try with_reducible rfl);done));(try simp only [Act.put,List.setIfInBounds_toArray,List.set_cons_zero,List.set_cons_succ]))
          have z3:=(cellH HN54.out 3).trans rfl
          have f3:=frozenH HN54.out 3
          refine wpAnyH_ready (rs:=[9]) (by kernel_rfl) (by simp) ?_
          refine (AllReadyH.cons (o:=_) rfl (fun K hK=>?_) AllReadyH.nil)
          go_simp
          have hsn:=HRO.out.snoc (x2:=x) (v2:=.agg #[.bool cc,.int .i64 zz,.string ss,.slice A2 m2 q2]) (o:=.cells #[.bool cc,.int .i64 zz,.string ss,.slice A2 m2 q2] 68) (Kb.refl _ _) HDA.out HOW4.out HG4.out HAT4.out
          have hput:=blk_put Y4 N5 3 (.slice (some ⟨g4,0,none⟩) (acc.length+1) c4) HN54.out (by show 3 < 4;decide)
          have hkp:Kb (fun j=>j=N5) Y4 (Y4.setCell ⟨N5,3,none⟩ (.slice (some ⟨g4,0,none⟩) (acc.length+1) c4)):=(Kb.refl (fun j=>j=N5) Y4).put (p:=⟨N5,3,none⟩) rfl _
          have HNEW:Hid ((Y4.setCell ⟨N5,3,none⟩ (.slice (some ⟨g4,0,none⟩) (acc.length+1) c4)).heap[N5]?=some (.cells #[.bool true,.int .i64 0,.string nm,.slice (some ⟨g4,0,none⟩) (acc.length+1) c4] 68 (0,0))):=Lib.hid hput
          have HRN2:Hid (RdS L R r' rv' (n':Nat) false (Y4.setCell ⟨N5,3,none⟩ (.slice (some ⟨g4,0,none⟩) (acc.length+1) c4))):=Lib.hid ((HRN'.out.kb HKG.out (fun j _ e=>by have:=HL6.out;omega) (by have:=HRL6.out;omega)).kb hkp (fun j _ e=>by subst e;exact HLN5.out) (fun e=>HR5.out e.symm))
          have HROW:=Lib.hid (hsn.go (fun _ e=>e) (hkp.wider (fun j _ e=>by subst e;exact H5L.out)))
          have HK2:=Lib.hid ((HKR.out.trans (HKG.out.wider (fun _ _ e=>.inr (.inr e)))).trans (hkp.wider (fun _ _ e=>.inr (.inl e))))
          have HLEN:Hid (acc.length+1≤c):=Lib.hid (by have:=HLT.out;omega)
          have HL1:Hid ((acc++[x]).length=acc.length+1):=Lib.hid (by simp)
          clear hput hkp z3 f3 hsn
          generalize (Y4.setCell ⟨N5,3,none⟩ (.slice (some ⟨g4,0,none⟩) (acc.length+1) c4))=Y5 at HNEW HRN2 HROW HK2 ⊢
          refine hK.out _ _ (trivial) (fun hHeld=>?_)
          clear hK K
          try simp only [Act.put,List.setIfInBounds_toArray,List.set_cons_zero,List.set_cons_succ]
          refine wpAnyH_done (by kernel_rfl) ?_ _
          have hac:=HAC.out
          have hlen:=HLEN.out
          go_wp2_with fail
          go_roundw
          case rel=>exact ⟨acc.length+1,HLEN.out,by go_num,HK2,.inl ⟨acc++[x],_,_,_,_,_,_,HL1.out,HNN.out,HROW,by rw [HL1.out];exact HNEW,HRN2,by rw [HL1.out];exact HDS2⟩⟩
          case measure=>have:=HLT.out;simp [intOf];omega
      ·have hic:acc.length=c:=by omega
       have hdc:decide (acc.length < c)=false:=by simp;omega
       have hdi:decide ((acc.length:Int) < (c:Int))=false:=by simp;omega
       have HRES:Hid (decsF (dec k) c n r3=some (acc,ri,ni)):=Lib.hid (by
        rw [HDS.out,show c - acc.length=0 by omega]
        simp [decsF,more])
       have HN4:=Lib.hid ((HKR.out.block N4 H4L.out (by have:=H4L.out;have:=HRN.out;have:=HN45.out;omega)).trans HN4.out)
       have HKW:=Lib.hid (HKW.out.trans (HKR.out.wider (fun j _ e=>by
        rcases e with e | e | e
        ·exact .inl e
        ·exact .inr (by have:=HN5W.out;omega)
        ·exact .inr (by have:=HW6W.out;omega))))
       have HHE:=Lib.hid (HRO.out.held (fun _ e=>e))
       clear hi hic
       have d0:=(cellH HN5.out 0).trans rfl
       have d1:=(cellH HN5.out 1).trans rfl
       have d2:=(cellH HN5.out 2).trans rfl
       have d3:=(cellH HN5.out 3).trans rfl
       have e0:=(cellH HN4.out 0).trans rfl
       have e1:=(cellH HN4.out 1).trans rfl
       have e2:=(cellH HN4.out 2).trans rfl
       have e3:=(cellH HN4.out 3).trans rfl
       have g0:=frozenH HN4.out 0
       have g1:=frozenH HN4.out 1
       have g2:=frozenH HN4.out 2
       have g3:=frozenH HN4.out 3
       go_wp2_with fail
       have hp4:=put4 (.bool true) (.int .i64 0) (.string nm) (.slice s acc.length cap) HN4.out
       have hk4:=kput4 wr N4 (.bool true) (.int .i64 0) (.string nm) (.slice s acc.length cap)
       have c0:=(cellH hp4 0).trans rfl
       have c1:=(cellH hp4 1).trans rfl
       have c2:=(cellH hp4 2).trans rfl
       have c3:=(cellH hp4 3).trans rfl
       exact bodyPost_ret (v:=.agg #[.bool true,.int .i64 0,.string nm,.slice s acc.length cap]) (by simp [results,Tryd.results96,go_sem,c0,c1,c2,c3]) rfl (by
        unfold OutP
        refine ⟨fin_kb HKW.out (Nat.le_of_eq HNE.out) hk4,.inr ⟨.mk true 0 nm acc,ri,ni,_,_,HSTR.out acc ri ni HRES.out,rfl,?_,HRD.out.kb hk4 (fun _ _ e=>e ▸ HLN.out) HRN.out,HNB.out⟩⟩
        exact daE_row (RowW.step DaE.step _ _ _ _ _ _ HHE.out (hk4.wider (fun j _ e=>by subst e;exact H4L.out)) (fun j _ e=>by have:=HW6W.out;show j < W6.heap.size;omega)))
     ·by_cases hlt:i < c
      ·have hdc:decide (i < c)=true:=by simpa using hlt
       have hdi:decide ((i:Int) < (c:Int))=true:=by simp;omega
       obtain ⟨rvq,hq⟩:=HRF.out
       have b2:=(cellH hq.box 2).trans rfl
       clear hq
       have HN4:=Lib.hid ((HKR.out.block N4 H4L.out (by have:=H4L.out;have:=HRN.out;have:=HN45.out;omega)).trans HN4.out)
       have HKW:=Lib.hid (HKW.out.trans (HKR.out.wider (fun j _ e=>by
        rcases e with e | e | e
        ·exact .inl e
        ·exact .inr (by have:=HN5W.out;omega)
        ·exact .inr (by have:=HW6W.out;omega))))
       have d0:=(cellH HN5.out 0).trans rfl
       have d1:=(cellH HN5.out 1).trans rfl
       have d2:=(cellH HN5.out 2).trans rfl
       have d3:=(cellH HN5.out 3).trans rfl
       have e0:=(cellH HN4.out 0).trans rfl
       have e1:=(cellH HN4.out 1).trans rfl
       have e2:=(cellH HN4.out 2).trans rfl
       have e3:=(cellH HN4.out 3).trans rfl
       have g0:=frozenH HN4.out 0
       have g1:=frozenH HN4.out 1
       have g2:=frozenH HN4.out 2
       have g3:=frozenH HN4.out 3
       go_wp2_with fail
       have hp4:=put4 (.bool true) (.int .i64 0) (.string nm) (.slice A5 m5 q5) HN4.out
       have hk4:=kput4 wr N4 (.bool true) (.int .i64 0) (.string nm) (.slice A5 m5 q5)
       have c0:=(cellH hp4 0).trans rfl
       have c1:=(cellH hp4 1).trans rfl
       have c2:=(cellH hp4 2).trans rfl
       have c3:=(cellH hp4 3).trans rfl
       exact bodyPost_ret (v:=.agg #[.bool true,.int .i64 0,.string nm,.slice A5 m5 q5]) (by simp [results,Tryd.results96,go_sem,c0,c1,c2,c3]) rfl (by unfold OutP;exact ⟨fin_kb HKW.out (Nat.le_of_eq HNE.out) hk4,.inl ⟨HSTN.out HDS.out,⟨_,_,_,_,_,_,rfl⟩,_,refd_put HRF.out hk4 HLN.out HRN.out⟩⟩)
      ·have hdc:decide (i < c)=false:=by simpa using hlt
       have hdi:decide ((i:Int) < (c:Int))=false:=by simp;omega
       have HN4:=Lib.hid ((HKR.out.block N4 H4L.out (by have:=H4L.out;have:=HRN.out;have:=HN45.out;omega)).trans HN4.out)
       have HKW:=Lib.hid (HKW.out.trans (HKR.out.wider (fun j _ e=>by
        rcases e with e | e | e
        ·exact .inl e
        ·exact .inr (by have:=HN5W.out;omega)
        ·exact .inr (by have:=HW6W.out;omega))))
       have d0:=(cellH HN5.out 0).trans rfl
       have d1:=(cellH HN5.out 1).trans rfl
       have d2:=(cellH HN5.out 2).trans rfl
       have d3:=(cellH HN5.out 3).trans rfl
       have e0:=(cellH HN4.out 0).trans rfl
       have e1:=(cellH HN4.out 1).trans rfl
       have e2:=(cellH HN4.out 2).trans rfl
       have e3:=(cellH HN4.out 3).trans rfl
       have g0:=frozenH HN4.out 0
       have g1:=frozenH HN4.out 1
       have g2:=frozenH HN4.out 2
       have g3:=frozenH HN4.out 3
       go_wp2_with fail
       have hp4:=put4 (.bool true) (.int .i64 0) (.string nm) (.slice A5 m5 q5) HN4.out
       have hk4:=kput4 wr N4 (.bool true) (.int .i64 0) (.string nm) (.slice A5 m5 q5)
       have c0:=(cellH hp4 0).trans rfl
       have c1:=(cellH hp4 1).trans rfl
       have c2:=(cellH hp4 2).trans rfl
       have c3:=(cellH hp4 3).trans rfl
       exact bodyPost_ret (v:=.agg #[.bool true,.int .i64 0,.string nm,.slice A5 m5 q5]) (by simp [results,Tryd.results96,go_sem,c0,c1,c2,c3]) rfl (by unfold OutP;exact ⟨fin_kb HKW.out (Nat.le_of_eq HNE.out) hk4,.inl ⟨HSTN.out HDS.out,⟨_,_,_,_,_,_,rfl⟩,_,refd_put HRF.out hk4 HLN.out HRN.out⟩⟩)
   ·have hd8:decide (c≤8)=false:=by simpa using hc8
    have HC9:Hid (0 < c):=Lib.hid (by omega)
    have HNO:Hid (strD (dec k) n (b :: r2)=none):=Lib.hid (by
     rw [strD,if_pos HBC.out,HRX.out,HCONS.out]
     show (if a.toNat≤8 then _ else none)=_
     rw [HCN.out,if_neg hc8])
    rw [hd8]
    clear hc8 hd8
    go_wp2_with fail
    try go_at_call 93
    refine (refuse_any L R _ _ n _ _ H6.out).mono ?_
    rintro e WW ⟨rfl,hrd8,hk8⟩
    have HRF:Hid (Refd L R n WW):=Lib.hid ⟨_,hrd8⟩
    have HN4:=Lib.hid ((hk8.block N4 (Array.getElem?_eq_some_iff.1 HN4.out).1 (fun e=>HRN.out e.symm)).trans HN4.out)
    have HN5:=Lib.hid ((hk8.block N5 (Array.getElem?_eq_some_iff.1 HN5.out).1 HR5.out).trans HN5.out)
    have HKW:=Lib.hid (HKW.out.trans (hk8.wider (fun _ _ e=>.inl e)))
    have HB2:=Lib.hid hrd8.box
    have hd0:decide (0 < c)=true:=by have:=HC9.out;simp;omega
    have hd1:decide ((0:Int) < (c:Int))=true:=by have:=HC9.out;simp;omega
    clear hk8 hrd8
    go_wp2_with fail
    go_loopw [18] (fun t wr=>t=.int .i64 0∧wr=WW) (fun _ _=>0)
    case atStart=>exact ⟨rfl,rfl⟩
    case round =>
     obtain ⟨rfl,rfl⟩:=hrel
     have b2:=(cellH HB2.out 2).trans rfl
     have d0:=(cellH HN5.out 0).trans rfl
     have d1:=(cellH HN5.out 1).trans rfl
     have d2:=(cellH HN5.out 2).trans rfl
     have d3:=(cellH HN5.out 3).trans rfl
     have e0:=(cellH HN4.out 0).trans rfl
     have e1:=(cellH HN4.out 1).trans rfl
     have e2:=(cellH HN4.out 2).trans rfl
     have e3:=(cellH HN4.out 3).trans rfl
     have g0:=frozenH HN4.out 0
     have g1:=frozenH HN4.out 1
     have g2:=frozenH HN4.out 2
     have g3:=frozenH HN4.out 3
     go_wp2_with fail
     have hp4:=put4 (.bool true) (.int .i64 0) (.string nm) (.slice none 0 0) HN4.out
     have hk4:=kput4 wr N4 (.bool true) (.int .i64 0) (.string nm) (.slice none 0 0)
     have c0:=(cellH hp4 0).trans rfl
     have c1:=(cellH hp4 1).trans rfl
     have c2:=(cellH hp4 2).trans rfl
     have c3:=(cellH hp4 3).trans rfl
     exact bodyPost_ret (v:=.agg #[.bool true,.int .i64 0,.string nm,.slice none 0 0]) (by simp [results,Tryd.results96,go_sem,c0,c1,c2,c3]) rfl (by unfold OutP;exact ⟨fin_kb HKW.out (Nat.le_of_eq HNE.out) hk4,.inl ⟨HNO.out,⟨_,_,_,_,_,_,rfl⟩,_,refd_put HRF.out hk4 HLN.out HRN.out⟩⟩)
end Lx
end Go.Proofs.YtnpacamcgifabaaDoor
