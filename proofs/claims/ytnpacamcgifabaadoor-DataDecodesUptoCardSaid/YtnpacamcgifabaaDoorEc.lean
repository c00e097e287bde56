/- The reference's get: a structure, given what get is one level down. Conditions: as each states. -/
import Derived.Test.YtnpacamcgifabaaDoorEa
namespace Go.Proofs.YtnpacamcgifabaaDoor
set_option linter.unusedSimpArgs false
set_option linter.unusedVariables false
namespace Lx
open Go Go.RowKit
set_option maxRecDepth 100000 in
/-- 'append(own, data)'. -/
theorem append_da {w:World} {ops:Array Oper} {rest:List Oper} {o:Oper} {a:Act} {Q:Exit→Act→World→Prop} (hgd:o.guard=none) (s x:Operand)
  (ho:o.op=.call { callee:=.builtin .append,args:=#[s,x],argTypes:=#[66,66] })
  (base:Nat) (v:Value) (n:Nat) (xs:List Value) (hs:a.eval s=v) (hown:w.ownsRow base 68 4 v n xs) (B:Nat) (k:Bool) (z:Int) (y:ByteArray) (A:Option Addr) (l c:Nat) (hx:a.eval x=.slice (some ⟨B,0,none⟩) 1 1) (hB:w.heap[B]?=some (.cells #[.bool k,.int .i64 z,.string y,.slice A l c] 68 (0,0))) (hn:n≤2000000) (hbase:base≤w.heap.size)
  (h:∀ g c' w',w'.ownsRow base 68 4 (.slice (some ⟨g,0,none⟩) (n+1) c') (n+1) (xs++[.bool k,.int .i64 z,.string y,.slice A l c])→w.grownBy w' v.ownBlock→(v.ownBlock=some g ∨ g=w.heap.size)→wpList Tryd.prog ops Q rest (a.put o.dst (.slice (some ⟨g,0,none⟩) (n+1) c')) w'):wpList Tryd.prog ops Q (o :: rest) a w:=by
 obtain ⟨i0,hi,hz0,hz1,hz2⟩:=info_parts infoDa
 exact wpList_append_lies w hgd s x _ ho base _ i0 _ 4 56 Tryd.underlying66 hi hz0 hz1 hz2 rfl (by decide) v n xs hs hown ⟨B,0,none⟩ 1 1 [.bool k,.int .i64 z,.string y,.slice A l c] hx rfl (World.news_of_block (cs:=#[.bool k,.int .i64 z,.string y,.slice A l c]) hB) (by simp [Value.oneCell'])
  (by omega) (by unfold maxLen;omega) (by omega) hbase _ rfl (fun g cap w' h2 h3 h4 _=>h g cap w' h2 h3 h4)
theorem run_mid (g o len cap i y:Nat) (W:World) (h:i+y≤cap) (h2:i < cap):(Instr.slice 64 (.slice (some ⟨g,o,none⟩) len cap) (some (.int .i64 (i:Int))) (some (.int .i64 ((i+y:Nat):Int))) none).run Tryd.prog W=.ok (.slice (some ⟨g,o+i,none⟩) y (cap - i)) W:=by
 rw [run_slice_lh W 64 (some ⟨g,o,none⟩) len cap elB .i64 .i64 i ((i+y:Nat):Int) (by omega) (by omega) (by omega),sizeB]
 simp only [Result.andThen,sliced,Int.toNat_natCast]
 rw [show i+y - i=y by omega,if_neg (by omega)]
 simp [addr_add]
theorem mid_text {Vol:Nat→Prop} {l:List UInt8} {g o c:Nat} {w:World} (h:RowW 1 ByH Vol l (.slice (some ⟨g,o,none⟩) l.length c) w) (i y q:Nat) (hi:i+y≤l.length):(convert 64 9 (.slice (some ⟨g,o+i,none⟩) y q)).run Tryd.prog w=.ok (.string (bs ((l.drop i).take y))) w:=by
 have hlen:((l.drop i).take y).length=y:=by rw [List.length_take,List.length_drop];omega
 have h1:=run_convert_bytes_back w 64 9 5 ⟨g,o+i,none⟩ q ((l.drop i).take y) Tryd.underlying64 Tryd.underlying5 Tryd.underlying9 (fun j hj=>by
  obtain ⟨b,off,e,_,_,hc⟩:=By.at h (i+j) (by omega)
  injection e with e
  injection e with e1 e2
  subst e1 e2
  rw [addr_add,Nat.add_assoc,hc]
  simp)
 rw [hlen] at h1
 exact h1
theorem cap_le {Vol:Nat→Prop} {l:List UInt8} {A:Option Addr} {c:Nat} {w:World} (h:RowW 1 ByH Vol l (.slice A l.length c) w):l.length≤c:=by
 obtain ⟨A',c',e,h1,_,_⟩:=h
 injection e with _ _ e3
 omega
def moreG (acc:List DaT) (o:Option (List DaT × List UInt8)):Option (List DaT × List UInt8):=match o with
 | none=>none
 | some (l,r)=>some (acc++l,r)
theorem moreG_none {f:List UInt8→Option (DaT × List UInt8)} {acc:List DaT} {c:Nat} {r:List UInt8} (h:f r=none):moreG acc (getsF f (c+1) r)=none:=by rw [getsF,h];rfl
theorem moreG_some {f:List UInt8→Option (DaT × List UInt8)} {acc:List DaT} {c:Nat} {r r1:List UInt8} {x:DaT} (h:f r=some (x,r1)):moreG acc (getsF f (c+1) r)=moreG (acc++[x]) (getsF f c r1):=by
 rw [getsF,h]
 show moreG acc (match getsF f c r1 with | none=>none | some (l,r2)=>some (x :: l,r2))=_
 cases getsF f c r1 with
 | none=>rfl
 | some p =>
  obtain ⟨l,r2⟩:=p
  simp [moreG]
set_option maxRecDepth 100000 in
set_option maxHeartbeats 8000000 in
theorem get_str (k:Nat) (HC:Hid (GetC k)) (B:Nat) (l:List UInt8) (v:Value) (w:World) (i dp y z:Nat) (h:RowW 1 ByH (fun j=>B≤j) l v w) (hB:B≤w.heap.size) (hl:l.length≤1000000000000) (hi:i < l.length) (hdp:dp+1+k=201)
  (ht:l[i]=1) (h1:i+1 < l.length) (hy:l[i+1].toNat=y) (hy1:1≤y) (hy2:y≤32) (h2:i+2+y < l.length) (hz:l[i+2+y].toNat=z) (hz8:z≤8) :
  Calls Tryd.prog 73 #[v,.int .i64 i,.int .i64 dp] w (GetR ((getsF (getP k) z (l.drop (i+y+3))).map fun p=>(.mk true 0 (bs ((l.drop (i+2)).take y)) p.1,p.2)) l.length w):=by
 obtain ⟨A,c,rfl⟩:=h.slice
 have hnew:=(heap_alloc_new w (.cells #[.bool false,.int .i64 0,.string ⟨#[]⟩,.slice none 0 0] 68))
 have hbl:=(below_alloc w (.cells #[.bool false,.int .i64 0,.string ⟨#[]⟩,.slice none 0 0] 68))
 have HROW:Hid (RowW 1 ByH (fun j=>B≤j) l (.slice A l.length c) (w.alloc (.cells #[.bool false,.int .i64 0,.string ⟨#[]⟩,.slice none 0 0] 68))):=Lib.hid (RowW.step ByH.step _ _ _ _ _ _ h (Kb.of_below (S:=fun j=>B≤j) hbl) (fun _ _ e=>e))
 have hd1:decide ((200:Int) < (dp:Int))=false:=decN (by omega)
 have hd2:decide (l.length≤i)=false:=by simpa using hi
 have hd3:decide ((l.length:Int) - (i:Int) < (2:Int))=false:=decN (by omega)
 have hd4:decide ((y:Int) < (1:Int))=false:=decN (by omega)
 have hd5:decide ((32:Int) < (y:Int))=false:=decN (by omega)
 have hd6:decide ((l.length:Int) - (i:Int) < (y:Int)+3)=false:=decN (by omega)
 have hd7:decide ((8:Int) < (z:Int))=false:=decN (by omega)
 obtain ⟨g,o,rfl,hg,_,hc⟩:=By.at HROW.out i hi
 obtain ⟨g2,o2,e2,_,_,hc2⟩:=By.at HROW.out (i+1) h1
 obtain ⟨g3,o3,e3,_,_,hc3⟩:=By.at HROW.out (i+2+y) h2
 injection e2 with e2
 injection e2 with e4 e5
 subst e4 e5
 injection e3 with e3
 injection e3 with e4 e5
 subst e4 e5
 rw [ht] at hc
 rw [hy] at hc2
 rw [hz] at hc3
 have hcap:=cap_le HROW.out
 have hmid:=run_mid g o l.length c (i+2) y (w.alloc (.cells #[.bool false,.int .i64 0,.string ⟨#[]⟩,.slice none 0 0] 68)) (by omega) (by omega)
 have htxt:=mid_text HROW.out (i+2) y (c - (i+2)) (by omega)
 rw [show ((i+2+y:Nat):Int)=(i:Int)+2+(y:Int) by omega,show ((i+2:Nat):Int)=(i:Int)+2 by omega] at hmid
 generalize hnm:bs ((l.drop (i+2)).take y)=nm at htxt ⊢
 have HNM:=Lib.hid hnm
 have HT:=Lib.hid ht
 have HY:=Lib.hid hy
 have HZ:=Lib.hid hz
 have hb2:=below_alloc (w.alloc (.cells #[.bool false,.int .i64 0,.string ⟨#[]⟩,.slice none 0 0] 68)) (.cells #[.bool true,.int .i64 0,.string nm,.slice none 0 0] 68)
 have HROW0:Hid (RowW 1 ByH (fun j=>B≤j) l (.slice (some ⟨g,o,none⟩) l.length c) w):=Lib.hid h
 have HB0:=Lib.hid ((hb2.block _ (Array.getElem?_eq_some_iff.1 hnew).1).trans hnew)
 have hn1:=heap_alloc_new (w.alloc (.cells #[.bool false,.int .i64 0,.string ⟨#[]⟩,.slice none 0 0] 68)) (.cells #[.bool true,.int .i64 0,.string nm,.slice none 0 0] 68)
 rw [show (w.alloc (.cells #[.bool false,.int .i64 0,.string ⟨#[]⟩,.slice none 0 0] 68)).heap.size=w.heap.size+1 by simp] at hn1
 have HN1:=Lib.hid hn1
 have HBW:=Lib.hid (hbl.trans (hb2.mono (by simp)))
 have HROW6:=Lib.hid (RowW.step ByH.step _ _ _ _ _ _ HROW.out (Kb.of_below (S:=fun j=>B≤j) hb2) (fun _ _ e=>e))
 have HSZ6:Hid (((w.alloc (.cells #[.bool false,.int .i64 0,.string ⟨#[]⟩,.slice none 0 0] 68)).alloc (.cells #[.bool true,.int .i64 0,.string nm,.slice none 0 0] 68)).heap.size=w.heap.size+2):=Lib.hid (by simp)
 clear hnm hnew hbl h ht hy hz hb2 hn1
 go_enter Tryd.func73,Tryd.ntmps73
 go_wp2_with fail
 clear hmid htxt hc hc2 hc3 hd1 hd2 hd3 hd4 hd5 hd6 hd7 HROW
 generalize ((w.alloc (.cells #[.bool false,.int .i64 0,.string ⟨#[]⟩,.slice none 0 0] 68)).alloc (.cells #[.bool true,.int .i64 0,.string nm,.slice none 0 0] 68))=W6 at HB0 HN1 HBW HROW6 HSZ6 ⊢
 obtain ⟨N0,hN0⟩:∃ N0,w.heap.size=N0:=⟨_,rfl⟩
 have HNE:=Lib.hid hN0
 rw [hN0] at HB0 HN1 HSZ6 hB ⊢
 obtain ⟨N1,hN1⟩:∃ N1,N0+1=N1:=⟨_,rfl⟩
 have HNE1:=Lib.hid hN1
 rw [hN1] at HN1 ⊢
 clear hN0 hN1 hg
 have H2:=Lib.hid h2
 have HL:=Lib.hid hl
 have HBB:=Lib.hid hB
 have HDP:=Lib.hid hdp
 have HI:Hid (i+y+3≤l.length):=Lib.hid (by omega)
 have HZ8:=Lib.hid hz8
 clear HT HY
 clear hdp hB h1 hi hy1 hz8
 go_loopw [12,13] (fun t u wr=>∃ (nx:Nat) (acc:List DaT) (vs:List Value) (s:Option Addr) (cap:Nat),acc.length≤z∧nx≤l.length∧t=.int .i64 nx∧u=.int .i64 acc.length∧Hid (Below w.heap.size w wr)∧Hid (wr.heap[N0]?=some (.cells #[.bool false,.int .i64 0,.string ⟨#[]⟩,.slice none 0 0] 68 (0,0))) ∧
   Hid (wr.heap[N1]?=some (.cells #[.bool true,.int .i64 0,.string nm,.slice s acc.length cap] 68 (0,0)))∧Hid (RowD (fun j=>j < W6.heap.size) W6 wr s cap acc vs) ∧
   Hid (getsF (getP k) z (l.drop (i+y+3))=moreG acc (getsF (getP k) (z - acc.length) (l.drop nx)))) (fun _ u _=>z - (intOf u).toNat)
 case atStart=>exact ⟨i+y+3,[],[],none,0,Nat.zero_le _,HI.out,by rfl,rfl,HBW,HB0,HN1,Lib.hid (RowD.start _ _),Lib.hid (by
  show _=moreG [] (getsF (getP k) z (l.drop (i+y+3)))
  cases getsF (getP k) z (l.drop (i+y+3)) with
  | none=>rfl
  | some p=>rfl)⟩
 case round =>
  obtain ⟨nx,acc,vs,s,cap,haz,hnx,rfl,rfl,HBW,HB0,HN1,HRO,HDS⟩:=hrel
  have HNX:=Lib.hid hnx
  have HAZ:=Lib.hid haz
  have HKB:Hid (Kb (fun j=>B≤j) w wr):=Lib.hid ⟨HBW.out.os,HBW.out.tape,HBW.out.output,HBW.out.size,fun j hj _=>HBW.out.block j hj⟩
  have HROWR:=Lib.hid (RowW.step ByH.step _ _ _ _ _ _ HROW0.out HKB.out (fun _ _ e=>e))
  have hc3:wr.cell? ⟨g,o+(i+2+y),none⟩=some (.int .u8 (z:Nat)):=by
   obtain ⟨g3,o3,e3,_,_,hc3⟩:=By.at HROWR.out (i+2+y) h2
   injection e3 with e3
   injection e3 with e4 e5
   subst e4 e5
   rw [HZ.out] at hc3
   exact hc3
  have HSZR:Hid (N0+2≤wr.heap.size):=Lib.hid (by have:=HRO.out.keep.size;have:=HSZ6.out;omega)
  clear hnx haz
  have hz8:=HZ8.out
  by_cases hlt:acc.length < z
  ·have hdt:decide (acc.length < z)=true:=by simpa using hlt
   have HLT:=Lib.hid hlt
   have hdp2:IntKind.i64.wrap ((dp:Int)+1)=(dp:Int)+1:=by rw [IntKind.wrap_i64];have:=HDP.out;omega
   clear hlt
   go_wp2_with fail
   try go_at_call 73
   have hnewr:=heap_alloc_new wr (.cells #[.bool false,.int .i64 0,.string ⟨#[]⟩,.slice none 0 0] 68)
   have hbr:=below_alloc wr (.cells #[.bool false,.int .i64 0,.string ⟨#[]⟩,.slice none 0 0] 68)
   have hcall:=HC.out B l _ (wr.alloc (.cells #[.bool false,.int .i64 0,.string ⟨#[]⟩,.slice none 0 0] 68)) nx (dp+1) (RowW.step ByH.step _ _ _ _ _ _ HROWR.out (Kb.of_below (S:=fun j=>B≤j) hbr) (fun _ _ e=>e)) (by have:=HSZR.out;have:=HBB.out;simp;omega) HL.out HNX.out HDP.out
   rw [show ((dp+1:Nat):Int)=(dp:Int)+1 from rfl] at hcall
   with_reducible refine hcall.mono ?_
   rintro e W3 ⟨hk,⟨hnone,rfl⟩ | ⟨x,r,vx,hsome,hr,rfl,hda⟩⟩
   all_goals
    have HTB:=Lib.hid ((hk.block _ (Array.getElem?_eq_some_iff.1 hnewr).1).trans hnewr)
    have hb3:=hbr.trans (hk.mono hbr.size)
    have HB3:=Lib.hid hb3
    have HB0:=Lib.hid ((hb3.block _ (Array.getElem?_eq_some_iff.1 HB0.out).1).trans HB0.out)
    have HN1:=Lib.hid ((hb3.block _ (Array.getElem?_eq_some_iff.1 HN1.out).1).trans HN1.out)
    clear hk hcall hnewr hbr hb3 hc3
    obtain ⟨NT,hNT⟩:∃ NT,wr.heap.size=NT:=⟨_,rfl⟩
    have HNT:=Lib.hid hNT
    rw [hNT] at HTB ⊢
    clear hNT
    have q0:=(cellH HTB.out 0).trans rfl
    have q1:=(cellH HTB.out 1).trans rfl
    have q2:=(cellH HTB.out 2).trans rfl
    have q3:=(cellH HTB.out 3).trans rfl
    have t0:=frozenH HTB.out 0
    have t1:=frozenH HTB.out 1
    have t2:=frozenH HTB.out 2
    have t3:=frozenH HTB.out 3
   ·unfold zeroD
    go_upto_region 22 with fail
    have hp4:=put4 (.bool false) (.int .i64 0) (.string ⟨#[]⟩) (.slice none 0 0) HTB.out
    have hk4:=kput4 W3 NT (.bool false) (.int .i64 0) (.string ⟨#[]⟩) (.slice none 0 0)
    have HB4:=Lib.hid (HB3.out.trans (hk4.below (B:=wr.heap.size) HB3.out.size (fun j e=>by have:=HNT.out;omega)))
    have HB0:=Lib.hid ((hk4.block N0 (Array.getElem?_eq_some_iff.1 HB0.out).1 (by have:=HNT.out;have:=HSZR.out;omega)).trans HB0.out)
    clear hp4 hk4 t0 t1 t2 t3 q0 q1 q2 q3
    generalize ((((W3.setCell ⟨NT,0,none⟩ (.bool false)).setCell ⟨NT,1,none⟩ (.int .i64 0)).setCell ⟨NT,2,none⟩ (.string ⟨#[]⟩)).setCell ⟨NT,3,none⟩ (.slice none 0 0))=W4 at HB4 HB0 ⊢
    have k0:=(cellH HB0.out 0).trans rfl
    have k1:=(cellH HB0.out 1).trans rfl
    have k2:=(cellH HB0.out 2).trans rfl
    have k3:=(cellH HB0.out 3).trans rfl
    have f0:=frozenH HB0.out 0
    have f1:=frozenH HB0.out 1
    have f2:=frozenH HB0.out 2
    have f3:=frozenH HB0.out 3
    go_wp2_with fail
    have hp4:=put4 (.bool false) (.int .i64 0) (.string ⟨#[]⟩) (.slice none 0 0) HB0.out
    have hk4:=kput4 W4 N0 (.bool false) (.int .i64 0) (.string ⟨#[]⟩) (.slice none 0 0)
    have hb4:=hk4.below (B:=N0) (by have:=HSZR.out;have:=HB4.out.size;omega) (fun j e=>by omega)
    have c0:=(cellH hp4 0).trans rfl
    have c1:=(cellH hp4 1).trans rfl
    have c2:=(cellH hp4 2).trans rfl
    have c3:=(cellH hp4 3).trans rfl
    have hno:(getsF (getP k) z (l.drop (i+y+3))).map (fun p=>(DaT.mk true 0 nm p.1,p.2))=none:=by
     rw [HDS.out,show z - acc.length=(z - acc.length - 1)+1 by have:=HLT.out;omega,moreG_none hnone]
     rfl
    exact bodyPost_ret (v:=.tuple #[zeroD,.int .i64 (-1)]) (by simp [results,Tryd.results73,go_sem,c0,c1,c2,c3,zeroD]) rfl (by unfold GetR;exact ⟨(HBW.out.trans (HB4.out.mono HBW.out.size)).trans (by rw [HNE.out];exact hb4),.inl ⟨hno,rfl⟩⟩)
   ·obtain ⟨A2,m2,r2,hve⟩:=hda.this
    obtain ⟨cc,hcc⟩:∃ cc,x.ctor=cc:=⟨_,rfl⟩
    obtain ⟨zz,hzz⟩:∃ zz,x.int=zz:=⟨_,rfl⟩
    obtain ⟨ss,hss⟩:∃ ss,x.name=ss:=⟨_,rfl⟩
    rw [hcc,hzz,hss] at hve
    subst hve
    clear hcc hzz hss
    have HDA:=Lib.hid hda
    have HSOME:=Lib.hid hsome
    have HR:=Lib.hid hr
    obtain ⟨ny,hny⟩:∃ ny,l.length - r.length=ny:=⟨_,rfl⟩
    have HNY:=Lib.hid hny
    rw [hny]
    have hnyl:ny≤1000000000000:=by have:=HL.out;omega
    clear hda hsome hr hny
    go_upto_region 22 with fail
    have HT4:=Lib.hid (put4 (.bool cc) (.int .i64 zz) (.string ss) (.slice A2 m2 r2) HTB.out)
    have hk4:=kput4 W3 NT (.bool cc) (.int .i64 zz) (.string ss) (.slice A2 m2 r2)
    have HK4:=Lib.hid hk4
    have HB4:=Lib.hid (HB3.out.trans (hk4.below (B:=wr.heap.size) HB3.out.size (fun j e=>by have:=HNT.out;omega)))
    have HB0:=Lib.hid ((hk4.block N0 (Array.getElem?_eq_some_iff.1 HB0.out).1 (by have:=HNT.out;have:=HSZR.out;omega)).trans HB0.out)
    have HN1:=Lib.hid ((hk4.block N1 (Array.getElem?_eq_some_iff.1 HN1.out).1 (by have:=HNT.out;have:=HSZR.out;have:=HNE1.out;omega)).trans HN1.out)
    clear hk4 t0 t1 t2 t3 q0 q1 q2 q3
    generalize ((((W3.setCell ⟨NT,0,none⟩ (.bool cc)).setCell ⟨NT,1,none⟩ (.int .i64 zz)).setCell ⟨NT,2,none⟩ (.string ss)).setCell ⟨NT,3,none⟩ (.slice A2 m2 r2))=W4 at HB4 HB0 HN1 HT4 HK4 ⊢
    have b0:=(cellH HT4.out 0).trans rfl
    have b1:=(cellH HT4.out 1).trans rfl
    have b2:=(cellH HT4.out 2).trans rfl
    have b3:=(cellH HT4.out 3).trans rfl
    have n3:=(cellH HN1.out 3).trans rfl
    have m3:=frozenH HN1.out 3
    go_upto_region 24 with fail
    have HRO4:=Lib.hid (HRO.out.go (fun _ e=>e) (Kb.of_below HB4.out))
    have HDA4:Hid (DaE (fun j=>j < W6.heap.size ∨ s=some ⟨j,0,none⟩) x (.agg #[.bool cc,.int .i64 zz,.string ss,.slice A2 m2 r2]) W4):=Lib.hid (DaE.step _ _ _ _ _ _ HDA.out (HK4.out.wider (fun j _ e=>by have:=HNT.out;simp;omega)) (fun j _ e=>by
     have h2:=HRO.out.keep.size
     simp
     rcases e with e | e
     ·omega
     ·have:=(HRO.out.own.lt j (by rw [e];rfl)).2
      omega))
    have HO5:=Lib.hid (own_belowN HRO4.out.own (below_alloc W4 (.cells #[.bool cc,.int .i64 zz,.string ss,.slice A2 m2 r2] 68)))
    have HS5:Hid (W6.heap.size≤(W4.alloc (.cells #[.bool cc,.int .i64 zz,.string ss,.slice A2 m2 r2] 68)).heap.size):=Lib.hid (by have:=HRO4.out.keep.size;simp;omega)
    have hnown:∀ j,j < W6.heap.size→some j ≠ (Value.slice s acc.length cap).ownBlock:=fun j hj e=>by have:=(HO5.out.lt j e.symm).1;omega
    have HNOWN:=Lib.hid hnown
    have HN16:Hid (N1 < W6.heap.size):=Lib.hid (by have:=HSZ6.out;have:=HNE1.out;omega)
    have HN06:Hid (N0 < W6.heap.size):=Lib.hid (by have:=HSZ6.out;omega)
    have HN15:=Lib.hid (((below_alloc W4 (.cells #[.bool cc,.int .i64 zz,.string ss,.slice A2 m2 r2] 68)).block N1 (Array.getElem?_eq_some_iff.1 HN1.out).1).trans HN1.out)
    have HB05:=Lib.hid (((below_alloc W4 (.cells #[.bool cc,.int .i64 zz,.string ss,.slice A2 m2 r2] 68)).block N0 (Array.getElem?_eq_some_iff.1 HB0.out).1).trans HB0.out)
    clear hnown
    go_wp2_with (at_builtin;refine append_da rfl _ _ rfl W6.heap.size (.slice s acc.length cap) acc.length _ rfl HO5.out W4.heap.size cc zz ss A2 m2 r2 rfl (heap_alloc_new W4 _) (by have:=HLT.out;have:=HZ8.out;omega) HS5.out ?_;intro g4 c4 W5 hown5 hg5 hat5;have HOW5:=Lib.hid hown5;have HG5:=Lib.hid hg5;have HAT5:=Lib.hid hat5;have HN17:=Lib.hid ((hg5.block N1 (Array.getElem?_eq_some_iff.1 HN15.out).1 (HNOWN.out N1 HN16.out)).trans HN15.out);clear hown5 hg5 hat5 n3 m3 b0 b1 b2 b3;have z3:=(cellH HN17.out 3).trans rfl;have y3:=frozenH HN17.out 3)
    have hsn:=HRO4.out.snoc (x2:=x) (v2:=.agg #[.bool cc,.int .i64 zz,.string ss,.slice A2 m2 r2]) (o:=.cells #[.bool cc,.int .i64 zz,.string ss,.slice A2 m2 r2] 68) (Kb.refl _ _) HDA4.out HOW5.out HG5.out HAT5.out
    have hput:=blk_put W5 N1 3 (.slice (some ⟨g4,0,none⟩) (acc.length+1) c4) HN17.out (by show 3 < 4;decide)
    have hkp:Kb (fun j=>j=N1) W5 (W5.setCell ⟨N1,3,none⟩ (.slice (some ⟨g4,0,none⟩) (acc.length+1) c4)):=(Kb.refl (fun j=>j=N1) W5).put (p:=⟨N1,3,none⟩) rfl _
    have HDS2:Hid (getsF (getP k) z (l.drop (i+y+3))=moreG (acc++[x]) (getsF (getP k) (z - (acc++[x]).length) (l.drop ny))):=Lib.hid (by
     have hlen:(acc++[x]).length=acc.length+1:=by simp
     have hr:=drop_behind (get_back k _ x r HSOME.out).1
     rw [HNY.out] at hr
     rw [hr,HDS.out,hlen,show z - acc.length=(z - (acc.length+1))+1 by have:=HLT.out;omega]
     exact moreG_some HSOME.out)
    have hlen:(acc++[x]).length=acc.length+1:=by simp
    have hb6:Below w.heap.size w (W5.setCell ⟨N1,3,none⟩ (.slice (some ⟨g4,0,none⟩) (acc.length+1) c4)):=by
     have h1:=HBW.out.trans (HB4.out.mono HBW.out.size)
     have h2:Below w.heap.size w W5:=below_grownB (h1.alloc (by exact h1.size) (.cells #[.bool cc,.int .i64 zz,.string ss,.slice A2 m2 r2] 68)) HG5.out (fun k e=>by have:=(HO5.out.lt k e).1;have:=HSZ6.out;have:=HNE.out;omega) (by have:=h1.size;simp;omega)
     exact h2.trans (hkp.below (B:=w.heap.size) h2.size (fun j e=>by have:=HNE.out;have:=HNE1.out;omega))
    have hb0:(W5.setCell ⟨N1,3,none⟩ (.slice (some ⟨g4,0,none⟩) (acc.length+1) c4)).heap[N0]?=some (.cells #[.bool false,.int .i64 0,.string ⟨#[]⟩,.slice none 0 0] 68 (0,0)):=by
     have h1:=(HG5.out.block N0 (Array.getElem?_eq_some_iff.1 HB05.out).1 (HNOWN.out N0 HN06.out)).trans HB05.out
     exact (hkp.block N0 (Array.getElem?_eq_some_iff.1 h1).1 (by have:=HNE1.out;omega)).trans h1
    refine ⟨⟨ny,acc++[x],_,_,c4,by rw [hlen];exact HLT.out,by have:=HNY.out;omega,rfl,by rw [hlen,show wrap64 ((acc.length:Int)+1)=((acc.length+1:Nat):Int) by have:=HLT.out;have:=HZ8.out;unfold wrap64;omega],Lib.hid hb6,Lib.hid hb0,Lib.hid (by rw [hlen];exact hput),Lib.hid (hsn.go (fun _ e=>e) (hkp.wider (fun j _ e=>by subst e;exact HN16.out))),HDS2⟩,?_⟩
    have:=HLT.out
    have:=HZ8.out
    rw [show wrap64 ((acc.length:Int)+1)=((acc.length+1:Nat):Int) by unfold wrap64;omega]
    simp [intOf]
    omega
  ·have hzz:acc.length=z:=by have:=HAZ.out;omega
   have hdt:decide (acc.length < z)=false:=by simpa using hlt
   have e0:=(cellH HN1.out 0).trans rfl
   have e1:=(cellH HN1.out 1).trans rfl
   have e2:=(cellH HN1.out 2).trans rfl
   have e3:=(cellH HN1.out 3).trans rfl
   have k0:=(cellH HB0.out 0).trans rfl
   have k1:=(cellH HB0.out 1).trans rfl
   have k2:=(cellH HB0.out 2).trans rfl
   have k3:=(cellH HB0.out 3).trans rfl
   have f0:=frozenH HB0.out 0
   have f1:=frozenH HB0.out 1
   have f2:=frozenH HB0.out 2
   have f3:=frozenH HB0.out 3
   have HZZ:=Lib.hid hzz
   clear hzz hlt
   go_wp2_with fail
   have hp4:=put4 (.bool true) (.int .i64 0) (.string nm) (.slice s acc.length cap) HB0.out
   have hk4:=kput4 wr N0 (.bool true) (.int .i64 0) (.string nm) (.slice s acc.length cap)
   have c0:=(cellH hp4 0).trans rfl
   have c1:=(cellH hp4 1).trans rfl
   have c2:=(cellH hp4 2).trans rfl
   have c3:=(cellH hp4 3).trans rfl
   have hb4:=hk4.below (B:=N0) (by have:=HSZR.out;omega) (fun j e=>by omega)
   have hfin:Below w.heap.size w ((((wr.setCell ⟨N0,0,none⟩ (.bool true)).setCell ⟨N0,1,none⟩ (.int .i64 0)).setCell ⟨N0,2,none⟩ (.string nm)).setCell ⟨N0,3,none⟩ (.slice s acc.length cap)):=HBW.out.trans (by rw [HNE.out];exact hb4)
   have hrow:=HRO.out.held (fun _ e=>e)
   have hda:=daE_row (c:=true) (n:=0) (s:=nm) hrow
   have hda2:=DaE.step _ (fun j=>j < w.heap.size) _ _ _ _ hda (hk4.wider (fun j _ e=>by have:=HSZ6.out;show j < W6.heap.size;omega)) (fun j _ e=>by have:=HSZ6.out;have:=HNE.out;show j < W6.heap.size;omega)
   have hok:(getsF (getP k) z (l.drop (i+y+3))).map (fun p=>(DaT.mk true 0 nm p.1,p.2))=some (DaT.mk true 0 nm acc,l.drop nx):=by
    rw [HDS.out,show z - acc.length=0 by have:=HZZ.out;omega,getsF]
    simp [moreG]
   have hlen:(l.drop nx).length=l.length - nx:=List.length_drop
   exact bodyPost_ret (v:=.tuple #[.agg #[.bool true,.int .i64 0,.string nm,.slice s acc.length cap],.int .i64 (nx:Int)]) (by simp [results,Tryd.results73,go_sem,c0,c1,c2,c3]) rfl (by unfold GetR;exact ⟨hfin,.inr ⟨_,_,_,hok,by omega,by rw [hlen,show l.length - (l.length - nx)=nx by have:=HNX.out;omega],hda2⟩⟩)
end Lx
end Go.Proofs.YtnpacamcgifabaaDoor
