/- The contract of the reference's Source at every text, for its Item's contract: the items and 0, or none and the error's number. No conditions. -/
import Derived.Test.YtajomoclbpobhaaGreatDoorRdr2
import Derived.Test.YtajomoclbpobhaaGreatDoorRdlA
namespace Go.Proofs.YtajomoclbpobhaaGreatDoor
set_option linter.unusedSimpArgs false
set_option linter.unusedVariables false
namespace Lx
open Go Go.RowKit
abbrev srcG:List Tok→Out (List ItemT):=fun ts=>sourceO ts 0 0
theorem PFr.jump {n B:Nat} {w x y:World} (hn:n=w.heap.size) (h:PFr n w x) (h2:PFr B x y) (hB:n≤B):PFr n w y :=
 ⟨h2.os.trans h.os,h2.tape.trans h.tape,h2.output.trans h.output,Nat.le_trans h.size h2.size,fun k hk hk2=>(h2.block k (Nat.lt_of_lt_of_le hk h.size) (by omega)).trans (h.block k hk hk2)⟩
theorem below_of_pfrN {w x:World} (h:PFr w.heap.size w x):Below w.heap.size w x :=
 ⟨h.os,h.tape,h.output,h.size,fun k hk=>h.block k hk (Nat.ne_of_lt hk)⟩
/-- What the end makes of what was read. -/
def endF {α:Type} (ts:List Tok) (x:α) (k:Nat):Out α:=if k < ts.length then .no 2 else .ok x k
theorem srcLoop_in {ts:List Tok} {m k:Nat} {acc:List ItemT} (hk:k < ts.length) (hn:acc.length ≠ 512):srcLoop ts 0 (m+1) k acc=bindO (itemO ts 0 k) (fun x k1=>bindO (expO ts k1 [46]) (fun _ k2=>srcLoop ts 0 m k2 (acc++[x]))):=by
 rw [srcLoop,if_pos hk,if_neg hn]
 cases itemO ts 0 k with
 | no i=>rfl
 | ok x k1 =>
  show _=bindO (expO ts k1 [46]) _
  dsimp only
  cases expO ts k1 [46] <;> rfl
theorem srcLoop_many {ts:List Tok} {m k:Nat} {acc:List ItemT} (hk:k < ts.length) (hn:acc.length=512):srcLoop ts 0 (m+1) k acc=.no 1:=by
 rw [srcLoop,if_pos hk,if_pos hn]
theorem srcLoop_out {ts:List Tok} {m k:Nat} {acc:List ItemT} (hk:¬ k < ts.length):srcLoop ts 0 (m+1) k acc=.ok acc k:=by
 rw [srcLoop,if_neg hk]
/-- What the loop holds. -/
structure SrI (B:Nat) (A:Option Addr) (c:Nat) (ts:List Tok) (OT:Out (List ItemT)) (wB wr:World) (s:Option Addr) (cap n k:Nat) (er:Int):Prop where
 wd:Rd wr B A c ts k er
 le:k≤ts.length
 fr:PFr B wB wr
 cont:Cont OT er (∃ acc vs g m,n=acc.length∧RowH 33 20 ItemV wB.heap.size wr s cap acc vs g∧n≤512∧ts.length < k+m∧bindO (srcLoop ts 0 m k acc) (endF ts)=OT)
/-- What the reference's reading of a whole text returns. -/
def PartR {α:Type} (V:Holds α) (zero:Value) (w w':World) (v:Value) (n:Int):Out α→Prop
 | .no i=>v=zero∧n=erN i
 | .ok x _=>n=0∧V x v w.heap.size w'.heap.size w'
theorem sri_next {B:Nat} {A:Option Addr} {c:Nat} {ts:List Tok} {OT:Out (List ItemT)} {wB wr w4 w6 w7:World} {s:Option Addr} {cap k k0 m:Nat} {acc:List ItemT} {vs:List Value} {g:Nat} {er0:Int} (h0:Rd wB B A c ts k0 er0)
  (h:SrI B A c ts OT wB wr s cap acc.length k 0) (hrow:RowH 33 20 ItemV wB.heap.size wr s cap acc vs g) (hf4:PFr B wr w4) {v2:Value} {k4 k7 lo4 g2 cap2:Nat} {er4 er7:Int} (hp4:Rd w4 B A c ts k4 er4) (hlo:wr.heap.size≤lo4)
  {o:Obj} (hown:w6.ownsRow wB.heap.size 33 20 (.slice (some ⟨g2,0,none⟩) (acc.length+1) cap2) (acc.length+1) (vs.flatMap cellsL++cellsL v2)) (hg:(w4.alloc o).grownBy w6 (Value.slice s acc.length cap).ownBlock) (hat:(Value.slice s acc.length cap).ownBlock=some g2 ∨ g2=(w4.alloc o).heap.size)
  (hf7:PFr B w6 w7) (hp7:Rd w7 B A c ts k7 er7) (hk7:k7≤ts.length) (hacc:acc.length < 512) (hc:Cont OT er7 ((∃ x,ItemV x v2 lo4 w4.heap.size w4∧k < k7∧bindO (srcLoop ts 0 m k7 (acc++[x])) (endF ts)=OT))) (hfu:ts.length < k+(m+1)) :
  SrI B A c ts OT wB w7 (some ⟨g2,0,none⟩) cap2 (acc.length+1) k7 er7:=by
 have hb:=h0.lt
 obtain ⟨q1,q2,q3,q4⟩:=hrow.grow (w:=wB) hb h.fr.size (Nat.le_refl _) h.fr hf4 hg
 refine ⟨hp7,hk7,q1.trans hf7,hc.imp ?_⟩
 rintro ⟨x,h1,h2,h3⟩
 have hr6:=hrow.snoc ItemV.stable hb h.fr.size hf4 hlo h1 hown hg hat
 have hlen:(acc++[x]).length=acc.length+1:=by simp
 exact ⟨acc++[x],vs++[v2],g2,m,hlen.symm,hr6.fr ItemV.stable hb hf7,by omega,by omega,h3⟩
theorem sri_rd6 {B:Nat} {A:Option Addr} {c:Nat} {ts:List Tok} {OT:Out (List ItemT)} {wB wr w4 w6:World} {s:Option Addr} {cap k k0:Nat} {acc:List ItemT} {vs:List Value} {g:Nat} {er0:Int} (h0:Rd wB B A c ts k0 er0)
  (h:SrI B A c ts OT wB wr s cap acc.length k 0) (hrow:RowH 33 20 ItemV wB.heap.size wr s cap acc vs g) (hf4:PFr B wr w4) {k4:Nat} {er4:Int} (hp4:Rd w4 B A c ts k4 er4) {o:Obj} (hg:(w4.alloc o).grownBy w6 (Value.slice s acc.length cap).ownBlock):Rd w6 B A c ts k4 er4:=by
 have hb:=h0.lt
 obtain ⟨q1,q2,q3,q4⟩:=hrow.grow (w:=wB) hb h.fr.size (Nat.le_refl _) h.fr hf4 hg
 exact h0.move q1 ((q4 B hb).trans hp4.blk) hp4.near hp4.nest0 hp4.nest1
theorem infoIt3:(Tryz.prog.info? 33).map (fun i=>(i.zero,i.size,i.bytes))=some (some (.agg #[.int .i64 0,.string ⟨#[]⟩,.slice none 0 0,.slice none 0 0,.slice none 0 0,.slice none 0 0,.int .i64 0,.slice none 0 0,.int .i64 0,.int .i64 0,.string ⟨#[]⟩,.int .i64 0,.slice none 0 0,.int .i64 0,.string ⟨#[]⟩,.int .i64 0,.slice none 0 0,.string ⟨#[]⟩,.slice none 0 0,.slice none 0 0]),20,336):=by kernel_rfl
set_option maxRecDepth 100000 in
set_option maxHeartbeats 8000000 in
theorem rsource_any (HITEM:Hid (∀ (b:Nat) (A:Option Addr) (c:Nat) (ts:List Tok),WF ts→GenC 58 #[.pointer (some ⟨b,0,none⟩)] b A c ts ItemV ShIt (itemO ts 0))) (s:ByteArray) (w:World) :
  Calls Tryz.prog 28 #[.string s] w fun e w'=>∃ v n,e=.returned (.tuple #[v,.int .i64 n])∧Below w.heap.size w w'∧PartR (ArgsV 33 20 ItemV) (.slice none 0 0) w w' v n (textO srcG s):=by
 have HL:=Lib.hid (rread_any s w)
 obtain ⟨OT,hOT⟩:∃ OT,OT=textO srcG s:=⟨_,rfl⟩
 obtain ⟨i0,hi,hz0,hz1,hz2⟩:=info_parts infoIt3
 have HI0:=Lib.hid hi
 have HI1:=Lib.hid hz0
 have HI2:=Lib.hid hz1
 have HI3:=Lib.hid hz2
 clear hi hz0 hz1 hz2
 rw [← hOT]
 go_enter Tryz.func28,Tryz.ntmps28
 go_wp2_with fail
 go_at_call 55
 refine HL.out.mono ?_
 rintro e w1 ⟨B,A,c,ts,er,rfl,hB,hp1,hb1,hwf,hc1⟩
 have hc2:=hc1 srcG
 rw [← hOT] at hc2
 have hfw:=hp1.few
 have HIG:=Lib.hid (HITEM.out B A c ts hwf)
 have HWF:=Lib.hid hwf
 have HB:=Lib.hid hB
 have HSB:Hid (w.heap.size≤w1.heap.size):=Lib.hid hb1.size
 have HB1:Hid (B < w1.heap.size):=Lib.hid hp1.lt
 have HP1:=Lib.hid hp1
 have HFB:=Lib.hid (pfr_of_below hb1)
 have HST:Hid (SrI B A c ts OT w1 (w1.alloc (.cells #[] 33)) (some ⟨w1.heap.size,0,none⟩) 0 0 0 er):=Lib.hid ⟨hp1.alloc _,Nat.zero_le _,(PFr.refl _ _).alloc _,hc2.imp (fun h =>
  ⟨[],[],w1.heap.size,ts.length+1,rfl,⟨.inr rfl,World.ownsRow_made w1 #[] 0 (Nat.le_refl _) (by unfold maxLen;omega) rfl,trivial⟩,Nat.zero_le _,by omega,h⟩)⟩
 clear hp1 hb1 hc1 hc2 hwf HL HITEM hOT hB
 go_wp2_with fail
 go_loopw [5] (fun v wr=>∃ s cap n k er,v=.slice s n cap∧Hid (SrI B A c ts OT w1 wr s cap n k er)) (fun _ wr=>meas ts.length B wr)
 case atStart=>exact ⟨_,0,0,_,_,rfl,HST⟩
 case round =>
  obtain ⟨s,cap,n,k,er,rfl,hI⟩:=hrel
  have HI:=hI
  clear hI HST
  have HE:=Lib.hid (rend_any wr B A c ts k er HI.out.wd)
  cases hd:doneB ts k er with
  | true =>
   rw [hd] at HE
   have hde:doneE ts k er=er:=by
    unfold doneE
    refine if_neg (fun q=>?_)
    obtain ⟨rfl,q2⟩:=q
    rw [doneB_in q2] at hd
    cases hd
   have HDE:=Lib.hid hd
   clear hd
   go_wp2_with fail
   go_at_call 56
   refine HE.out.mono ?_
   rintro e w2 ⟨rfl,q,rfl⟩
   have HDN:=Lib.hid (rdone_any _ B A c ts k er (HI.out.wd.drewN q))
   rw [hde] at HDN
   go_wp2_with fail
   go_at_call 60
   refine HDN.out.mono ?_
   rintro e w3 ⟨rfl,hp3,hf3⟩
   have HP3:=Lib.hid hp3
   have HF3:=Lib.hid hf3
   have HFW:=Lib.hid (PFr.jump rfl HFB.out ((HI.out.fr.drewN q).trans hf3) HB.out)
   clear hf3 HE HDN hde
   by_cases hz:er=0
   ·subst hz
    have hkl:¬ k < ts.length:=fun h=>by
     have:=HDE.out
     rw [doneB_in h] at this
     cases this
    clear hp3
    go_wp2_with fail
    go_ret2
    exact ⟨_,_,rfl,below_of_pfrN HFW.out,by
     obtain ⟨acc,vs,g,m,hn,hrow,_,hfu,hO⟩:=HI.out.cont.ok
     obtain ⟨m,rfl⟩:∃ q,m=q+1:=⟨m - 1,by have:=HI.out.le;omega⟩
     rw [srcLoop_out hkl] at hO
     have hO2:endF ts acc k=OT:=hO
     unfold endF at hO2
     rw [if_neg hkl] at hO2
     rw [← hO2]
     refine ⟨rfl,?_⟩
     have hr:=hrow.fr ItemV.stable HB1.out (((PFr.refl B wr).drewN q).trans HF3.out)
     rw [hn]
     exact hr.held.wide HSB.out (Nat.le_refl _)⟩
   ·have hne:(er != 0)=true:=by simpa using hz
    have c2:=hp3.c2
    obtain ⟨i,he,hO⟩:=HI.out.cont.err hz
    have HEI:=Lib.hid he
    have HOI:=Lib.hid hO
    clear hp3 hz he hO
    go_wp2
    go_quiet (fail)
    go_wp2
    go_ret2
    refine ⟨_,_,rfl,below_of_pfrN (HFW.out.drewN _),?_⟩
    rw [HOI.out]
    exact ⟨rfl,HEI.out⟩
  | false =>
   rw [hd] at HE
   obtain ⟨rfl,hkl⟩:er=0∧k < ts.length:=by
    by_cases h:er=0
    ·subst h
     refine ⟨rfl,?_⟩
     rcases Nat.lt_or_ge k ts.length with h1 | h1
     ·exact h1
     ·rw [doneB_out h1] at hd
      cases hd
    ·rw [doneB_err h] at hd
     cases hd
   obtain ⟨acc,vs,g,m,rfl,hrow,hn5,hfu,hO⟩:=HI.out.cont.ok
   obtain ⟨m,rfl⟩:∃ q,m=q+1:=⟨m - 1,by omega⟩
   have HROW:=Lib.hid hrow
   have HFU:=Lib.hid hfu
   clear hd hrow hfu
   by_cases h5:acc.length=512
   ·rw [srcLoop_many hkl h5] at hO
    have HOI:Hid (OT=.no 1):=Lib.hid hO.symm
    have hq5:((acc.length:Int) == 512)=true:=by simp;omega
    clear hO hn5
    go_wp2_with fail
    go_at_call 56
    refine HE.out.mono ?_
    rintro e w2 ⟨rfl,q,rfl⟩
    have HFL:=Lib.hid (rfail_any _ B A c ts k 0 4 (HI.out.wd.drewN q) (by decide) (by decide))
    rw [show failE 0 4=4 from rfl] at HFL
    go_wp2_with fail
    go_at_call 57
    refine HFL.out.mono ?_
    rintro e w3 ⟨rfl,hp3,hf3⟩
    have HDN:=Lib.hid (rdone_any _ B A c ts k 4 hp3)
    rw [show doneE ts k 4=4 by unfold doneE;exact if_neg (fun q=>by omega)] at HDN
    have HF3:=Lib.hid ((HI.out.fr.drewN q).trans hf3)
    clear hp3 hf3 HE HFL
    go_wp2_with fail
    go_at_call 60
    refine HDN.out.mono ?_
    rintro e w4 ⟨rfl,hp4,hf4⟩
    have c2:=hp4.c2
    have HFW:=Lib.hid (PFr.jump rfl HFB.out (HF3.out.trans hf4) HB.out)
    clear hp4 hf4 HDN
    go_wp2
    go_quiet (fail)
    go_wp2
    go_ret2
    refine ⟨_,_,rfl,below_of_pfrN (HFW.out.drewN _),?_⟩
    rw [HOI.out]
    exact ⟨rfl,rfl⟩
   ·rw [srcLoop_in hkl h5,bindO_assoc] at hO
    have hq5:((acc.length:Int) == 512)=false:=by simp;omega
    have HH5:Hid (acc.length < 512):=Lib.hid (by omega)
    have hfew:acc.length≤512:=hn5
    have HO:=Lib.hid hO
    have HKL:=Lib.hid hkl
    clear hO hn5 h5 hkl
    go_wp2_with fail
    go_at_call 56
    refine HE.out.mono ?_
    rintro e w2 ⟨rfl,q,rfl⟩
    have HIT:=Lib.hid (HIG.out.cont (itemO_fwd ts 0) ItemV.sh (HI.out.wd.drewN q) HI.out.le (.inl ⟨rfl,HO.out⟩))
    go_wp2_with fail
    go_at_call 58
    refine HIT.out.mono ?_
    rintro e w4 ⟨v4,k4,er4,rfl,⟨i1,i2,i3,i4,i5,i6,i7,i8,i9,ia,ib,ic,id,ie,ig,ih,ii,ij,z1,z2,z3,z4,z5,z6,z7,z8,z9,za,zb,zc,zd,ze,zf,zg,zh,zi,zj,zk,rfl⟩,hk4,hp4,hf4,hc4⟩
    obtain ⟨x4,hc4⟩:=Cont.pull ⟨0,[],[],[],[],[],0,[],zeroG⟩ hc4
    have HP4:=Lib.hid hp4
    have HF4:=Lib.hid (((PFr.refl B wr).drewN q).trans hf4)
    have HC4:=Lib.hid hc4
    have HK4:=Lib.hid hk4
    have HO4:=Lib.hid (own_fr HROW.out.own HF4.out HB1.out)
    have hW4:w1.heap.size≤w4.heap.size:=Nat.le_trans HI.out.fr.size HF4.out.size
    clear hp4 hf4 hc4 hk4 HIT HE
    go_wp2_with (at_builtin;refine wpList_append_lies _ rfl _ _ 44 rfl w1.heap.size 33 i0 (.agg #[.int .i64 0,.string ⟨#[]⟩,.slice none 0 0,.slice none 0 0,.slice none 0 0,.slice none 0 0,.int .i64 0,.slice none 0 0,.int .i64 0,.int .i64 0,.string ⟨#[]⟩,.int .i64 0,.slice none 0 0,.int .i64 0,.string ⟨#[]⟩,.int .i64 0,.slice none 0 0,.string ⟨#[]⟩,.slice none 0 0,.slice none 0 0]) 20 336 Tryz.underlying44 HI0.out HI1.out HI2.out HI3.out rfl (by decide) _ _ _ rfl (HO4.out.alloc _) ⟨w4.heap.size,0,none⟩ 1 1 [.int .i64 i1,.string i2,.slice i3 i4 i5,.slice i6 i7 i8,.slice i9 ia ib,.slice ic id ie,.int .i64 ig,.slice ih ii ij,.int .i64 z1,.int .i64 z2,.string z3,.int .i64 z4,.slice z5 z6 z7,.int .i64 z8,.string z9,.int .i64 za,.slice zb zc zd,.string ze,.slice zf zg zh,.slice zi zj zk] rfl rfl (cells_new _ #[.int .i64 i1,.string i2,.slice i3 i4 i5,.slice i6 i7 i8,.slice i9 ia ib,.slice ic id ie,.int .i64 ig,.slice ih ii ij,.int .i64 z1,.int .i64 z2,.string z3,.int .i64 z4,.slice z5 z6 z7,.int .i64 z8,.string z9,.int .i64 za,.slice zb zc zd,.string ze,.slice zf zg zh,.slice zi zj zk] _ _ rfl) (by simp [Value.oneCell']) (by decide) (by unfold maxLen;omega) (by omega) (by simp;omega) _ rfl ?_;intro g2 cap2 w6 hown6 hg6 hat6 _;have HOWN6:=Lib.hid hown6;have HG6:=Lib.hid hg6;have HAT6:=Lib.hid hat6;clear hown6 hg6 hat6)
    have HP6:=Lib.hid (sri_rd6 HP1.out HI.out HROW.out HF4.out HP4.out HG6.out)
    have HND:=Lib.hid (rneed_contQ HWF.out ⟨#[46]⟩ kw_dot HP6.out HK4.out (HC4.out.imp (fun q=>(by have h:=q.2.2;rw [bindO_assoc] at h;exact ⟨⟨q.1,q.2.1⟩,h⟩:(_∧k < k4)∧bindO (expO ts k4 [46]) (fun _ k2=>bindO (srcLoop ts 0 m k2 (acc++[x4])) (endF ts))=OT))))
    go_at_call 59
    refine HND.out.mono ?_
    rintro e w7 ⟨k7,er7,rfl,hk7,hp7,hf7,hc7⟩
    have HSN:=Lib.hid (sri_next HP1.out HI.out HROW.out HF4.out HP4.out (show wr.heap.size≤(wr.drewN q).heap.size from Nat.le_refl _) HOWN6.out HG6.out HAT6.out hf7 hp7 hk7 HH5.out (hc7.imp (fun q=>⟨x4,q.1.1,Nat.lt_trans q.1.2 q.2.1,q.2.2⟩)) HFU.out)
    have HP7:=Lib.hid hp7
    have HC7:=Lib.hid hc7
    have HK7:=Lib.hid hk7
    clear hp7 hf7 hc7 hk7 HND
    go_wp2_with fail
    go_roundw
    case rel=>exact ⟨_,cap2,_,_,_,rfl,HSN⟩
    case measure =>
     rw [meas_on HI.out.wd]
     rcases HC7.out with ⟨rfl,⟨_,h5⟩,h6,_⟩ | ⟨i,rfl,_⟩
     ·rw [meas_on HP7.out]
      have h7:=HK7.out
      omega
     ·rw [meas_off HP7.out (erN_ne i)]
      omega
end Lx
end Go.Proofs.YtajomoclbpobhaaGreatDoor
