/- The contract of package parse's row at api.Goal, for whatever reading the function it is handed has: the row of what is read, or the panic. Conditions: the parser's block is its own; at most 16384 tokens. -/
/- The contract of package parse's row at api.Goal, for whatever reading the function it is handed has: the row of what is read, or the panic. Conditions: the parser's block is its own; at most 16384 tokens. -/
/- How a goal is held in cells: its terms, its arguments and its goals in rows; and that a deeper count of rows holds it as well. No conditions. -/
/- The contract of package parse's joined: the goals of a row as one goal. Conditions: the row holds one goal at least. -/
import Derived.Test.YtiljemkglhloeaaGreatDoorParTerm
namespace Go.Proofs.YtiljemkglhloeaaGreatDoor
set_option linter.unusedSimpArgs false
set_option linter.unusedVariables false
namespace Lx
open Go Go.RowKit
inductive GoalT where
 | mk:Int→TermT→TermT→List UInt8→List TermT→List GoalT→GoalT
def ThisGo (V:Holds GoalT):Prop:=∀ x v lo hi w,V x v lo hi w→∃ z1 z2 z3 z4 z5 z6 z7 z8 z9 za zb zc zd ze zf zg zh zi zj zk,v=.agg #[.int .i64 z1,.int .i64 z2,.string z3,.int .i64 z4,.slice z5 z6 z7,.int .i64 z8,.string z9,.int .i64 za,.slice zb zc zd,.string ze,.slice zf zg zh,.slice zi zj zk]
theorem infoGo:(Tryz.prog.info? 31).map (fun i=>(i.zero,i.size,i.bytes))=some (some (.agg #[.int .i64 0,.int .i64 0,.string ⟨#[]⟩,.int .i64 0,.slice none 0 0,.int .i64 0,.string ⟨#[]⟩,.int .i64 0,.slice none 0 0,.string ⟨#[]⟩,.slice none 0 0,.slice none 0 0]),12,184):=by kernel_rfl
/-- The row as the loop holds it. -/
structure RowGo (V:Holds GoalT) (rd:Nat→Out GoalT) (mark:List UInt8) (most:Nat) (O:Out (List GoalT)) (w:World) (b:Nat) (A:Option Addr) (c:Nat) (ts:List Tok) (ne:Int) (v:Value) (wr:World) (m k:Nat) (acc:List GoalT) (vs:List Value) (g cap:Nat):Prop where
 out:rowLoop rd ts mark most m k acc=O
 fuel:ts.length < k+m
 le:k≤ts.length
 few:acc.length≤k
 val:v=.slice (some ⟨g,0,none⟩) acc.length cap
 own:wr.ownsRow w.heap.size 31 12 v acc.length (vs.flatMap cellsL)
 items:Items V w.heap.size wr.heap.size g wr acc vs
 par:Par wr b A c ts k ne
 fr:PFr b w wr
theorem RowGo.next {V:Holds GoalT} (hV:Stable V) {rd:Nat→Out GoalT} {mark:List UInt8} {most:Nat} {O:Out (List GoalT)} {w:World} {b:Nat} {A:Option Addr} {c:Nat} {ts:List Tok} {ne:Int} {v:Value} {wr:World} {m k:Nat} {acc:List GoalT} {vs:List Value} {g cap:Nat}
  (h:RowGo V rd mark most O w b A c ts ne v wr m k acc vs g cap) {k0:Nat} (h0:Par w b A c ts k0 ne) {x2:GoalT} {v2:Value} {k2 m2:Nat} {w4 w6:World} {o:Obj} {lo4 g2 cap2:Nat}
  (hout:rowLoop rd ts mark most m2 k2 (acc++[x2])=O) (hfu:ts.length < k2+m2) (hk:k < k2) (hk4:k2≤ts.length) (hf4:PFr b wr w4) (hp4:Par w4 b A c ts k2 ne) (hlo:wr.heap.size≤lo4) (hv4:V x2 v2 lo4 w4.heap.size w4)
  (hown:w6.ownsRow w.heap.size 31 12 (.slice (some ⟨g2,0,none⟩) (acc.length+1) cap2) (acc.length+1) (vs.flatMap cellsL++cellsL v2)) (hg:(w4.alloc o).grownBy w6 v.ownBlock) (hat:v.ownBlock=some g2 ∨ g2=(w4.alloc o).heap.size) :
  RowGo V rd mark most O w b A c ts ne (.slice (some ⟨g2,0,none⟩) (acc++[x2]).length cap2) w6 m2 k2 (acc++[x2]) (vs++[v2]) g2 cap2:=by
 have hvb:v.ownBlock=some g:=by rw [h.val];rfl
 have hgl:=h.own.lt g hvb
 rw [hvb] at hg hat
 have hbw:=h0.lt
 have hfr:PFr b w w6:=((h.fr.trans hf4).alloc o).grown hg (fun j hj=>by have:=Option.some.inj hj;omega)
 have hs6:w4.heap.size≤w6.heap.size:=by have:=hg.size;simp at this;omega
 have hblk:∀ j,j < w4.heap.size→j ≠ g→w6.heap[j]?=w4.heap[j]?:=fun j hj hn=>(hg.block j (by simp;omega) (fun e=>hn (Option.some.inj e))).trans (Below.heap_alloc w4 o j hj)
 have hlen:(acc++[x2]).length=acc.length+1:=by simp
 refine ⟨hout,hfu,hk4,?_,rfl,?_,?_,?_,hfr⟩
 ·have:=h.few;rw [hlen];omega
 ·rw [hlen,flat_snoc];exact hown
 ·have i1:=Items.fr hV hf4 hbw h.items
  have i2:=Items.snoc (x:=x2) (v:=v2) ⟨lo4,w4.heap.size,by have:=h.fr.size;omega,Nat.le_refl _,by omega,hv4⟩ i1
  exact Items.step hV (fun j _ j2 j3=>hblk j j2 j3) hs6 (by rcases hat with e | e;exact .inl (Option.some.inj e).symm;exact .inr (by rw [e];simp)) i2
 ·exact h0.move hfr ((hblk b hp4.lt (by omega)).trans hp4.blk) hp4.near hp4.nest0 hp4.nest1
set_option maxRecDepth 100000 in
set_option maxHeartbeats 2000000 in
theorem rowGo_any (b:Nat) (A:Option Addr) (c:Nat) (ts:List Tok) (ne:Int) (f:Nat→Addr) (V:Holds GoalT) (hV:Stable V) (hT:ThisGo V) (rd:Nat→Out GoalT) (hrd:Fwd ts rd) (mark:ByteArray) (most:Nat) (hmk:mark.data.toList ≠ [])
  (HR:Hid (∀ w k,Par w b A c ts k ne→PErrs w b f→k≤ts.length→Calls Tryz.prog 184 #[.pointer (some ⟨b,0,none⟩)] w fun e w'=>EndsV b A c ts ne f V w (rd k) e w'))
  (w:World) (k:Nat) (h:Par w b A c ts k ne) (hE:PErrs w b f) (hk:k≤ts.length) :
  Calls Tryz.prog 169 #[.pointer (some ⟨b,0,none⟩),.string mark,.int .i64 most,.func (.func 184) #[.pointer (some ⟨b,0,none⟩)] #[]] w fun e w'=>EndsV b A c ts ne f (RowV 31 12 V) w (rowO rd ts mark.data.toList most k) e w':=by
 have HP:=Lib.hid h
 have HE:=Lib.hid hE
 have hfw:=h.few
 have HMK:=Lib.hid hmk
 have HFW:=Lib.hid hrd
 unfold rowO
 have HC:=Lib.hid (HR.out w k h hE hk)
 clear h hE hrd
 obtain ⟨i0,hi,hz0,hz1,hz2⟩:=info_parts infoGo
 have HI0:=Lib.hid hi
 have HI1:=Lib.hid hz0
 have HI2:=Lib.hid hz1
 have HI3:=Lib.hid hz2
 clear hi hz0 hz1 hz2
 cases hr:rd k with
 | no i =>
  rw [hr] at HC
  go_enter Tryz.func169,Tryz.ntmps169
  go_wp2_with (go_at_call 184;refine HC.out.mono ?_;rintro e w1 ⟨rfl,h2,h3⟩)
  exact ⟨rfl,rfl,h2,h3⟩
 | ok x k' =>
  rw [hr] at HC
  obtain ⟨hk1,hk2⟩:=HFW.out _ _ _ hr
  show Calls _ _ _ _ fun e w'=>EndsV b A c ts ne f (RowV 31 12 V) w (rowLoop rd ts mark.data.toList most (ts.length+1) k' [x]) e w'
  have hO:rowLoop rd ts mark.data.toList most (ts.length+1) k' [x]=rowLoop rd ts mark.data.toList most (ts.length+1) k' [x]:=rfl
  generalize hOO:rowLoop rd ts mark.data.toList most (ts.length+1) k' [x]=O at hO ⊢
  clear hO
  have HO:=Lib.hid hOO
  clear hOO
  go_enter Tryz.func169,Tryz.ntmps169
  go_wp2_with (go_at_call 184;refine HC.out.mono ?_;rintro e w1 ⟨v,rfl,hv,hp1,hf1⟩;obtain ⟨p1,p2,p3,p4,p5,p6,p7,p8,p9,pa,pb,pc,pd,pe,pf,pg,ph,pi,pj,pk,rfl⟩:=hT _ _ _ _ _ hv)
  have hst:RowGo V rd mark.data.toList most O w b A c ts ne (.slice (some ⟨w1.heap.size,0,none⟩) 1 1) (w1.alloc (.cells #[.int .i64 p1,.int .i64 p2,.string p3,.int .i64 p4,.slice p5 p6 p7,.int .i64 p8,.string p9,.int .i64 pa,.slice pb pc pd,.string pe,.slice pf pg ph,.slice pi pj pk] 31)) (ts.length+1) k' [x] [.agg #[.int .i64 p1,.int .i64 p2,.string p3,.int .i64 p4,.slice p5 p6 p7,.int .i64 p8,.string p9,.int .i64 pa,.slice pb pc pd,.string pe,.slice pf pg ph,.slice pi pj pk]] w1.heap.size 1:=by
   refine ⟨HO.out,by omega,hk2,by simp;omega,rfl,World.ownsRow_lit w1 _ 1 hf1.size (by decide) rfl,?_,hp1.alloc _,hf1.alloc _⟩
   refine ⟨⟨w.heap.size,w1.heap.size,Nat.le_refl _,by simp,by omega,?_⟩,trivial⟩
   exact hV _ _ _ _ _ _ hv (fun j _ hj=>Below.heap_alloc w1 _ j hj)
  have HS:=Lib.hid hst
  clear hst hv hp1 hf1 HC HO
  go_loopw [9] (fun v wr=>∃ m k acc vs g cap,v=.slice (some ⟨g,0,none⟩) acc.length cap∧Hid (RowGo V rd mark.data.toList most O w b A c ts ne v wr m k acc vs g cap)) (fun _ wr=>ts.length - (intOf ((wr.cell? ⟨b,1,none⟩).getD undef)).toNat)
  case atStart=>exact ⟨_,_,_,_,_,_,rfl,HS⟩
  case round =>
   obtain ⟨m,kr,acc,vs,g,cap,rfl,hI⟩:=hrel
   clear HS
   have HI:=hI
   have hI2:=hI.out
   have hfw2:=hI2.few
   have hle:=hI2.le
   have HA:=Lib.hid (accept_any wr b A c ts kr ne mark hI2.par (by omega))
   rw [hasT_eq] at HA
   have hout:=hI2.out
   have hfu:=hI2.fuel
   obtain ⟨m,rfl⟩:∃ m',m=m'+1:=⟨m - 1,by omega⟩
   rw [rowLoop] at hout
   have hp0:=hI2.par.c1
   cases hh:hasT ts kr mark.data.toList with
   | false =>
    rw [hh] at hout HA
    simp only [Bool.false_eq_true,if_false] at hout HA
    subst hout
    clear hI2 hfu
    go_wp2_with (go_at_call 123;refine HA.out.mono ?_;rintro e w2 ⟨rfl,hp2,hf2⟩)
    go_ret
    have hown:=own_fr HI.out.own hf2 HP.out.lt
    exact ⟨_,rfl,⟨g,cap,vs,rfl,(hown.lt g rfl).2,hown,Items.fr hV hf2 HP.out.lt HI.out.items⟩,hp2,HI.out.fr.trans hf2⟩
   | true =>
    rw [hh] at hout HA
    simp only [if_true] at hout HA
    have hin:kr < ts.length:=hasT_in hh HMK.out
    have hkr:kr+1≤ts.length:=by omega
    clear hI2
    by_cases hlen:acc.length=most
    ·by_cases hmo:kr+1 < ts.length
     ·rw [if_pos ⟨hlen,hmo⟩] at hout
      subst hout
      have hmq:decide (kr+1 < ts.length)=true:=by simpa using hmo
      have hle2:((acc.length:Int) == (most:Int))=true:=by simp;omega
      clear hlen
      go_wp2_with (first | (go_at_call 123;refine HA.out.mono ?_;rintro e w2 ⟨rfl,hp2,hf2⟩;have HP2:=Lib.hid hp2;have HF2:=Lib.hid hf2;have hlw:=World.block_lt_of_cell? _ _ (HE.out.move (HI.out.fr.trans hf2)).large;have hcl:=(HE.out.move (HI.out.fr.trans hf2)).large;clear hp2 hf2) | (go_at_call 94;refine (more_any _ b A c ts (kr+1) ne HP2.out).mono ?_;rw [hmq];rintro e w3 ⟨rfl,q,rfl⟩))
      exact ⟨rfl,rfl,⟨_,_,HP2.out.drewN q,Int.le_refl _⟩,(HI.out.fr.trans HF2.out).drewN q⟩
     ·rw [if_neg (fun h=>hmo h.2)] at hout
      have hmq:decide (kr+1 < ts.length)=false:=by simpa using hmo
      have hle2:((acc.length:Int) == (most:Int))=true:=by simp;omega
      clear hlen hmo
      cases hr2:rd (kr+1) with
      | no i =>
       rw [hr2] at hout
       subst hout
       have HR2:=Lib.hid (fun w h1 h2=>HR.out w (kr+1) h1 h2 hkr)
       rw [hr2] at HR2
       go_wp2_with (first | (go_at_call 123;refine HA.out.mono ?_;rintro e w2 ⟨rfl,hp2,hf2⟩;have HP2:=Lib.hid hp2;have HF2:=Lib.hid hf2;have hlw:=World.block_lt_of_cell? _ _ (HE.out.move (HI.out.fr.trans hf2)).large;have hcl:=(HE.out.move (HI.out.fr.trans hf2)).large;clear hp2 hf2) | (go_at_call 94;refine (more_any _ b A c ts (kr+1) ne HP2.out).mono ?_;rw [hmq];rintro e w3 ⟨rfl,q,rfl⟩) | (go_at_call 184;refine (HR2.out _ (HP2.out.drewN q) (HE.out.move (HI.out.fr.trans (HF2.out.drewN q)))).mono ?_;rintro e w4 ⟨rfl,h2,h3⟩))
       exact ⟨rfl,rfl,h2,(HI.out.fr.trans (HF2.out.drewN q)).trans h3⟩
      | ok x2 k2 =>
       rw [hr2] at hout
       have HO2:=Lib.hid hout
       clear hout
       obtain ⟨hk3,hk4⟩:=HFW.out _ _ _ hr2
       have hkk:kr < k2:=by omega
       have HR2:=Lib.hid (fun w h1 h2=>HR.out w (kr+1) h1 h2 hkr)
       rw [hr2] at HR2
       go_wp2_with (first | (go_at_call 123;refine HA.out.mono ?_;rintro e w2 ⟨rfl,hp2,hf2⟩;have HP2:=Lib.hid hp2;have HF2:=Lib.hid hf2;have hlw:=World.block_lt_of_cell? _ _ (HE.out.move (HI.out.fr.trans hf2)).large;have hcl:=(HE.out.move (HI.out.fr.trans hf2)).large;clear hp2 hf2) | (go_at_call 94;refine (more_any _ b A c ts (kr+1) ne HP2.out).mono ?_;rw [hmq];rintro e w3 ⟨rfl,q,rfl⟩) | (go_at_call 184;refine (HR2.out _ (HP2.out.drewN q) (HE.out.move (HI.out.fr.trans (HF2.out.drewN q)))).mono ?_;rintro e w4 ⟨v4,rfl,hv4,hp4,hf4⟩;obtain ⟨r1,r2,r3,r4,r5,r6,r7,r8,r9,ra,rb,rc,rd,re,rf,rg,rh,ri,rj,rk,rfl⟩:=hT _ _ _ _ _ hv4;have HP4:=Lib.hid hp4;have HF4:=Lib.hid ((HF2.out.drewN q).trans hf4);have HV4:=Lib.hid hv4;have HO4:=Lib.hid (own_fr HI.out.own HF4.out HP.out.lt);have hW4:w.heap.size≤w4.heap.size:=Nat.le_trans HI.out.fr.size HF4.out.size;have HLO:=HF2.out.size;clear hv4 hp4 hf4) | (at_builtin;refine wpList_append_lies _ rfl _ _ 29 rfl w.heap.size 31 i0 (.agg #[.int .i64 0,.int .i64 0,.string ⟨#[]⟩,.int .i64 0,.slice none 0 0,.int .i64 0,.string ⟨#[]⟩,.int .i64 0,.slice none 0 0,.string ⟨#[]⟩,.slice none 0 0,.slice none 0 0]) 12 184 Tryz.underlying29 HI0.out HI1.out HI2.out HI3.out rfl (by decide) _ _ _ rfl (HO4.out.alloc _) ⟨w4.heap.size,0,none⟩ 1 1 [.int .i64 r1,.int .i64 r2,.string r3,.int .i64 r4,.slice r5 r6 r7,.int .i64 r8,.string r9,.int .i64 ra,.slice rb rc rd,.string re,.slice rf rg rh,.slice ri rj rk] rfl rfl (cells_new _ #[.int .i64 r1,.int .i64 r2,.string r3,.int .i64 r4,.slice r5 r6 r7,.int .i64 r8,.string r9,.int .i64 ra,.slice rb rc rd,.string re,.slice rf rg rh,.slice ri rj rk] _ _ rfl) (by simp [Value.oneCell']) (by decide) (by unfold maxLen;omega) (by omega) (by simp;omega) _ rfl ?_;intro g2 cap2 w6 hown6 hg6 hat6 _;have HNX:=Lib.hid (RowGo.next hV HI.out HP.out HO2.out (by omega) hkk hk4 HF4.out HP4.out HLO HV4.out hown6 hg6 hat6);clear hown6 hg6 hat6))
       have hm4:=HNX.out.par.c1
       have hl2:(acc++[x2]).length=acc.length+1:=by simp
       rw [hl2] at HNX
       go_roundw
       case rel=>exact ⟨_,_,_,_,_,_,by rw [hl2],HNX⟩
       case measure=>simp [hm4,hp0,intOf];omega
    ·rw [if_neg (fun h=>hlen h.1)] at hout
     have hle2:((acc.length:Int) == (most:Int))=false:=by simp;omega
     clear hlen
     cases hr2:rd (kr+1) with
     | no i =>
      rw [hr2] at hout
      subst hout
      have HR2:=Lib.hid (fun w h1 h2=>HR.out w (kr+1) h1 h2 hkr)
      rw [hr2] at HR2
      go_wp2_with (first | (go_at_call 123;refine HA.out.mono ?_;rintro e w2 ⟨rfl,hp2,hf2⟩;have HP2:=Lib.hid hp2;have HF2:=Lib.hid hf2;have hlw:=World.block_lt_of_cell? _ _ (HE.out.move (HI.out.fr.trans hf2)).large;have hcl:=(HE.out.move (HI.out.fr.trans hf2)).large;clear hp2 hf2) | (go_at_call 184;refine (HR2.out _ HP2.out (HE.out.move (HI.out.fr.trans HF2.out))).mono ?_;rintro e w4 ⟨rfl,h2,h3⟩))
      exact ⟨rfl,rfl,h2,(HI.out.fr.trans HF2.out).trans h3⟩
     | ok x2 k2 =>
      rw [hr2] at hout
      have HO2:=Lib.hid hout
      clear hout
      obtain ⟨hk3,hk4⟩:=HFW.out _ _ _ hr2
      have hkk:kr < k2:=by omega
      have HR2:=Lib.hid (fun w h1 h2=>HR.out w (kr+1) h1 h2 hkr)
      rw [hr2] at HR2
      go_wp2_with (first | (go_at_call 123;refine HA.out.mono ?_;rintro e w2 ⟨rfl,hp2,hf2⟩;have HP2:=Lib.hid hp2;have HF2:=Lib.hid hf2;have hlw:=World.block_lt_of_cell? _ _ (HE.out.move (HI.out.fr.trans hf2)).large;have hcl:=(HE.out.move (HI.out.fr.trans hf2)).large;clear hp2 hf2) | (go_at_call 184;refine (HR2.out _ HP2.out (HE.out.move (HI.out.fr.trans HF2.out))).mono ?_;rintro e w4 ⟨v4,rfl,hv4,hp4,hf4⟩;obtain ⟨r1,r2,r3,r4,r5,r6,r7,r8,r9,ra,rb,rc,rd,re,rf,rg,rh,ri,rj,rk,rfl⟩:=hT _ _ _ _ _ hv4;have HP4:=Lib.hid hp4;have HF4:=Lib.hid (HF2.out.trans hf4);have HV4:=Lib.hid hv4;have HO4:=Lib.hid (own_fr HI.out.own HF4.out HP.out.lt);have hW4:w.heap.size≤w4.heap.size:=Nat.le_trans HI.out.fr.size HF4.out.size;have HLO:=HF2.out.size;clear hv4 hp4 hf4) | (at_builtin;refine wpList_append_lies _ rfl _ _ 29 rfl w.heap.size 31 i0 (.agg #[.int .i64 0,.int .i64 0,.string ⟨#[]⟩,.int .i64 0,.slice none 0 0,.int .i64 0,.string ⟨#[]⟩,.int .i64 0,.slice none 0 0,.string ⟨#[]⟩,.slice none 0 0,.slice none 0 0]) 12 184 Tryz.underlying29 HI0.out HI1.out HI2.out HI3.out rfl (by decide) _ _ _ rfl (HO4.out.alloc _) ⟨w4.heap.size,0,none⟩ 1 1 [.int .i64 r1,.int .i64 r2,.string r3,.int .i64 r4,.slice r5 r6 r7,.int .i64 r8,.string r9,.int .i64 ra,.slice rb rc rd,.string re,.slice rf rg rh,.slice ri rj rk] rfl rfl (cells_new _ #[.int .i64 r1,.int .i64 r2,.string r3,.int .i64 r4,.slice r5 r6 r7,.int .i64 r8,.string r9,.int .i64 ra,.slice rb rc rd,.string re,.slice rf rg rh,.slice ri rj rk] _ _ rfl) (by simp [Value.oneCell']) (by decide) (by unfold maxLen;omega) (by omega) (by simp;omega) _ rfl ?_;intro g2 cap2 w6 hown6 hg6 hat6 _;have HNX:=Lib.hid (RowGo.next hV HI.out HP.out HO2.out (by omega) hkk hk4 HF4.out HP4.out HLO HV4.out hown6 hg6 hat6);clear hown6 hg6 hat6))
      have hm4:=HNX.out.par.c1
      have hl2:(acc++[x2]).length=acc.length+1:=by simp
      rw [hl2] at HNX
      go_roundw
      case rel=>exact ⟨_,_,_,_,_,_,by rw [hl2],HNX⟩
      case measure=>simp [hm4,hp0,intOf];omega
end Lx
end Go.Proofs.YtiljemkglhloeaaGreatDoor
namespace Go.Proofs.YtiljemkglhloeaaGreatDoor
set_option linter.unusedSimpArgs false
set_option linter.unusedVariables false
namespace Lx
open Go Go.RowKit
def ThisCo (V:Holds GoalT):Prop:=∀ x v lo hi w,V x v lo hi w→∃ z1 z2 z3 z4 z5 z6 z7 z8 z9 za zb zc zd ze zf zg zh zi zj zk,v=.agg #[.int .i64 z1,.int .i64 z2,.string z3,.int .i64 z4,.slice z5 z6 z7,.int .i64 z8,.string z9,.int .i64 za,.slice zb zc zd,.string ze,.slice zf zg zh,.slice zi zj zk]
theorem infoCo:(Tryz.prog.info? 31).map (fun i=>(i.zero,i.size,i.bytes))=some (some (.agg #[.int .i64 0,.int .i64 0,.string ⟨#[]⟩,.int .i64 0,.slice none 0 0,.int .i64 0,.string ⟨#[]⟩,.int .i64 0,.slice none 0 0,.string ⟨#[]⟩,.slice none 0 0,.slice none 0 0]),12,184):=by kernel_rfl
/-- The row as the loop holds it. -/
structure RowCo (V:Holds GoalT) (rd:Nat→Out GoalT) (mark:List UInt8) (most:Nat) (O:Out (List GoalT)) (w:World) (b:Nat) (A:Option Addr) (c:Nat) (ts:List Tok) (ne:Int) (v:Value) (wr:World) (m k:Nat) (acc:List GoalT) (vs:List Value) (g cap:Nat):Prop where
 out:rowLoop rd ts mark most m k acc=O
 fuel:ts.length < k+m
 le:k≤ts.length
 few:acc.length≤k
 val:v=.slice (some ⟨g,0,none⟩) acc.length cap
 own:wr.ownsRow w.heap.size 31 12 v acc.length (vs.flatMap cellsL)
 items:Items V w.heap.size wr.heap.size g wr acc vs
 par:Par wr b A c ts k ne
 fr:PFr b w wr
theorem RowCo.next {V:Holds GoalT} (hV:Stable V) {rd:Nat→Out GoalT} {mark:List UInt8} {most:Nat} {O:Out (List GoalT)} {w:World} {b:Nat} {A:Option Addr} {c:Nat} {ts:List Tok} {ne:Int} {v:Value} {wr:World} {m k:Nat} {acc:List GoalT} {vs:List Value} {g cap:Nat}
  (h:RowCo V rd mark most O w b A c ts ne v wr m k acc vs g cap) {k0:Nat} (h0:Par w b A c ts k0 ne) {x2:GoalT} {v2:Value} {k2 m2:Nat} {w4 w6:World} {o:Obj} {lo4 g2 cap2:Nat}
  (hout:rowLoop rd ts mark most m2 k2 (acc++[x2])=O) (hfu:ts.length < k2+m2) (hk:k < k2) (hk4:k2≤ts.length) (hf4:PFr b wr w4) (hp4:Par w4 b A c ts k2 ne) (hlo:wr.heap.size≤lo4) (hv4:V x2 v2 lo4 w4.heap.size w4)
  (hown:w6.ownsRow w.heap.size 31 12 (.slice (some ⟨g2,0,none⟩) (acc.length+1) cap2) (acc.length+1) (vs.flatMap cellsL++cellsL v2)) (hg:(w4.alloc o).grownBy w6 v.ownBlock) (hat:v.ownBlock=some g2 ∨ g2=(w4.alloc o).heap.size) :
  RowCo V rd mark most O w b A c ts ne (.slice (some ⟨g2,0,none⟩) (acc++[x2]).length cap2) w6 m2 k2 (acc++[x2]) (vs++[v2]) g2 cap2:=by
 have hvb:v.ownBlock=some g:=by rw [h.val];rfl
 have hgl:=h.own.lt g hvb
 rw [hvb] at hg hat
 have hbw:=h0.lt
 have hfr:PFr b w w6:=((h.fr.trans hf4).alloc o).grown hg (fun j hj=>by have:=Option.some.inj hj;omega)
 have hs6:w4.heap.size≤w6.heap.size:=by have:=hg.size;simp at this;omega
 have hblk:∀ j,j < w4.heap.size→j ≠ g→w6.heap[j]?=w4.heap[j]?:=fun j hj hn=>(hg.block j (by simp;omega) (fun e=>hn (Option.some.inj e))).trans (Below.heap_alloc w4 o j hj)
 have hlen:(acc++[x2]).length=acc.length+1:=by simp
 refine ⟨hout,hfu,hk4,?_,rfl,?_,?_,?_,hfr⟩
 ·have:=h.few;rw [hlen];omega
 ·rw [hlen,flat_snoc];exact hown
 ·have i1:=Items.fr hV hf4 hbw h.items
  have i2:=Items.snoc (x:=x2) (v:=v2) ⟨lo4,w4.heap.size,by have:=h.fr.size;omega,Nat.le_refl _,by omega,hv4⟩ i1
  exact Items.step hV (fun j _ j2 j3=>hblk j j2 j3) hs6 (by rcases hat with e | e;exact .inl (Option.some.inj e).symm;exact .inr (by rw [e];simp)) i2
 ·exact h0.move hfr ((hblk b hp4.lt (by omega)).trans hp4.blk) hp4.near hp4.nest0 hp4.nest1
set_option maxRecDepth 100000 in
set_option maxHeartbeats 2000000 in
theorem rowCo_any (b:Nat) (A:Option Addr) (c:Nat) (ts:List Tok) (ne:Int) (f:Nat→Addr) (V:Holds GoalT) (hV:Stable V) (hT:ThisCo V) (rd:Nat→Out GoalT) (hrd:Fwd ts rd) (mark:ByteArray) (most:Nat) (hmk:mark.data.toList ≠ [])
  (HR:Hid (∀ w k,Par w b A c ts k ne→PErrs w b f→k≤ts.length→Calls Tryz.prog 170 #[.pointer (some ⟨b,0,none⟩)] w fun e w'=>EndsV b A c ts ne f V w (rd k) e w'))
  (w:World) (k:Nat) (h:Par w b A c ts k ne) (hE:PErrs w b f) (hk:k≤ts.length) :
  Calls Tryz.prog 169 #[.pointer (some ⟨b,0,none⟩),.string mark,.int .i64 most,.func (.func 170) #[.pointer (some ⟨b,0,none⟩)] #[]] w fun e w'=>EndsV b A c ts ne f (RowV 31 12 V) w (rowO rd ts mark.data.toList most k) e w':=by
 have HP:=Lib.hid h
 have HE:=Lib.hid hE
 have hfw:=h.few
 have HMK:=Lib.hid hmk
 have HFW:=Lib.hid hrd
 unfold rowO
 have HC:=Lib.hid (HR.out w k h hE hk)
 clear h hE hrd
 obtain ⟨i0,hi,hz0,hz1,hz2⟩:=info_parts infoCo
 have HI0:=Lib.hid hi
 have HI1:=Lib.hid hz0
 have HI2:=Lib.hid hz1
 have HI3:=Lib.hid hz2
 clear hi hz0 hz1 hz2
 cases hr:rd k with
 | no i =>
  rw [hr] at HC
  go_enter Tryz.func169,Tryz.ntmps169
  go_wp2_with (go_at_call 170;refine HC.out.mono ?_;rintro e w1 ⟨rfl,h2,h3⟩)
  exact ⟨rfl,rfl,h2,h3⟩
 | ok x k' =>
  rw [hr] at HC
  obtain ⟨hk1,hk2⟩:=HFW.out _ _ _ hr
  show Calls _ _ _ _ fun e w'=>EndsV b A c ts ne f (RowV 31 12 V) w (rowLoop rd ts mark.data.toList most (ts.length+1) k' [x]) e w'
  have hO:rowLoop rd ts mark.data.toList most (ts.length+1) k' [x]=rowLoop rd ts mark.data.toList most (ts.length+1) k' [x]:=rfl
  generalize hOO:rowLoop rd ts mark.data.toList most (ts.length+1) k' [x]=O at hO ⊢
  clear hO
  have HO:=Lib.hid hOO
  clear hOO
  go_enter Tryz.func169,Tryz.ntmps169
  go_wp2_with (go_at_call 170;refine HC.out.mono ?_;rintro e w1 ⟨v,rfl,hv,hp1,hf1⟩;obtain ⟨p1,p2,p3,p4,p5,p6,p7,p8,p9,pa,pb,pc,pd,pe,pf,pg,ph,pi,pj,pk,rfl⟩:=hT _ _ _ _ _ hv)
  have hst:RowCo V rd mark.data.toList most O w b A c ts ne (.slice (some ⟨w1.heap.size,0,none⟩) 1 1) (w1.alloc (.cells #[.int .i64 p1,.int .i64 p2,.string p3,.int .i64 p4,.slice p5 p6 p7,.int .i64 p8,.string p9,.int .i64 pa,.slice pb pc pd,.string pe,.slice pf pg ph,.slice pi pj pk] 31)) (ts.length+1) k' [x] [.agg #[.int .i64 p1,.int .i64 p2,.string p3,.int .i64 p4,.slice p5 p6 p7,.int .i64 p8,.string p9,.int .i64 pa,.slice pb pc pd,.string pe,.slice pf pg ph,.slice pi pj pk]] w1.heap.size 1:=by
   refine ⟨HO.out,by omega,hk2,by simp;omega,rfl,World.ownsRow_lit w1 _ 1 hf1.size (by decide) rfl,?_,hp1.alloc _,hf1.alloc _⟩
   refine ⟨⟨w.heap.size,w1.heap.size,Nat.le_refl _,by simp,by omega,?_⟩,trivial⟩
   exact hV _ _ _ _ _ _ hv (fun j _ hj=>Below.heap_alloc w1 _ j hj)
  have HS:=Lib.hid hst
  clear hst hv hp1 hf1 HC HO
  go_loopw [9] (fun v wr=>∃ m k acc vs g cap,v=.slice (some ⟨g,0,none⟩) acc.length cap∧Hid (RowCo V rd mark.data.toList most O w b A c ts ne v wr m k acc vs g cap)) (fun _ wr=>ts.length - (intOf ((wr.cell? ⟨b,1,none⟩).getD undef)).toNat)
  case atStart=>exact ⟨_,_,_,_,_,_,rfl,HS⟩
  case round =>
   obtain ⟨m,kr,acc,vs,g,cap,rfl,hI⟩:=hrel
   clear HS
   have HI:=hI
   have hI2:=hI.out
   have hfw2:=hI2.few
   have hle:=hI2.le
   have HA:=Lib.hid (accept_any wr b A c ts kr ne mark hI2.par (by omega))
   rw [hasT_eq] at HA
   have hout:=hI2.out
   have hfu:=hI2.fuel
   obtain ⟨m,rfl⟩:∃ m',m=m'+1:=⟨m - 1,by omega⟩
   rw [rowLoop] at hout
   have hp0:=hI2.par.c1
   cases hh:hasT ts kr mark.data.toList with
   | false =>
    rw [hh] at hout HA
    simp only [Bool.false_eq_true,if_false] at hout HA
    subst hout
    clear hI2 hfu
    go_wp2_with (go_at_call 123;refine HA.out.mono ?_;rintro e w2 ⟨rfl,hp2,hf2⟩)
    go_ret
    have hown:=own_fr HI.out.own hf2 HP.out.lt
    exact ⟨_,rfl,⟨g,cap,vs,rfl,(hown.lt g rfl).2,hown,Items.fr hV hf2 HP.out.lt HI.out.items⟩,hp2,HI.out.fr.trans hf2⟩
   | true =>
    rw [hh] at hout HA
    simp only [if_true] at hout HA
    have hin:kr < ts.length:=hasT_in hh HMK.out
    have hkr:kr+1≤ts.length:=by omega
    clear hI2
    by_cases hlen:acc.length=most
    ·by_cases hmo:kr+1 < ts.length
     ·rw [if_pos ⟨hlen,hmo⟩] at hout
      subst hout
      have hmq:decide (kr+1 < ts.length)=true:=by simpa using hmo
      have hle2:((acc.length:Int) == (most:Int))=true:=by simp;omega
      clear hlen
      go_wp2_with (first | (go_at_call 123;refine HA.out.mono ?_;rintro e w2 ⟨rfl,hp2,hf2⟩;have HP2:=Lib.hid hp2;have HF2:=Lib.hid hf2;have hlw:=World.block_lt_of_cell? _ _ (HE.out.move (HI.out.fr.trans hf2)).large;have hcl:=(HE.out.move (HI.out.fr.trans hf2)).large;clear hp2 hf2) | (go_at_call 94;refine (more_any _ b A c ts (kr+1) ne HP2.out).mono ?_;rw [hmq];rintro e w3 ⟨rfl,q,rfl⟩))
      exact ⟨rfl,rfl,⟨_,_,HP2.out.drewN q,Int.le_refl _⟩,(HI.out.fr.trans HF2.out).drewN q⟩
     ·rw [if_neg (fun h=>hmo h.2)] at hout
      have hmq:decide (kr+1 < ts.length)=false:=by simpa using hmo
      have hle2:((acc.length:Int) == (most:Int))=true:=by simp;omega
      clear hlen hmo
      cases hr2:rd (kr+1) with
      | no i =>
       rw [hr2] at hout
       subst hout
       have HR2:=Lib.hid (fun w h1 h2=>HR.out w (kr+1) h1 h2 hkr)
       rw [hr2] at HR2
       go_wp2_with (first | (go_at_call 123;refine HA.out.mono ?_;rintro e w2 ⟨rfl,hp2,hf2⟩;have HP2:=Lib.hid hp2;have HF2:=Lib.hid hf2;have hlw:=World.block_lt_of_cell? _ _ (HE.out.move (HI.out.fr.trans hf2)).large;have hcl:=(HE.out.move (HI.out.fr.trans hf2)).large;clear hp2 hf2) | (go_at_call 94;refine (more_any _ b A c ts (kr+1) ne HP2.out).mono ?_;rw [hmq];rintro e w3 ⟨rfl,q,rfl⟩) | (go_at_call 170;refine (HR2.out _ (HP2.out.drewN q) (HE.out.move (HI.out.fr.trans (HF2.out.drewN q)))).mono ?_;rintro e w4 ⟨rfl,h2,h3⟩))
       exact ⟨rfl,rfl,h2,(HI.out.fr.trans (HF2.out.drewN q)).trans h3⟩
      | ok x2 k2 =>
       rw [hr2] at hout
       have HO2:=Lib.hid hout
       clear hout
       obtain ⟨hk3,hk4⟩:=HFW.out _ _ _ hr2
       have hkk:kr < k2:=by omega
       have HR2:=Lib.hid (fun w h1 h2=>HR.out w (kr+1) h1 h2 hkr)
       rw [hr2] at HR2
       go_wp2_with (first | (go_at_call 123;refine HA.out.mono ?_;rintro e w2 ⟨rfl,hp2,hf2⟩;have HP2:=Lib.hid hp2;have HF2:=Lib.hid hf2;have hlw:=World.block_lt_of_cell? _ _ (HE.out.move (HI.out.fr.trans hf2)).large;have hcl:=(HE.out.move (HI.out.fr.trans hf2)).large;clear hp2 hf2) | (go_at_call 94;refine (more_any _ b A c ts (kr+1) ne HP2.out).mono ?_;rw [hmq];rintro e w3 ⟨rfl,q,rfl⟩) | (go_at_call 170;refine (HR2.out _ (HP2.out.drewN q) (HE.out.move (HI.out.fr.trans (HF2.out.drewN q)))).mono ?_;rintro e w4 ⟨v4,rfl,hv4,hp4,hf4⟩;obtain ⟨r1,r2,r3,r4,r5,r6,r7,r8,r9,ra,rb,rc,rd,re,rf,rg,rh,ri,rj,rk,rfl⟩:=hT _ _ _ _ _ hv4;have HP4:=Lib.hid hp4;have HF4:=Lib.hid ((HF2.out.drewN q).trans hf4);have HV4:=Lib.hid hv4;have HO4:=Lib.hid (own_fr HI.out.own HF4.out HP.out.lt);have hW4:w.heap.size≤w4.heap.size:=Nat.le_trans HI.out.fr.size HF4.out.size;have HLO:=HF2.out.size;clear hv4 hp4 hf4) | (at_builtin;refine wpList_append_lies _ rfl _ _ 29 rfl w.heap.size 31 i0 (.agg #[.int .i64 0,.int .i64 0,.string ⟨#[]⟩,.int .i64 0,.slice none 0 0,.int .i64 0,.string ⟨#[]⟩,.int .i64 0,.slice none 0 0,.string ⟨#[]⟩,.slice none 0 0,.slice none 0 0]) 12 184 Tryz.underlying29 HI0.out HI1.out HI2.out HI3.out rfl (by decide) _ _ _ rfl (HO4.out.alloc _) ⟨w4.heap.size,0,none⟩ 1 1 [.int .i64 r1,.int .i64 r2,.string r3,.int .i64 r4,.slice r5 r6 r7,.int .i64 r8,.string r9,.int .i64 ra,.slice rb rc rd,.string re,.slice rf rg rh,.slice ri rj rk] rfl rfl (cells_new _ #[.int .i64 r1,.int .i64 r2,.string r3,.int .i64 r4,.slice r5 r6 r7,.int .i64 r8,.string r9,.int .i64 ra,.slice rb rc rd,.string re,.slice rf rg rh,.slice ri rj rk] _ _ rfl) (by simp [Value.oneCell']) (by decide) (by unfold maxLen;omega) (by omega) (by simp;omega) _ rfl ?_;intro g2 cap2 w6 hown6 hg6 hat6 _;have HNX:=Lib.hid (RowCo.next hV HI.out HP.out HO2.out (by omega) hkk hk4 HF4.out HP4.out HLO HV4.out hown6 hg6 hat6);clear hown6 hg6 hat6))
       have hm4:=HNX.out.par.c1
       have hl2:(acc++[x2]).length=acc.length+1:=by simp
       rw [hl2] at HNX
       go_roundw
       case rel=>exact ⟨_,_,_,_,_,_,by rw [hl2],HNX⟩
       case measure=>simp [hm4,hp0,intOf];omega
    ·rw [if_neg (fun h=>hlen h.1)] at hout
     have hle2:((acc.length:Int) == (most:Int))=false:=by simp;omega
     clear hlen
     cases hr2:rd (kr+1) with
     | no i =>
      rw [hr2] at hout
      subst hout
      have HR2:=Lib.hid (fun w h1 h2=>HR.out w (kr+1) h1 h2 hkr)
      rw [hr2] at HR2
      go_wp2_with (first | (go_at_call 123;refine HA.out.mono ?_;rintro e w2 ⟨rfl,hp2,hf2⟩;have HP2:=Lib.hid hp2;have HF2:=Lib.hid hf2;have hlw:=World.block_lt_of_cell? _ _ (HE.out.move (HI.out.fr.trans hf2)).large;have hcl:=(HE.out.move (HI.out.fr.trans hf2)).large;clear hp2 hf2) | (go_at_call 170;refine (HR2.out _ HP2.out (HE.out.move (HI.out.fr.trans HF2.out))).mono ?_;rintro e w4 ⟨rfl,h2,h3⟩))
      exact ⟨rfl,rfl,h2,(HI.out.fr.trans HF2.out).trans h3⟩
     | ok x2 k2 =>
      rw [hr2] at hout
      have HO2:=Lib.hid hout
      clear hout
      obtain ⟨hk3,hk4⟩:=HFW.out _ _ _ hr2
      have hkk:kr < k2:=by omega
      have HR2:=Lib.hid (fun w h1 h2=>HR.out w (kr+1) h1 h2 hkr)
      rw [hr2] at HR2
      go_wp2_with (first | (go_at_call 123;refine HA.out.mono ?_;rintro e w2 ⟨rfl,hp2,hf2⟩;have HP2:=Lib.hid hp2;have HF2:=Lib.hid hf2;have hlw:=World.block_lt_of_cell? _ _ (HE.out.move (HI.out.fr.trans hf2)).large;have hcl:=(HE.out.move (HI.out.fr.trans hf2)).large;clear hp2 hf2) | (go_at_call 170;refine (HR2.out _ HP2.out (HE.out.move (HI.out.fr.trans HF2.out))).mono ?_;rintro e w4 ⟨v4,rfl,hv4,hp4,hf4⟩;obtain ⟨r1,r2,r3,r4,r5,r6,r7,r8,r9,ra,rb,rc,rd,re,rf,rg,rh,ri,rj,rk,rfl⟩:=hT _ _ _ _ _ hv4;have HP4:=Lib.hid hp4;have HF4:=Lib.hid (HF2.out.trans hf4);have HV4:=Lib.hid hv4;have HO4:=Lib.hid (own_fr HI.out.own HF4.out HP.out.lt);have hW4:w.heap.size≤w4.heap.size:=Nat.le_trans HI.out.fr.size HF4.out.size;have HLO:=HF2.out.size;clear hv4 hp4 hf4) | (at_builtin;refine wpList_append_lies _ rfl _ _ 29 rfl w.heap.size 31 i0 (.agg #[.int .i64 0,.int .i64 0,.string ⟨#[]⟩,.int .i64 0,.slice none 0 0,.int .i64 0,.string ⟨#[]⟩,.int .i64 0,.slice none 0 0,.string ⟨#[]⟩,.slice none 0 0,.slice none 0 0]) 12 184 Tryz.underlying29 HI0.out HI1.out HI2.out HI3.out rfl (by decide) _ _ _ rfl (HO4.out.alloc _) ⟨w4.heap.size,0,none⟩ 1 1 [.int .i64 r1,.int .i64 r2,.string r3,.int .i64 r4,.slice r5 r6 r7,.int .i64 r8,.string r9,.int .i64 ra,.slice rb rc rd,.string re,.slice rf rg rh,.slice ri rj rk] rfl rfl (cells_new _ #[.int .i64 r1,.int .i64 r2,.string r3,.int .i64 r4,.slice r5 r6 r7,.int .i64 r8,.string r9,.int .i64 ra,.slice rb rc rd,.string re,.slice rf rg rh,.slice ri rj rk] _ _ rfl) (by simp [Value.oneCell']) (by decide) (by unfold maxLen;omega) (by omega) (by simp;omega) _ rfl ?_;intro g2 cap2 w6 hown6 hg6 hat6 _;have HNX:=Lib.hid (RowCo.next hV HI.out HP.out HO2.out (by omega) hkk hk4 HF4.out HP4.out HLO HV4.out hown6 hg6 hat6);clear hown6 hg6 hat6))
      have hm4:=HNX.out.par.c1
      have hl2:(acc++[x2]).length=acc.length+1:=by simp
      rw [hl2] at HNX
      go_roundw
      case rel=>exact ⟨_,_,_,_,_,_,by rw [hl2],HNX⟩
      case measure=>simp [hm4,hp0,intOf];omega
end Lx
end Go.Proofs.YtiljemkglhloeaaGreatDoor
namespace Go.Proofs.YtiljemkglhloeaaGreatDoor
set_option linter.unusedSimpArgs false
set_option linter.unusedVariables false
namespace Lx
open Go Go.RowKit
theorem Items.imp {α:Type} {V V':Holds α} (hVV:∀ x v lo hi w,V x v lo hi w→V' x v lo hi w) {lo hi own:Nat} {w:World}:∀ {l:List α} {vs:List Value},Items V lo hi own w l vs→Items V' lo hi own w l vs
 | [],[],_=>trivial
 | _ :: _,_ :: _,⟨⟨p,q,a1,a2,a3,a4⟩,a5⟩=>⟨⟨p,q,a1,a2,a3,hVV _ _ _ _ _ a4⟩,Items.imp hVV a5⟩
 | [],_ :: _,h=>h.elim
 | _ :: _,[],h=>h.elim
theorem RowV.imp {α:Type} {t:TypeId} {sz:Nat} {V V':Holds α} (hVV:∀ x v lo hi w,V x v lo hi w→V' x v lo hi w) {l:List α} {v:Value} {lo hi:Nat} {w:World} (h:RowV t sz V l v lo hi w):RowV t sz V' l v lo hi w:=by
 obtain ⟨g,cap,vs,rfl,hg,hown,hit⟩:=h
 exact ⟨g,cap,vs,rfl,hg,hown,hit.imp hVV⟩
theorem ArgsV.imp {α:Type} {t:TypeId} {sz:Nat} {V V':Holds α} (hVV:∀ x v lo hi w,V x v lo hi w→V' x v lo hi w) {l:List α} {v:Value} {lo hi:Nat} {w:World} (h:ArgsV t sz V l v lo hi w):ArgsV t sz V' l v lo hi w:=by
 rcases h with h | h
 ·exact .inl h
 ·exact .inr (h.imp hVV)
theorem TermV.shape {d:Nat} {x:TermT} {v:Value} {lo hi:Nat} {w:World} (h:TermV d x v lo hi w):∃ p q z s n c,v=.agg #[.int .i64 p,.string q,.int .i64 z,.slice s n c]:=TermV.this d _ _ _ _ _ h
def zeroT:TermT:=.mk 0 [] 0 []
theorem zeroT_holds (lo hi:Nat) (w:World):TermV 66 zeroT (.agg #[.int .i64 0,.string ⟨#[]⟩,.int .i64 0,.slice none 0 0]) lo hi w:=⟨_,rfl,.inl ⟨rfl,rfl⟩⟩
/-- A goal's cells, its goals so many rows deep. -/
def GoalV:Nat→Holds GoalT
 | 0=>fun _ _ _ _ _=>False
 | d+1=>fun x v lo hi w=>match x with
  | .mk k a b s l gs=>∃ x0 x1 x2 x3 y0 y1 y2 y3 va vg,v=.agg #[.int .i64 k,x0,x1,x2,x3,y0,y1,y2,y3,.string (bs s),va,vg]∧TermV 66 a (.agg #[x0,x1,x2,x3]) lo hi w∧TermV 66 b (.agg #[y0,y1,y2,y3]) lo hi w∧ArgsV 28 4 (TermV 66) l va lo hi w∧ArgsV 31 12 (GoalV d) gs vg lo hi w
theorem GoalV.wide:∀ (d:Nat) (x:GoalT) (v:Value) (lo hi lo' hi':Nat) (w:World),GoalV d x v lo hi w→lo'≤lo→hi≤hi'→GoalV d x v lo' hi' w
 | 0,_,_,_,_,_,_,_,h,_,_=>h.elim
 | _+1,⟨_,_,_,_,_,_⟩,_,_,_,_,_,_,⟨x0,x1,x2,x3,y0,y1,y2,y3,va,vg,hv,h1,h2,h3,h4⟩,e1,e2 =>
  ⟨x0,x1,x2,x3,y0,y1,y2,y3,va,vg,hv,TermV.wide _ _ _ _ _ _ _ _ h1 e1 e2,TermV.wide _ _ _ _ _ _ _ _ h2 e1 e2,h3.wide e1 e2,h4.wide e1 e2⟩
theorem GoalV.stable:∀ d,Stable (GoalV d)
 | 0=>fun _ _ _ _ _ _ h _=>h.elim
 | d+1=>by
  rintro ⟨k,a,b,s,l,gs⟩ v lo hi w w' ⟨x0,x1,x2,x3,y0,y1,y2,y3,va,vg,hv,h1,h2,h3,h4⟩ h
  exact ⟨x0,x1,x2,x3,y0,y1,y2,y3,va,vg,hv,TermV.stable 66 _ _ _ _ _ _ h1 h,TermV.stable 66 _ _ _ _ _ _ h2 h,ArgsV.stable _ _ (TermV.stable 66) _ _ _ _ _ _ h3 h,ArgsV.stable _ _ (GoalV.stable d) _ _ _ _ _ _ h4 h⟩
theorem GoalV.succ:∀ (d:Nat) (x:GoalT) (v:Value) (lo hi:Nat) (w:World),GoalV d x v lo hi w→GoalV (d+1) x v lo hi w
 | 0,_,_,_,_,_,h=>h.elim
 | d+1,⟨_,_,_,_,_,_⟩,_,_,_,_,⟨x0,x1,x2,x3,y0,y1,y2,y3,va,vg,hv,h1,h2,h3,h4⟩ =>
  ⟨x0,x1,x2,x3,y0,y1,y2,y3,va,vg,hv,h1,h2,h3,h4.imp (GoalV.succ d)⟩
theorem GoalV.this:∀ d,ThisGo (GoalV d)
 | 0=>fun _ _ _ _ _ h=>h.elim
 | d+1=>by
  rintro ⟨k,a,b,s,l,gs⟩ v lo hi w ⟨x0,x1,x2,x3,y0,y1,y2,y3,va,vg,rfl,h1,h2,h3,h4⟩
  obtain ⟨p1,p2,p3,p4,p5,p6,e1⟩:=TermV.shape h1
  obtain ⟨q1,q2,q3,q4,q5,q6,e2⟩:=TermV.shape h2
  obtain ⟨r1,r2,r3,rfl⟩:=h3.slice
  obtain ⟨s1,s2,s3,rfl⟩:=h4.slice
  simp only [Value.agg.injEq,Array.mk.injEq,List.cons.injEq,and_true] at e1 e2
  obtain ⟨rfl,rfl,rfl,rfl⟩:=e1
  obtain ⟨rfl,rfl,rfl,rfl⟩:=e2
  exact ⟨_,_,_,_,_,_,_,_,_,_,_,_,_,_,_,_,_,_,_,_,rfl⟩
end Lx
end Go.Proofs.YtiljemkglhloeaaGreatDoor
namespace Go.Proofs.YtiljemkglhloeaaGreatDoor
set_option linter.unusedSimpArgs false
set_option linter.unusedVariables false
namespace Lx
open Go Go.RowKit
def joinG (kind:Int):List GoalT→GoalT
 | [g]=>g
 | gs=>.mk kind zeroT zeroT [] [] gs
set_option maxRecDepth 100000 in
set_option maxHeartbeats 2000000 in
theorem joined_any (d:Nat) (kind:Int) (gs:List GoalT) (v:Value) (lo:Nat) (w:World) (hne:gs ≠ []) (hv:RowV 31 12 (GoalV d) gs v lo w.heap.size w) :
  Calls Tryz.prog 168 #[.int .i64 kind,v] w fun e w'=>∃ v',e=.returned v'∧GoalV (d+1) (joinG kind gs) v' lo w'.heap.size w'∧Below w.heap.size w w':=by
 have hv0:=hv
 obtain ⟨g,cap,vs,rfl,hg,hown,hit⟩:=hv
 have HV:=Lib.hid hv0
 clear hv0
 match gs,hne with
 | [x],_ =>
  have hvl:=hit.length
  match vs,hvl with
  | [v0],_ =>
   obtain ⟨⟨p,q,a1,a2,a3,a4⟩,_⟩:=hit
   have HX:=Lib.hid a4
   obtain ⟨z1,z2,z3,z4,z5,z6,z7,z8,z9,za,zb,zc,zd,ze,zf,zg,zh,zi,zj,zk,rfl⟩:=GoalV.this d _ _ _ _ _ a4
   have hc:=fun j hj=>hown.cellAt (g:=g) (cap:=cap) j hj
   have c0:=(hc 0 (by show 0 < 12;decide)).trans rfl
   have c1:=(hc 1 (by show 1 < 12;decide)).trans rfl
   have c2:=(hc 2 (by show 2 < 12;decide)).trans rfl
   have c3:=(hc 3 (by show 3 < 12;decide)).trans rfl
   have c4:=(hc 4 (by show 4 < 12;decide)).trans rfl
   have c5:=(hc 5 (by show 5 < 12;decide)).trans rfl
   have c6:=(hc 6 (by show 6 < 12;decide)).trans rfl
   have c7:=(hc 7 (by show 7 < 12;decide)).trans rfl
   have c8:=(hc 8 (by show 8 < 12;decide)).trans rfl
   have c9:=(hc 9 (by show 9 < 12;decide)).trans rfl
   have c10:=(hc 10 (by show 10 < 12;decide)).trans rfl
   have c11:=(hc 11 (by show 11 < 12;decide)).trans rfl
   simp only [cellsL,Value.cells,List.flatMap_cons,List.flatMap_nil,List.append_nil,List.getElem?_cons_zero,List.getElem?_cons_succ] at c0 c1 c2 c3 c4 c5 c6 c7 c8 c9 c10 c11
   have hq:([x].length:Int)=1:=rfl
   clear hc a4
   go_enter Tryz.func168,Tryz.ntmps168
   go_wp2_with fail
   refine bodyPost_ret (v:=.agg #[.int .i64 z1,.int .i64 z2,.string z3,.int .i64 z4,.slice z5 z6 z7,.int .i64 z8,.string z9,.int .i64 za,.slice zb zc zd,.string ze,.slice zf zg zh,.slice zi zj zk]) (by simp [results,Tryz.results168,go_sem]) rfl ⟨_,rfl,?_,(Below.refl _ _).alloc (Nat.le_refl _) _⟩
   exact GoalV.succ _ _ _ _ _ _ (GoalV.wide _ _ _ _ _ _ _ _ (GoalV.stable d _ _ _ _ _ _ HX.out (fun j _ hj=>Below.heap_alloc w _ j (by omega))) a1 (by simp;omega))
 | x :: y :: r,_ =>
  have hq:(((x :: y :: r).length:Int) == 1)=false:=by simp;omega
  have hj:joinG kind (x :: y :: r)=.mk kind zeroT zeroT [] [] (x :: y :: r):=rfl
  rw [hj]
  clear hj
  generalize (x :: y :: r)=gs at *
  go_enter Tryz.func168,Tryz.ntmps168
  go_wp2_with fail
  refine bodyPost_ret (v:=.agg #[.int .i64 kind,.int .i64 0,.string ⟨#[]⟩,.int .i64 0,.slice none 0 0,.int .i64 0,.string ⟨#[]⟩,.int .i64 0,.slice none 0 0,.string ⟨#[]⟩,.slice none 0 0,.slice (some ⟨g,0,none⟩) gs.length cap]) (by simp [results,Tryz.results168,go_sem]) rfl ⟨_,rfl,?_,(Below.refl _ _).alloc (Nat.le_refl _) _⟩
  exact ⟨_,_,_,_,_,_,_,_,_,_,rfl,zeroT_holds _ _ _,zeroT_holds _ _ _,.inl ⟨rfl,rfl⟩,.inr ((RowV.stable _ _ (GoalV.stable d) _ _ _ _ _ _ HV.out (fun j _ hj=>Below.heap_alloc w _ j hj)).wide (Nat.le_refl _) (by simp))⟩
theorem rowLoop_ne {α:Type} {rd:Nat→Out α} {ts:List Tok} (mark:List UInt8) (most:Nat):∀ (m k:Nat) (acc l:List α) (k':Nat),rowLoop rd ts mark most m k acc=.ok l k'→acc ≠ []→l ≠ []
 | 0,_,_,_,_,h,_=>by simp [rowLoop] at h
 | m+1,k,acc,l,k',h,hn=>by
  rw [rowLoop] at h
  split at h
  ·split at h
   ·cases h
   ·split at h
    ·cases h
    ·exact rowLoop_ne mark most m _ _ _ _ h (by simp)
  ·injection h with h1 _
   subst h1
   exact hn
theorem rowO_ne {α:Type} {rd:Nat→Out α} {ts:List Tok} {mark:List UInt8} {most k:Nat} {l:List α} {k':Nat} (h:rowO rd ts mark most k=.ok l k'):l ≠ []:=by
 unfold rowO at h
 split at h
 ·cases h
 ·exact rowLoop_ne mark most _ _ _ _ _ h (by simp)
def joinO (rd:Nat→Out GoalT) (ts:List Tok) (mark:List UInt8) (kind:Int) (k:Nat):Out GoalT:=match rowO rd ts mark 16384 k with
 | .no i=>.no i
 | .ok l k'=>.ok (joinG kind l) k'
theorem joinO_fwd {rd:Nat→Out GoalT} {ts:List Tok} (hr:Fwd ts rd) (mark:List UInt8) (kind:Int):Fwd ts (joinO rd ts mark kind):=by
 intro k x k' h
 unfold joinO at h
 split at h
 ·cases h
 ·rename_i l k2 he
  injection h with _ h2
  subst h2
  exact rowO_fwd hr _ _ _ _ _ he
theorem box12 {w w3 w4:World} {o:Obj} {b:Nat} {cs:Array Value} (hf:PFr b (w.alloc o) w3) (h4:Below w3.heap.size w3 w4) (hb:b < w.heap.size) (h:(w.alloc o).heap[w.heap.size]?=some (.cells cs 31 (0,0))):w4.heap[w.heap.size]?=some (.cells cs 31 (0,0)) :=
 (h4.block w.heap.size (by have:=hf.size;simp at this;omega)).trans ((hf.block w.heap.size (by simp) (Nat.ne_of_gt hb)).trans h)
theorem PFr.below {b:Nat} {x y z:World} (h:PFr b x y) (hb:Below y.heap.size y z):PFr b x z :=
 ⟨hb.os.trans h.os,hb.tape.trans h.tape,hb.output.trans h.output,Nat.le_trans h.size hb.size,fun k hk hn=>(hb.block k (Nat.lt_of_lt_of_le hk h.size)).trans (h.block k hk hn)⟩
theorem Par.below {w w':World} {b:Nat} {A:Option Addr} {c:Nat} {ts:List Tok} {k:Nat} {ne:Int} (h:Par w b A c ts k ne) (hb:Below w.heap.size w w'):Par w' b A c ts k ne :=
 h.move ((PFr.refl b w).below hb) ((hb.block b h.lt).trans h.blk) h.near h.nest0 h.nest1
set_option maxRecDepth 100000 in
set_option maxHeartbeats 2000000 in
theorem conj_any (b:Nat) (A:Option Addr) (c:Nat) (ts:List Tok) (ne:Int) (f:Nat→Addr) (d:Nat) (rd:Nat→Out GoalT) (hrd:Fwd ts rd)
  (HR:Hid (∀ w k,Par w b A c ts k ne→PErrs w b f→k≤ts.length→Calls Tryz.prog 184 #[.pointer (some ⟨b,0,none⟩)] w fun e w'=>EndsV b A c ts ne f (GoalV d) w (rd k) e w'))
  (w:World) (k:Nat) (h:Par w b A c ts k ne) (hE:PErrs w b f) (hk:k≤ts.length) :
  Calls Tryz.prog 170 #[.pointer (some ⟨b,0,none⟩)] w fun e w'=>EndsV b A c ts ne f (GoalV (d+1)) w (joinO rd ts [44] 5 k) e w':=by
 have HRow:=Lib.hid (fun w h hE=>rowGo_any b A c ts ne f (GoalV d) (GoalV.stable d) (GoalV.this d) rd hrd ⟨#[44]⟩ 16384 (by decide) HR w k h hE hk)
 rw [show (ByteArray.mk #[44]).data.toList=[44] from rfl] at HRow
 unfold joinO
 have HP:=Lib.hid h
 have HE:=Lib.hid hE
 have hbw:=h.lt
 clear h hE
 cases hr:rowO rd ts [44] 16384 k with
 | no i =>
  rw [hr] at HRow
  go_enter Tryz.func170,Tryz.ntmps170
  go_wp2_with (go_at_call 169;refine (HRow.out _ (HP.out.alloc _) (HE.out.move ((PFr.refl b w).alloc _))).mono ?_;rintro e w3 ⟨rfl,h2,h3⟩)
  exact ⟨rfl,rfl,h2,((PFr.refl b w).alloc _).trans h3⟩
 | ok l k2 =>
  rw [hr] at HRow
  have hln:=rowO_ne hr
  show Calls _ _ _ _ fun e w'=>EndsV b A c ts ne f (GoalV (d+1)) w (.ok (joinG 5 l) k2) e w'
  go_enter Tryz.func170,Tryz.ntmps170
  go_wp2_with (first | (go_at_call 169;refine (HRow.out _ (HP.out.alloc _) (HE.out.move ((PFr.refl b w).alloc _))).mono ?_;rintro e w3 ⟨v3,rfl,hv3,hp3,hf3⟩;have HJ:=Lib.hid (joined_any d 5 l v3 _ w3 hln hv3)) | (go_at_call 168;refine HJ.out.mono ?_;rintro e w4 ⟨v4,rfl,hv4,hb4⟩;have hb:=box12 hf3 hb4 hbw (heap_alloc_new w _);have d0:=(Lib.cell_of_heap hb 0).trans rfl;have g0:=Lib.frozen_of_heap hb 0;have d1:=(Lib.cell_of_heap hb 1).trans rfl;have g1:=Lib.frozen_of_heap hb 1;have d2:=(Lib.cell_of_heap hb 2).trans rfl;have g2:=Lib.frozen_of_heap hb 2;have d3:=(Lib.cell_of_heap hb 3).trans rfl;have g3:=Lib.frozen_of_heap hb 3;have d4:=(Lib.cell_of_heap hb 4).trans rfl;have g4:=Lib.frozen_of_heap hb 4;have d5:=(Lib.cell_of_heap hb 5).trans rfl;have g5:=Lib.frozen_of_heap hb 5;have d6:=(Lib.cell_of_heap hb 6).trans rfl;have g6:=Lib.frozen_of_heap hb 6;have d7:=(Lib.cell_of_heap hb 7).trans rfl;have g7:=Lib.frozen_of_heap hb 7;have d8:=(Lib.cell_of_heap hb 8).trans rfl;have g8:=Lib.frozen_of_heap hb 8;have d9:=(Lib.cell_of_heap hb 9).trans rfl;have g9:=Lib.frozen_of_heap hb 9;have d10:=(Lib.cell_of_heap hb 10).trans rfl;have g10:=Lib.frozen_of_heap hb 10;have d11:=(Lib.cell_of_heap hb 11).trans rfl;have g11:=Lib.frozen_of_heap hb 11;have HB:=Lib.hid hb;clear hb;obtain ⟨z1,z2,z3,z4,z5,z6,z7,z8,z9,za,zb,zc,zd,ze,zf,zg,zh,zi,zj,zk,rfl⟩:=GoalV.this _ _ _ _ _ _ hv4;have HV4:=Lib.hid hv4;have HF4:=Lib.hid (hf3.below hb4);have HP4:=Lib.hid (hp3.below hb4);have HZ3:=Lib.hid hf3.size;clear hv4 hf3 hp3 hb4))
  have hcells:=(blk_put _ _ 11 (.slice zi zj zk) (blk_put _ _ 10 (.slice zf zg zh) (blk_put _ _ 9 (.string ze) (blk_put _ _ 8 (.slice zb zc zd) (blk_put _ _ 7 (.int .i64 za) (blk_put _ _ 6 (.string z9) (blk_put _ _ 5 (.int .i64 z8) (blk_put _ _ 4 (.slice z5 z6 z7) (blk_put _ _ 3 (.int .i64 z4) (blk_put _ _ 2 (.string z3) (blk_put _ _ 1 (.int .i64 z2) (blk_put _ _ 0 (.int .i64 z1) HB.out (by show 0 < 12;decide)) (by show 1 < 12;decide)) (by show 2 < 12;decide)) (by show 3 < 12;decide)) (by show 4 < 12;decide)) (by show 5 < 12;decide)) (by show 6 < 12;decide)) (by show 7 < 12;decide)) (by show 8 < 12;decide)) (by show 9 < 12;decide)) (by show 10 < 12;decide)) (by show 11 < 12;decide))
  have hfr:=(((((((((((((((PFr.refl b w).alloc _).trans HF4.out).putNew (Nat.le_refl _) 0 (.int .i64 z1)).putNew (Nat.le_refl _) 1 (.int .i64 z2)).putNew (Nat.le_refl _) 2 (.string z3)).putNew (Nat.le_refl _) 3 (.int .i64 z4)).putNew (Nat.le_refl _) 4 (.slice z5 z6 z7)).putNew (Nat.le_refl _) 5 (.int .i64 z8)).putNew (Nat.le_refl _) 6 (.string z9)).putNew (Nat.le_refl _) 7 (.int .i64 za)).putNew (Nat.le_refl _) 8 (.slice zb zc zd)).putNew (Nat.le_refl _) 9 (.string ze)).putNew (Nat.le_refl _) 10 (.slice zf zg zh)).putNew (Nat.le_refl _) 11 (.slice zi zj zk))
  have hn:b ≠ w.heap.size:=Nat.ne_of_lt hbw
  have y0:=(Lib.cell_of_heap hcells 0).trans rfl
  have y1:=(Lib.cell_of_heap hcells 1).trans rfl
  have y2:=(Lib.cell_of_heap hcells 2).trans rfl
  have y3:=(Lib.cell_of_heap hcells 3).trans rfl
  have y4:=(Lib.cell_of_heap hcells 4).trans rfl
  have y5:=(Lib.cell_of_heap hcells 5).trans rfl
  have y6:=(Lib.cell_of_heap hcells 6).trans rfl
  have y7:=(Lib.cell_of_heap hcells 7).trans rfl
  have y8:=(Lib.cell_of_heap hcells 8).trans rfl
  have y9:=(Lib.cell_of_heap hcells 9).trans rfl
  have y10:=(Lib.cell_of_heap hcells 10).trans rfl
  have y11:=(Lib.cell_of_heap hcells 11).trans rfl
  refine bodyPost_ret (v:=.agg #[.int .i64 z1,.int .i64 z2,.string z3,.int .i64 z4,.slice z5 z6 z7,.int .i64 z8,.string z9,.int .i64 za,.slice zb zc zd,.string ze,.slice zf zg zh,.slice zi zj zk]) (by simp [results,Tryz.results170,go_sem,y0,y1,y2,y3,y4,y5,y6,y7,y8,y9,y10,y11]) rfl ⟨_,rfl,?_,?_,hfr⟩
  ·refine GoalV.wide _ _ _ _ _ _ _ _ (GoalV.stable (d+1) _ _ _ _ _ _ HV4.out (fun j j1 _=>?_)) (by simp) (by simp [World.setCell])
   have hj:j ≠ w.heap.size:=by simp at j1;omega
   rw [Below.heap_setCell _ _ _ j hj,Below.heap_setCell _ _ _ j hj,Below.heap_setCell _ _ _ j hj,Below.heap_setCell _ _ _ j hj,Below.heap_setCell _ _ _ j hj,Below.heap_setCell _ _ _ j hj,Below.heap_setCell _ _ _ j hj,Below.heap_setCell _ _ _ j hj,Below.heap_setCell _ _ _ j hj,Below.heap_setCell _ _ _ j hj,Below.heap_setCell _ _ _ j hj,Below.heap_setCell _ _ _ j hj]
  ·refine HP.out.move hfr ?_ HP4.out.near HP4.out.nest0 HP4.out.nest1
   rw [Below.heap_setCell _ _ _ b hn,Below.heap_setCell _ _ _ b hn,Below.heap_setCell _ _ _ b hn,Below.heap_setCell _ _ _ b hn,Below.heap_setCell _ _ _ b hn,Below.heap_setCell _ _ _ b hn,Below.heap_setCell _ _ _ b hn,Below.heap_setCell _ _ _ b hn,Below.heap_setCell _ _ _ b hn,Below.heap_setCell _ _ _ b hn,Below.heap_setCell _ _ _ b hn,Below.heap_setCell _ _ _ b hn]
   exact HP4.out.blk
set_option maxRecDepth 100000 in
set_option maxHeartbeats 2000000 in
theorem goal_any (b:Nat) (A:Option Addr) (c:Nat) (ts:List Tok) (ne:Int) (f:Nat→Addr) (d:Nat) (rd:Nat→Out GoalT) (hrd:Fwd ts rd)
  (HR:Hid (∀ w k,Par w b A c ts k ne→PErrs w b f→k≤ts.length→Calls Tryz.prog 170 #[.pointer (some ⟨b,0,none⟩)] w fun e w'=>EndsV b A c ts ne f (GoalV d) w (rd k) e w'))
  (w:World) (k:Nat) (h:Par w b A c ts k ne) (hE:PErrs w b f) (hk:k≤ts.length) :
  Calls Tryz.prog 149 #[.pointer (some ⟨b,0,none⟩)] w fun e w'=>EndsV b A c ts ne f (GoalV (d+1)) w (joinO rd ts [59] 6 k) e w':=by
 have HRow:=Lib.hid (fun w h hE=>rowCo_any b A c ts ne f (GoalV d) (GoalV.stable d) (fun x v lo hi w h=>GoalV.this d x v lo hi w h) rd hrd ⟨#[59]⟩ 16384 (by decide) HR w k h hE hk)
 rw [show (ByteArray.mk #[59]).data.toList=[59] from rfl] at HRow
 unfold joinO
 have HP:=Lib.hid h
 have HE:=Lib.hid hE
 have hbw:=h.lt
 clear h hE
 cases hr:rowO rd ts [59] 16384 k with
 | no i =>
  rw [hr] at HRow
  go_enter Tryz.func149,Tryz.ntmps149
  go_wp2_with (go_at_call 169;refine (HRow.out _ (HP.out.alloc _) (HE.out.move ((PFr.refl b w).alloc _))).mono ?_;rintro e w3 ⟨rfl,h2,h3⟩)
  exact ⟨rfl,rfl,h2,((PFr.refl b w).alloc _).trans h3⟩
 | ok l k2 =>
  rw [hr] at HRow
  have hln:=rowO_ne hr
  show Calls _ _ _ _ fun e w'=>EndsV b A c ts ne f (GoalV (d+1)) w (.ok (joinG 6 l) k2) e w'
  go_enter Tryz.func149,Tryz.ntmps149
  go_wp2_with (first | (go_at_call 169;refine (HRow.out _ (HP.out.alloc _) (HE.out.move ((PFr.refl b w).alloc _))).mono ?_;rintro e w3 ⟨v3,rfl,hv3,hp3,hf3⟩;have HJ:=Lib.hid (joined_any d 6 l v3 _ w3 hln hv3)) | (go_at_call 168;refine HJ.out.mono ?_;rintro e w4 ⟨v4,rfl,hv4,hb4⟩;have hb:=box12 hf3 hb4 hbw (heap_alloc_new w _);have d0:=(Lib.cell_of_heap hb 0).trans rfl;have g0:=Lib.frozen_of_heap hb 0;have d1:=(Lib.cell_of_heap hb 1).trans rfl;have g1:=Lib.frozen_of_heap hb 1;have d2:=(Lib.cell_of_heap hb 2).trans rfl;have g2:=Lib.frozen_of_heap hb 2;have d3:=(Lib.cell_of_heap hb 3).trans rfl;have g3:=Lib.frozen_of_heap hb 3;have d4:=(Lib.cell_of_heap hb 4).trans rfl;have g4:=Lib.frozen_of_heap hb 4;have d5:=(Lib.cell_of_heap hb 5).trans rfl;have g5:=Lib.frozen_of_heap hb 5;have d6:=(Lib.cell_of_heap hb 6).trans rfl;have g6:=Lib.frozen_of_heap hb 6;have d7:=(Lib.cell_of_heap hb 7).trans rfl;have g7:=Lib.frozen_of_heap hb 7;have d8:=(Lib.cell_of_heap hb 8).trans rfl;have g8:=Lib.frozen_of_heap hb 8;have d9:=(Lib.cell_of_heap hb 9).trans rfl;have g9:=Lib.frozen_of_heap hb 9;have d10:=(Lib.cell_of_heap hb 10).trans rfl;have g10:=Lib.frozen_of_heap hb 10;have d11:=(Lib.cell_of_heap hb 11).trans rfl;have g11:=Lib.frozen_of_heap hb 11;have HB:=Lib.hid hb;clear hb;obtain ⟨z1,z2,z3,z4,z5,z6,z7,z8,z9,za,zb,zc,zd,ze,zf,zg,zh,zi,zj,zk,rfl⟩:=GoalV.this _ _ _ _ _ _ hv4;have HV4:=Lib.hid hv4;have HF4:=Lib.hid (hf3.below hb4);have HP4:=Lib.hid (hp3.below hb4);have HZ3:=Lib.hid hf3.size;clear hv4 hf3 hp3 hb4))
  have hcells:=(blk_put _ _ 11 (.slice zi zj zk) (blk_put _ _ 10 (.slice zf zg zh) (blk_put _ _ 9 (.string ze) (blk_put _ _ 8 (.slice zb zc zd) (blk_put _ _ 7 (.int .i64 za) (blk_put _ _ 6 (.string z9) (blk_put _ _ 5 (.int .i64 z8) (blk_put _ _ 4 (.slice z5 z6 z7) (blk_put _ _ 3 (.int .i64 z4) (blk_put _ _ 2 (.string z3) (blk_put _ _ 1 (.int .i64 z2) (blk_put _ _ 0 (.int .i64 z1) HB.out (by show 0 < 12;decide)) (by show 1 < 12;decide)) (by show 2 < 12;decide)) (by show 3 < 12;decide)) (by show 4 < 12;decide)) (by show 5 < 12;decide)) (by show 6 < 12;decide)) (by show 7 < 12;decide)) (by show 8 < 12;decide)) (by show 9 < 12;decide)) (by show 10 < 12;decide)) (by show 11 < 12;decide))
  have hfr:=(((((((((((((((PFr.refl b w).alloc _).trans HF4.out).putNew (Nat.le_refl _) 0 (.int .i64 z1)).putNew (Nat.le_refl _) 1 (.int .i64 z2)).putNew (Nat.le_refl _) 2 (.string z3)).putNew (Nat.le_refl _) 3 (.int .i64 z4)).putNew (Nat.le_refl _) 4 (.slice z5 z6 z7)).putNew (Nat.le_refl _) 5 (.int .i64 z8)).putNew (Nat.le_refl _) 6 (.string z9)).putNew (Nat.le_refl _) 7 (.int .i64 za)).putNew (Nat.le_refl _) 8 (.slice zb zc zd)).putNew (Nat.le_refl _) 9 (.string ze)).putNew (Nat.le_refl _) 10 (.slice zf zg zh)).putNew (Nat.le_refl _) 11 (.slice zi zj zk))
  have hn:b ≠ w.heap.size:=Nat.ne_of_lt hbw
  have y0:=(Lib.cell_of_heap hcells 0).trans rfl
  have y1:=(Lib.cell_of_heap hcells 1).trans rfl
  have y2:=(Lib.cell_of_heap hcells 2).trans rfl
  have y3:=(Lib.cell_of_heap hcells 3).trans rfl
  have y4:=(Lib.cell_of_heap hcells 4).trans rfl
  have y5:=(Lib.cell_of_heap hcells 5).trans rfl
  have y6:=(Lib.cell_of_heap hcells 6).trans rfl
  have y7:=(Lib.cell_of_heap hcells 7).trans rfl
  have y8:=(Lib.cell_of_heap hcells 8).trans rfl
  have y9:=(Lib.cell_of_heap hcells 9).trans rfl
  have y10:=(Lib.cell_of_heap hcells 10).trans rfl
  have y11:=(Lib.cell_of_heap hcells 11).trans rfl
  refine bodyPost_ret (v:=.agg #[.int .i64 z1,.int .i64 z2,.string z3,.int .i64 z4,.slice z5 z6 z7,.int .i64 z8,.string z9,.int .i64 za,.slice zb zc zd,.string ze,.slice zf zg zh,.slice zi zj zk]) (by simp [results,Tryz.results149,go_sem,y0,y1,y2,y3,y4,y5,y6,y7,y8,y9,y10,y11]) rfl ⟨_,rfl,?_,?_,hfr⟩
  ·refine GoalV.wide _ _ _ _ _ _ _ _ (GoalV.stable (d+1) _ _ _ _ _ _ HV4.out (fun j j1 _=>?_)) (by simp) (by simp [World.setCell])
   have hj:j ≠ w.heap.size:=by simp at j1;omega
   rw [Below.heap_setCell _ _ _ j hj,Below.heap_setCell _ _ _ j hj,Below.heap_setCell _ _ _ j hj,Below.heap_setCell _ _ _ j hj,Below.heap_setCell _ _ _ j hj,Below.heap_setCell _ _ _ j hj,Below.heap_setCell _ _ _ j hj,Below.heap_setCell _ _ _ j hj,Below.heap_setCell _ _ _ j hj,Below.heap_setCell _ _ _ j hj,Below.heap_setCell _ _ _ j hj,Below.heap_setCell _ _ _ j hj]
  ·refine HP.out.move hfr ?_ HP4.out.near HP4.out.nest0 HP4.out.nest1
   rw [Below.heap_setCell _ _ _ b hn,Below.heap_setCell _ _ _ b hn,Below.heap_setCell _ _ _ b hn,Below.heap_setCell _ _ _ b hn,Below.heap_setCell _ _ _ b hn,Below.heap_setCell _ _ _ b hn,Below.heap_setCell _ _ _ b hn,Below.heap_setCell _ _ _ b hn,Below.heap_setCell _ _ _ b hn,Below.heap_setCell _ _ _ b hn,Below.heap_setCell _ _ _ b hn,Below.heap_setCell _ _ _ b hn]
   exact HP4.out.blk
end Lx
end Go.Proofs.YtiljemkglhloeaaGreatDoor
