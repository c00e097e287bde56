/- The contract of package parse's row at api.TypeExpr, for whatever reading the function it is handed has: the row of what is read, or the panic. Conditions: the parser's block is its own; at most 16384 tokens. -/
/- The contract of package parse's arguments at api.TypeExpr, for whatever reading the function it is handed has. Conditions: the parser's block is its own; at most 16384 tokens. -/
/- The contract of package parse's typeExpr: what a type is, held in cells; or the panic. Conditions: the parser's block is its own; at most 16384 tokens. -/
/- The contract of package parse's row at api.CtorDecl, for whatever reading the function it is handed has: the row of what is read, or the panic. Conditions: the parser's block is its own; at most 16384 tokens. -/
/- The contract of package parse's ctor: what a constructor is, held in cells; or the panic. Conditions: the parser's block is its own; at most 16384 tokens. -/
/- The contracts of package parse's way and det: which word stands next; or the panic. Conditions: the parser's block is its own; at most 16384 tokens. -/
/- The contract of package parse's row at string, for whatever reading the function it is handed has: the row of what is read, or the panic. Conditions: the parser's block is its own; at most 16384 tokens. -/
/- The contract of package parse's row at bool, for whatever reading the function it is handed has: the row of what is read, or the panic. Conditions: the parser's block is its own; at most 16384 tokens. -/
/- The contract of package parse's arguments at string and at bool, for whatever reading the function it is handed has. Conditions: the parser's block is its own; at most 16384 tokens. -/
import Derived.Test.YtiljemkglhloeaaGreatDoorParTerm
import Derived.Test.YtiljemkglhloeaaGreatDoorParRow
namespace Go.Proofs.YtiljemkglhloeaaGreatDoor
set_option linter.unusedSimpArgs false
set_option linter.unusedVariables false
namespace Lx
open Go Go.RowKit
inductive TypeT where
 | mk:Bool→List UInt8→List TypeT→TypeT
def ThisTy (V:Holds TypeT):Prop:=∀ x v lo hi w,V x v lo hi w→∃ z1 z2 z3 z4 z5,v=.agg #[.bool z1,.string z2,.slice z3 z4 z5]
theorem infoTy:(Tryz.prog.info? 35).map (fun i=>(i.zero,i.size,i.bytes))=some (some (.agg #[.bool false,.string ⟨#[]⟩,.slice none 0 0]),3,48):=by kernel_rfl
/-- The row as the loop holds it. -/
structure RowTy (V:Holds TypeT) (rd:Nat→Out TypeT) (mark:List UInt8) (most:Nat) (O:Out (List TypeT)) (w:World) (b:Nat) (A:Option Addr) (c:Nat) (ts:List Tok) (ne:Int) (v:Value) (wr:World) (m k:Nat) (acc:List TypeT) (vs:List Value) (g cap:Nat):Prop where
 out:rowLoop rd ts mark most m k acc=O
 fuel:ts.length < k+m
 le:k≤ts.length
 few:acc.length≤k
 val:v=.slice (some ⟨g,0,none⟩) acc.length cap
 own:wr.ownsRow w.heap.size 35 3 v acc.length (vs.flatMap cellsL)
 items:Items V w.heap.size wr.heap.size g wr acc vs
 par:Par wr b A c ts k ne
 fr:PFr b w wr
theorem RowTy.next {V:Holds TypeT} (hV:Stable V) {rd:Nat→Out TypeT} {mark:List UInt8} {most:Nat} {O:Out (List TypeT)} {w:World} {b:Nat} {A:Option Addr} {c:Nat} {ts:List Tok} {ne:Int} {v:Value} {wr:World} {m k:Nat} {acc:List TypeT} {vs:List Value} {g cap:Nat}
  (h:RowTy V rd mark most O w b A c ts ne v wr m k acc vs g cap) {k0:Nat} (h0:Par w b A c ts k0 ne) {x2:TypeT} {v2:Value} {k2 m2:Nat} {w4 w6:World} {o:Obj} {lo4 g2 cap2:Nat}
  (hout:rowLoop rd ts mark most m2 k2 (acc++[x2])=O) (hfu:ts.length < k2+m2) (hk:k < k2) (hk4:k2≤ts.length) (hf4:PFr b wr w4) (hp4:Par w4 b A c ts k2 ne) (hlo:wr.heap.size≤lo4) (hv4:V x2 v2 lo4 w4.heap.size w4)
  (hown:w6.ownsRow w.heap.size 35 3 (.slice (some ⟨g2,0,none⟩) (acc.length+1) cap2) (acc.length+1) (vs.flatMap cellsL++cellsL v2)) (hg:(w4.alloc o).grownBy w6 v.ownBlock) (hat:v.ownBlock=some g2 ∨ g2=(w4.alloc o).heap.size) :
  RowTy V rd mark most O w b A c ts ne (.slice (some ⟨g2,0,none⟩) (acc++[x2]).length cap2) w6 m2 k2 (acc++[x2]) (vs++[v2]) g2 cap2:=by
 have hvb:v.ownBlock=some g:=by rw [h.val];rfl
 have hgl:=h.own.lt g hvb
 rw [hvb] at hg hat
 have hbw:=h0.lt
 have hfr:PFr b w w6:=((h.fr.trans hf4).alloc o).grown hg (fun j hj=>by have:=Option.some.inj hj;omega)
 have hs6:w4.heap.size≤w6.heap.size:=by have:=hg.size;simp at this;omega
 have hblk:∀ j,j < w4.heap.size→j ≠ g→w6.heap[j]?=w4.heap[j]?:=fun j hj hn=>(hg.block j (by simp;omega) (fun e=>hn (Option.some.inj e))).trans (Below.heap_alloc w4 o j hj)
 have hlen:(acc++[x2]).length=acc.length+1:=by simp
 refine ⟨hout,hfu,hk4,?_,rfl,?_,?_,?_,hfr⟩
 ·have:=h.few;rw [hlen];omega
 ·rw [hlen,flat_snoc];exact hown
 ·have i1:=Items.fr hV hf4 hbw h.items
  have i2:=Items.snoc (x:=x2) (v:=v2) ⟨lo4,w4.heap.size,by have:=h.fr.size;omega,Nat.le_refl _,by omega,hv4⟩ i1
  exact Items.step hV (fun j _ j2 j3=>hblk j j2 j3) hs6 (by rcases hat with e | e;exact .inl (Option.some.inj e).symm;exact .inr (by rw [e];simp)) i2
 ·exact h0.move hfr ((hblk b hp4.lt (by omega)).trans hp4.blk) hp4.near hp4.nest0 hp4.nest1
set_option maxRecDepth 100000 in
set_option maxHeartbeats 2000000 in
theorem rowTy_any (b:Nat) (A:Option Addr) (c:Nat) (ts:List Tok) (ne:Int) (f:Nat→Addr) (V:Holds TypeT) (hV:Stable V) (hT:ThisTy V) (rd:Nat→Out TypeT) (hrd:Fwd ts rd) (mark:ByteArray) (most:Nat) (hmk:mark.data.toList ≠ [])
  (HR:Hid (∀ w k,Par w b A c ts k ne→PErrs w b f→k≤ts.length→Calls Tryz.prog 126 #[.pointer (some ⟨b,0,none⟩)] w fun e w'=>EndsV b A c ts ne f V w (rd k) e w'))
  (w:World) (k:Nat) (h:Par w b A c ts k ne) (hE:PErrs w b f) (hk:k≤ts.length) :
  Calls Tryz.prog 145 #[.pointer (some ⟨b,0,none⟩),.string mark,.int .i64 most,.func (.func 126) #[.pointer (some ⟨b,0,none⟩)] #[]] w fun e w'=>EndsV b A c ts ne f (RowV 35 3 V) w (rowO rd ts mark.data.toList most k) e w':=by
 have HP:=Lib.hid h
 have HE:=Lib.hid hE
 have hfw:=h.few
 have HMK:=Lib.hid hmk
 have HFW:=Lib.hid hrd
 unfold rowO
 have HC:=Lib.hid (HR.out w k h hE hk)
 clear h hE hrd
 obtain ⟨i0,hi,hz0,hz1,hz2⟩:=info_parts infoTy
 have HI0:=Lib.hid hi
 have HI1:=Lib.hid hz0
 have HI2:=Lib.hid hz1
 have HI3:=Lib.hid hz2
 clear hi hz0 hz1 hz2
 cases hr:rd k with
 | no i =>
  rw [hr] at HC
  go_enter Tryz.func145,Tryz.ntmps145
  go_wp2_with (go_at_call 126;refine HC.out.mono ?_;rintro e w1 ⟨rfl,h2,h3⟩)
  exact ⟨rfl,rfl,h2,h3⟩
 | ok x k' =>
  rw [hr] at HC
  obtain ⟨hk1,hk2⟩:=HFW.out _ _ _ hr
  show Calls _ _ _ _ fun e w'=>EndsV b A c ts ne f (RowV 35 3 V) w (rowLoop rd ts mark.data.toList most (ts.length+1) k' [x]) e w'
  have hO:rowLoop rd ts mark.data.toList most (ts.length+1) k' [x]=rowLoop rd ts mark.data.toList most (ts.length+1) k' [x]:=rfl
  generalize hOO:rowLoop rd ts mark.data.toList most (ts.length+1) k' [x]=O at hO ⊢
  clear hO
  have HO:=Lib.hid hOO
  clear hOO
  go_enter Tryz.func145,Tryz.ntmps145
  go_wp2_with (go_at_call 126;refine HC.out.mono ?_;rintro e w1 ⟨v,rfl,hv,hp1,hf1⟩;obtain ⟨p1,p2,p3,p4,p5,rfl⟩:=hT _ _ _ _ _ hv)
  have hst:RowTy V rd mark.data.toList most O w b A c ts ne (.slice (some ⟨w1.heap.size,0,none⟩) 1 1) (w1.alloc (.cells #[.bool p1,.string p2,.slice p3 p4 p5] 35)) (ts.length+1) k' [x] [.agg #[.bool p1,.string p2,.slice p3 p4 p5]] w1.heap.size 1:=by
   refine ⟨HO.out,by omega,hk2,by simp;omega,rfl,World.ownsRow_lit w1 _ 1 hf1.size (by decide) rfl,?_,hp1.alloc _,hf1.alloc _⟩
   refine ⟨⟨w.heap.size,w1.heap.size,Nat.le_refl _,by simp,by omega,?_⟩,trivial⟩
   exact hV _ _ _ _ _ _ hv (fun j _ hj=>Below.heap_alloc w1 _ j hj)
  have HS:=Lib.hid hst
  clear hst hv hp1 hf1 HC HO
  go_loopw [9] (fun v wr=>∃ m k acc vs g cap,v=.slice (some ⟨g,0,none⟩) acc.length cap∧Hid (RowTy V rd mark.data.toList most O w b A c ts ne v wr m k acc vs g cap)) (fun _ wr=>ts.length - (intOf ((wr.cell? ⟨b,1,none⟩).getD undef)).toNat)
  case atStart=>exact ⟨_,_,_,_,_,_,rfl,HS⟩
  case round =>
   obtain ⟨m,kr,acc,vs,g,cap,rfl,hI⟩:=hrel
   clear HS
   have HI:=hI
   have hI2:=hI.out
   have hfw2:=hI2.few
   have hle:=hI2.le
   have HA:=Lib.hid (accept_any wr b A c ts kr ne mark hI2.par (by omega))
   rw [hasT_eq] at HA
   have hout:=hI2.out
   have hfu:=hI2.fuel
   obtain ⟨m,rfl⟩:∃ m',m=m'+1:=⟨m - 1,by omega⟩
   rw [rowLoop] at hout
   have hp0:=hI2.par.c1
   cases hh:hasT ts kr mark.data.toList with
   | false =>
    rw [hh] at hout HA
    simp only [Bool.false_eq_true,if_false] at hout HA
    subst hout
    clear hI2 hfu
    go_wp2_with (go_at_call 123;refine HA.out.mono ?_;rintro e w2 ⟨rfl,hp2,hf2⟩)
    go_ret
    have hown:=own_fr HI.out.own hf2 HP.out.lt
    exact ⟨_,rfl,⟨g,cap,vs,rfl,(hown.lt g rfl).2,hown,Items.fr hV hf2 HP.out.lt HI.out.items⟩,hp2,HI.out.fr.trans hf2⟩
   | true =>
    rw [hh] at hout HA
    simp only [if_true] at hout HA
    have hin:kr < ts.length:=hasT_in hh HMK.out
    have hkr:kr+1≤ts.length:=by omega
    clear hI2
    by_cases hlen:acc.length=most
    ·by_cases hmo:kr+1 < ts.length
     ·rw [if_pos ⟨hlen,hmo⟩] at hout
      subst hout
      have hmq:decide (kr+1 < ts.length)=true:=by simpa using hmo
      have hle2:((acc.length:Int) == (most:Int))=true:=by simp;omega
      clear hlen
      go_wp2_with (first | (go_at_call 123;refine HA.out.mono ?_;rintro e w2 ⟨rfl,hp2,hf2⟩;have HP2:=Lib.hid hp2;have HF2:=Lib.hid hf2;have hlw:=World.block_lt_of_cell? _ _ (HE.out.move (HI.out.fr.trans hf2)).large;have hcl:=(HE.out.move (HI.out.fr.trans hf2)).large;clear hp2 hf2) | (go_at_call 94;refine (more_any _ b A c ts (kr+1) ne HP2.out).mono ?_;rw [hmq];rintro e w3 ⟨rfl,q,rfl⟩))
      exact ⟨rfl,rfl,⟨_,_,HP2.out.drewN q,Int.le_refl _⟩,(HI.out.fr.trans HF2.out).drewN q⟩
     ·rw [if_neg (fun h=>hmo h.2)] at hout
      have hmq:decide (kr+1 < ts.length)=false:=by simpa using hmo
      have hle2:((acc.length:Int) == (most:Int))=true:=by simp;omega
      clear hlen hmo
      cases hr2:rd (kr+1) with
      | no i =>
       rw [hr2] at hout
       subst hout
       have HR2:=Lib.hid (fun w h1 h2=>HR.out w (kr+1) h1 h2 hkr)
       rw [hr2] at HR2
       go_wp2_with (first | (go_at_call 123;refine HA.out.mono ?_;rintro e w2 ⟨rfl,hp2,hf2⟩;have HP2:=Lib.hid hp2;have HF2:=Lib.hid hf2;have hlw:=World.block_lt_of_cell? _ _ (HE.out.move (HI.out.fr.trans hf2)).large;have hcl:=(HE.out.move (HI.out.fr.trans hf2)).large;clear hp2 hf2) | (go_at_call 94;refine (more_any _ b A c ts (kr+1) ne HP2.out).mono ?_;rw [hmq];rintro e w3 ⟨rfl,q,rfl⟩) | (go_at_call 126;refine (HR2.out _ (HP2.out.drewN q) (HE.out.move (HI.out.fr.trans (HF2.out.drewN q)))).mono ?_;rintro e w4 ⟨rfl,h2,h3⟩))
       exact ⟨rfl,rfl,h2,(HI.out.fr.trans (HF2.out.drewN q)).trans h3⟩
      | ok x2 k2 =>
       rw [hr2] at hout
       have HO2:=Lib.hid hout
       clear hout
       obtain ⟨hk3,hk4⟩:=HFW.out _ _ _ hr2
       have hkk:kr < k2:=by omega
       have HR2:=Lib.hid (fun w h1 h2=>HR.out w (kr+1) h1 h2 hkr)
       rw [hr2] at HR2
       go_wp2_with (first | (go_at_call 123;refine HA.out.mono ?_;rintro e w2 ⟨rfl,hp2,hf2⟩;have HP2:=Lib.hid hp2;have HF2:=Lib.hid hf2;have hlw:=World.block_lt_of_cell? _ _ (HE.out.move (HI.out.fr.trans hf2)).large;have hcl:=(HE.out.move (HI.out.fr.trans hf2)).large;clear hp2 hf2) | (go_at_call 94;refine (more_any _ b A c ts (kr+1) ne HP2.out).mono ?_;rw [hmq];rintro e w3 ⟨rfl,q,rfl⟩) | (go_at_call 126;refine (HR2.out _ (HP2.out.drewN q) (HE.out.move (HI.out.fr.trans (HF2.out.drewN q)))).mono ?_;rintro e w4 ⟨v4,rfl,hv4,hp4,hf4⟩;obtain ⟨r1,r2,r3,r4,r5,rfl⟩:=hT _ _ _ _ _ hv4;have HP4:=Lib.hid hp4;have HF4:=Lib.hid ((HF2.out.drewN q).trans hf4);have HV4:=Lib.hid hv4;have HO4:=Lib.hid (own_fr HI.out.own HF4.out HP.out.lt);have hW4:w.heap.size≤w4.heap.size:=Nat.le_trans HI.out.fr.size HF4.out.size;have HLO:=HF2.out.size;clear hv4 hp4 hf4) | (at_builtin;refine wpList_append_lies _ rfl _ _ 24 rfl w.heap.size 35 i0 (.agg #[.bool false,.string ⟨#[]⟩,.slice none 0 0]) 3 48 Tryz.underlying24 HI0.out HI1.out HI2.out HI3.out rfl (by decide) _ _ _ rfl (HO4.out.alloc _) ⟨w4.heap.size,0,none⟩ 1 1 [.bool r1,.string r2,.slice r3 r4 r5] rfl rfl (cells_new _ #[.bool r1,.string r2,.slice r3 r4 r5] _ _ rfl) (by simp [Value.oneCell']) (by decide) (by unfold maxLen;omega) (by omega) (by simp;omega) _ rfl ?_;intro g2 cap2 w6 hown6 hg6 hat6 _;have HNX:=Lib.hid (RowTy.next hV HI.out HP.out HO2.out (by omega) hkk hk4 HF4.out HP4.out HLO HV4.out hown6 hg6 hat6);clear hown6 hg6 hat6))
       have hm4:=HNX.out.par.c1
       have hl2:(acc++[x2]).length=acc.length+1:=by simp
       rw [hl2] at HNX
       go_roundw
       case rel=>exact ⟨_,_,_,_,_,_,by rw [hl2],HNX⟩
       case measure=>simp [hm4,hp0,intOf];omega
    ·rw [if_neg (fun h=>hlen h.1)] at hout
     have hle2:((acc.length:Int) == (most:Int))=false:=by simp;omega
     clear hlen
     cases hr2:rd (kr+1) with
     | no i =>
      rw [hr2] at hout
      subst hout
      have HR2:=Lib.hid (fun w h1 h2=>HR.out w (kr+1) h1 h2 hkr)
      rw [hr2] at HR2
      go_wp2_with (first | (go_at_call 123;refine HA.out.mono ?_;rintro e w2 ⟨rfl,hp2,hf2⟩;have HP2:=Lib.hid hp2;have HF2:=Lib.hid hf2;have hlw:=World.block_lt_of_cell? _ _ (HE.out.move (HI.out.fr.trans hf2)).large;have hcl:=(HE.out.move (HI.out.fr.trans hf2)).large;clear hp2 hf2) | (go_at_call 126;refine (HR2.out _ HP2.out (HE.out.move (HI.out.fr.trans HF2.out))).mono ?_;rintro e w4 ⟨rfl,h2,h3⟩))
      exact ⟨rfl,rfl,h2,(HI.out.fr.trans HF2.out).trans h3⟩
     | ok x2 k2 =>
      rw [hr2] at hout
      have HO2:=Lib.hid hout
      clear hout
      obtain ⟨hk3,hk4⟩:=HFW.out _ _ _ hr2
      have hkk:kr < k2:=by omega
      have HR2:=Lib.hid (fun w h1 h2=>HR.out w (kr+1) h1 h2 hkr)
      rw [hr2] at HR2
      go_wp2_with (first | (go_at_call 123;refine HA.out.mono ?_;rintro e w2 ⟨rfl,hp2,hf2⟩;have HP2:=Lib.hid hp2;have HF2:=Lib.hid hf2;have hlw:=World.block_lt_of_cell? _ _ (HE.out.move (HI.out.fr.trans hf2)).large;have hcl:=(HE.out.move (HI.out.fr.trans hf2)).large;clear hp2 hf2) | (go_at_call 126;refine (HR2.out _ HP2.out (HE.out.move (HI.out.fr.trans HF2.out))).mono ?_;rintro e w4 ⟨v4,rfl,hv4,hp4,hf4⟩;obtain ⟨r1,r2,r3,r4,r5,rfl⟩:=hT _ _ _ _ _ hv4;have HP4:=Lib.hid hp4;have HF4:=Lib.hid (HF2.out.trans hf4);have HV4:=Lib.hid hv4;have HO4:=Lib.hid (own_fr HI.out.own HF4.out HP.out.lt);have hW4:w.heap.size≤w4.heap.size:=Nat.le_trans HI.out.fr.size HF4.out.size;have HLO:=HF2.out.size;clear hv4 hp4 hf4) | (at_builtin;refine wpList_append_lies _ rfl _ _ 24 rfl w.heap.size 35 i0 (.agg #[.bool false,.string ⟨#[]⟩,.slice none 0 0]) 3 48 Tryz.underlying24 HI0.out HI1.out HI2.out HI3.out rfl (by decide) _ _ _ rfl (HO4.out.alloc _) ⟨w4.heap.size,0,none⟩ 1 1 [.bool r1,.string r2,.slice r3 r4 r5] rfl rfl (cells_new _ #[.bool r1,.string r2,.slice r3 r4 r5] _ _ rfl) (by simp [Value.oneCell']) (by decide) (by unfold maxLen;omega) (by omega) (by simp;omega) _ rfl ?_;intro g2 cap2 w6 hown6 hg6 hat6 _;have HNX:=Lib.hid (RowTy.next hV HI.out HP.out HO2.out (by omega) hkk hk4 HF4.out HP4.out HLO HV4.out hown6 hg6 hat6);clear hown6 hg6 hat6))
      have hm4:=HNX.out.par.c1
      have hl2:(acc++[x2]).length=acc.length+1:=by simp
      rw [hl2] at HNX
      go_roundw
      case rel=>exact ⟨_,_,_,_,_,_,by rw [hl2],HNX⟩
      case measure=>simp [hm4,hp0,intOf];omega
end Lx
end Go.Proofs.YtiljemkglhloeaaGreatDoor
namespace Go.Proofs.YtiljemkglhloeaaGreatDoor
set_option linter.unusedSimpArgs false
set_option linter.unusedVariables false
namespace Lx
open Go Go.RowKit
set_option maxRecDepth 100000 in
set_option maxHeartbeats 2000000 in
theorem argsTy_any (b:Nat) (A:Option Addr) (c:Nat) (ts:List Tok) (ne:Int) (f:Nat→Addr) (V:Holds TypeT) (hV:Stable V) (hT:ThisTy V) (rd:Nat→Out TypeT) (hrd:Fwd ts rd)
  (HR:Hid (∀ w k,Par w b A c ts k ne→PErrs w b f→k≤ts.length→Calls Tryz.prog 126 #[.pointer (some ⟨b,0,none⟩)] w fun e w'=>EndsV b A c ts ne f V w (rd k) e w'))
  (w:World) (k:Nat) (h:Par w b A c ts k ne) (hE:PErrs w b f) (hk:k≤ts.length) :
  Calls Tryz.prog 125 #[.pointer (some ⟨b,0,none⟩),.func (.func 126) #[.pointer (some ⟨b,0,none⟩)] #[]] w fun e w'=>EndsV b A c ts ne f (ArgsV 35 3 V) w (argsO rd ts k) e w':=by
 have HP:=Lib.hid h
 have HE:=Lib.hid hE
 have hfw:=h.few
 have HA:=Lib.hid (accept_any w b A c ts k ne ⟨#[40]⟩ h (by omega))
 rw [hasT_eq] at HA
 unfold argsO
 have e40:(ByteArray.mk #[40]).data.toList=[40]:=rfl
 rw [e40] at HA
 clear h hE e40
 cases hh:hasT ts k [40] with
 | false =>
  rw [hh] at HA
  simp only [Bool.false_eq_true,if_false] at HA ⊢
  go_enter Tryz.func125,Tryz.ntmps125
  go_wp2_with (go_at_call 123;refine HA.out.mono ?_;rintro e w2 ⟨rfl,hp2,hf2⟩)
  go_ret
  exact ⟨_,rfl,.inl ⟨rfl,rfl⟩,hp2,hf2⟩
 | true =>
  rw [hh] at HA
  simp only [if_true] at HA ⊢
  have hin:k < ts.length:=hasT_in hh (by decide)
  have HRow:=Lib.hid (fun w h hE=>rowTy_any b A c ts ne f V hV hT rd hrd ⟨#[44]⟩ 8 (by decide) HR w (k+1) h hE (by omega))
  have e44:(ByteArray.mk #[44]).data.toList=[44]:=rfl
  rw [e44] at HRow
  clear e44
  cases hr:rowO rd ts [44] 8 (k+1) with
  | no i =>
   rw [hr] at HRow
   go_enter Tryz.func125,Tryz.ntmps125
   go_wp2_with (first | (go_at_call 123;refine HA.out.mono ?_;rintro e w2 ⟨rfl,hp2,hf2⟩) | (go_at_call 145;refine (HRow.out _ hp2 (HE.out.move hf2)).mono ?_;rintro e w3 ⟨rfl,h2,h3⟩))
   exact ⟨rfl,rfl,h2,hf2.trans h3⟩
  | ok l k2 =>
   rw [hr] at HRow
   obtain ⟨hk1,hk2⟩:=rowO_fwd hrd _ _ _ _ _ hr
   have HX:=Lib.hid (fun w h hE=>expect_any w b A c ts k2 ne f ⟨#[41]⟩ h (by omega) hE)
   rw [expO_eq] at HX
   have e41:(ByteArray.mk #[41]).data.toList=[41]:=rfl
   rw [e41] at HX
   clear e41
   show Calls _ _ _ _ fun e w'=>EndsV b A c ts ne f (ArgsV 35 3 V) w (match expO ts k2 [41] with | .no i=>.no i | .ok _ k2=>.ok l k2) e w'
   cases hx:expO ts k2 [41] with
   | no i =>
    rw [hx] at HX
    go_enter Tryz.func125,Tryz.ntmps125
    go_wp2_with (first | (go_at_call 123;refine HA.out.mono ?_;rintro e w2 ⟨rfl,hp2,hf2⟩) | (go_at_call 145;refine (HRow.out _ hp2 (HE.out.move hf2)).mono ?_;rintro e w3 ⟨v3,rfl,hv3,hp3,hf3⟩;obtain ⟨g,cap,vs,rfl,hg3⟩:=hv3;have HG:=Lib.hid hg3;clear hg3) | (go_at_call 96;refine (HX.out _ hp3 (HE.out.move (hf2.trans hf3))).mono ?_;rintro e w4 ⟨rfl,h2,h3⟩))
    exact ⟨rfl,rfl,h2,(hf2.trans hf3).trans h3⟩
   | ok u k3 =>
    rw [hx] at HX
    go_enter Tryz.func125,Tryz.ntmps125
    go_wp2_with (first | (go_at_call 123;refine HA.out.mono ?_;rintro e w2 ⟨rfl,hp2,hf2⟩) | (go_at_call 145;refine (HRow.out _ hp2 (HE.out.move hf2)).mono ?_;rintro e w3 ⟨v3,rfl,hv3,hp3,hf3⟩;obtain ⟨g,cap,vs,rfl,hg3⟩:=hv3;have HG:=Lib.hid hg3;clear hg3) | (go_at_call 96;refine (HX.out _ hp3 (HE.out.move (hf2.trans hf3))).mono ?_;rintro e w4 ⟨v4,rfl,rfl,hp4,hf4⟩))
    go_ret
    refine ⟨_,rfl,.inr ?_,hp4,(hf2.trans hf3).trans hf4⟩
    have hrow:RowV 35 3 V l (.slice (some ⟨g,0,none⟩) l.length cap) w2.heap.size w3.heap.size w3:=⟨g,cap,vs,rfl,HG.out⟩
    have h4:=RowV.stable 35 3 hV _ _ _ _ _ w4 hrow (fun j j1 j2=>hf4.block j j2 (by have:=hp2.lt;omega))
    exact RowV.wide h4 hf2.size hf4.size
end Lx
end Go.Proofs.YtiljemkglhloeaaGreatDoor
namespace Go.Proofs.YtiljemkglhloeaaGreatDoor
set_option linter.unusedSimpArgs false
set_option linter.unusedVariables false
namespace Lx
open Go Go.RowKit
/-- A type's cells, its arguments so many rows deep. -/
def TypeV:Nat→Holds TypeT
 | 0=>fun _ _ _ _ _=>False
 | d+1=>fun x v lo hi w=>match x with
  | .mk k s l=>∃ va,v=.agg #[.bool k,.string (bs s),va]∧ArgsV 35 3 (TypeV d) l va lo hi w
theorem TypeV.wide:∀ (d:Nat) (x:TypeT) (v:Value) (lo hi lo' hi':Nat) (w:World),TypeV d x v lo hi w→lo'≤lo→hi≤hi'→TypeV d x v lo' hi' w
 | 0,_,_,_,_,_,_,_,h,_,_=>h.elim
 | _+1,⟨_,_,_⟩,_,_,_,_,_,_,⟨va,hv,ha⟩,h1,h2=>⟨va,hv,ha.wide h1 h2⟩
theorem TypeV.stable:∀ d,Stable (TypeV d)
 | 0=>fun _ _ _ _ _ _ h _=>h.elim
 | d+1=>by
  rintro ⟨k,s,l⟩ v lo hi w w' ⟨va,hv,ha⟩ h
  exact ⟨va,hv,ArgsV.stable _ _ (TypeV.stable d) _ _ _ _ _ _ ha h⟩
theorem TypeV.this:∀ d,ThisTy (TypeV d)
 | 0=>fun _ _ _ _ _ h=>h.elim
 | d+1=>by
  rintro ⟨k,s,l⟩ v lo hi w ⟨va,rfl,ha⟩
  rcases ha with ⟨_,rfl⟩ | ⟨g,cap,vs,rfl,_⟩
  ·exact ⟨_,_,_,_,_,rfl⟩
  ·exact ⟨_,_,_,_,_,rfl⟩
def typeO (ts:List Tok):Nat→Int→Nat→Out TypeT
 | 0,_,_=>.no 2
 | m+1,ne,k =>
  match enterO ts k ne with
  | .no i=>.no i
  | .ok _ _ =>
   if (peekT ts k).kind=2 then .ok (.mk true (peekT ts k).text []) (k+1)
   else if hasT ts k [105,110,116]=true then .ok (.mk false [105,110,116] []) (k+1)
   else match nameO ts k with
    | .no i=>.no i
    | .ok s k1=>match argsO (typeO ts m (ne+1)) ts k1 with
     | .no i=>.no i
     | .ok l k2=>.ok (.mk false s l) k2
theorem typeO_fwd (ts:List Tok):∀ (m:Nat) (ne:Int),Fwd ts (typeO ts m ne)
 | 0,_,_,_,_,h=>by simp [typeO] at h
 | m+1,ne,k,x,k',h=>by
  rw [typeO] at h
  split at h
  ·cases h
  ·split at h
   ·rename_i hc
    injection h with _ h2
    subst h2
    have:=peek_kind (ts:=ts) (k:=k) (by rw [hc];decide)
    omega
   ·split at h
    ·rename_i hc
     injection h with _ h2
     subst h2
     have:=hasT_in hc (by decide)
     omega
    ·split at h
     ·cases h
     ·rename_i s k1 he
      have h1:=nameO_fwd ts _ _ _ he
      split at h
      ·cases h
      ·rename_i l k2 he2
       injection h with _ h3
       subst h3
       have h2:=argsO_fwd (typeO_fwd ts m (ne+1)) he2 h1.2
       omega
/-- The variable of a type's result, behind the readings. -/
theorem boxTy {w w':World} {o:Obj} {b:Nat} {cs:Array Value} (hf:PFr b (w.alloc o) w') (hb:b < w.heap.size) (h:(w.alloc o).heap[w.heap.size]?=some (.cells cs 35 (0,0))):w'.heap[w.heap.size]?=some (.cells cs 35 (0,0)) :=
 (hf.block w.heap.size (by simp) (Nat.ne_of_gt hb)).trans h
theorem putTy {w w3:World} {o:Obj} {b:Nat} {A:Option Addr} {c:Nat} {ts:List Tok} {k k':Nat} {ne ne':Int} {y0 y1 y2:Value} (h:Par w b A c ts k ne) (hf:PFr b (w.alloc o) w3) (hp:Par w3 b A c ts k' ne')
  (hb:w3.heap[w.heap.size]?=some (.cells #[y0,y1,y2] 35 (0,0))) (x0 x1 x2:Value) :
  (((w3.setCell ⟨w.heap.size,0,none⟩ x0).setCell ⟨w.heap.size,1,none⟩ x1).setCell ⟨w.heap.size,2,none⟩ x2).heap[w.heap.size]?=some (.cells #[x0,x1,x2] 35 (0,0)) ∧
  Par (((w3.setCell ⟨w.heap.size,0,none⟩ x0).setCell ⟨w.heap.size,1,none⟩ x1).setCell ⟨w.heap.size,2,none⟩ x2) b A c ts k' ne' ∧
  PFr b w (((w3.setCell ⟨w.heap.size,0,none⟩ x0).setCell ⟨w.heap.size,1,none⟩ x1).setCell ⟨w.heap.size,2,none⟩ x2):=by
 have hfr:=((((((PFr.refl b w).alloc o).trans hf).putNew (Nat.le_refl _) 0 x0).putNew (Nat.le_refl _) 1 x1).putNew (Nat.le_refl _) 2 x2)
 have hn:b ≠ w.heap.size:=Nat.ne_of_lt h.lt
 refine ⟨blk_put _ _ 2 x2 (blk_put _ _ 1 x1 (blk_put w3 _ 0 x0 hb (by show 0 < 3;decide)) (by show 1 < 3;decide)) (by show 2 < 3;decide),h.move hfr ?_ hp.near hp.nest0 hp.nest1,hfr⟩
 rw [Below.heap_setCell _ _ _ b hn,Below.heap_setCell _ _ _ b hn,Below.heap_setCell _ _ _ b hn]
 exact hp.blk
/-- The end of a type's reading: the deferred leave, then the result. -/
theorem type_door {b:Nat} {A:Option Addr} {c:Nat} {ts:List Tok} {ne:Int} {f:Nat→Addr} {m:Nat} {w X:World} {k':Nat} {x:TypeT} {x0 x1 x2:Value} {tmps:Array Value} (h0:0≤ne) (hb:b < w.heap.size)
  (ht:tmps[2]?.getD undef=.pointer (some ⟨w.heap.size,0,none⟩)) (hX:X.heap[w.heap.size]?=some (.cells #[x0,x1,x2] 35 (0,0))) (hp:Par X b A c ts k' (ne+1)) (hf:PFr b w X) (hV:TypeV (m+1) x (.agg #[x0,x1,x2]) w.heap.size X.heap.size X) :
  bodyPostD Tryz.prog Tryz.f126 (fun e w'=>EndsV b A c ts ne f (TypeV (m+1)) w (.ok x k') e w') Exit.ret { tmps:=tmps,defers:=[{ target:=Target.fn (Fn.func 110) #[],args:=#[.pointer (some ⟨b,0,none⟩)] }] } X:=by
 refine leaves_cons (f:=110) (args:=#[.pointer (some ⟨b,0,none⟩)]) (by simp) (by simp [go_sem]) ?_
 refine (leave_any X b A c ts k' (ne+1) hp .returning (by omega)).mono ?_
 rintro e u' w' ⟨rfl,rfl,hp',hf'⟩
 have hbx:=(hf'.block w.heap.size (Array.getElem?_eq_some_iff.1 hX).1 (Nat.ne_of_gt hb)).trans hX
 have d0:=(Lib.cell_of_heap hbx 0).trans rfl
 have d1:=(Lib.cell_of_heap hbx 1).trans rfl
 have d2:=(Lib.cell_of_heap hbx 2).trans rfl
 have e1:ne+1 - 1=ne:=by omega
 rw [e1] at hp'
 refine ⟨.agg #[x0,x1,x2],by simp [results,Tryz.results126,go_sem,ht,d0,d1,d2],_,rfl,?_,hp',hf.trans hf'⟩
 exact TypeV.wide _ _ _ _ _ _ _ _ (TypeV.stable _ _ _ _ _ _ w' hV (fun j j1 j2=>hf'.block j j2 (by omega))) (Nat.le_refl _) hf'.size
theorem type_fall {b:Nat} {A:Option Addr} {c:Nat} {ts:List Tok} {ne:Int} {f:Nat→Addr} {m i:Nat} {w X:World} {tmps:Array Value} (h0:0≤ne) (hp:∃ k' ne',Par X b A c ts k' ne'∧ne+1≤ne') (hf:PFr b w X) :
  bodyPostD Tryz.prog Tryz.f126 (fun e w'=>EndsV b A c ts ne f (TypeV (m+1)) w (.no i) e w') (Exit.panic [{ v:=.iface 151 (.agg #[errP (f i)]),recovered:=false }]) { tmps:=tmps,defers:=[{ target:=Target.fn (Fn.func 110) #[],args:=#[.pointer (some ⟨b,0,none⟩)] }] } X:=by
 obtain ⟨k',ne',hp,hn⟩:=hp
 refine leaves_cons (f:=110) (args:=#[.pointer (some ⟨b,0,none⟩)]) (by simp) (by simp [go_sem]) ?_
 refine (leave_any X b A c ts k' ne' hp (.panicking _) (by omega)).mono ?_
 rintro e u' w' ⟨rfl,rfl,hp',hf'⟩
 exact ⟨rfl,⟨_,_,hp',by omega⟩,hf.trans hf'⟩
set_option maxRecDepth 100000 in
set_option maxHeartbeats 4000000 in
theorem type_step (b:Nat) (A:Option Addr) (c:Nat) (ts:List Tok) (f:Nat→Addr) (m:Nat) (ne:Int) (h0:0≤ne) (h1:ne≤70000)
  (HR:Hid (ne < 64→∀ w k,Par w b A c ts k (ne+1)→PErrs w b f→k≤ts.length→Calls Tryz.prog 126 #[.pointer (some ⟨b,0,none⟩)] w fun e w'=>EndsV b A c ts (ne+1) f (TypeV m) w (typeO ts m (ne+1) k) e w'))
  (w:World) (k:Nat) (h:Par w b A c ts k ne) (hE:PErrs w b f) (hk:k≤ts.length) :
  Calls Tryz.prog 126 #[.pointer (some ⟨b,0,none⟩)] w fun e w'=>EndsV b A c ts ne f (TypeV (m+1)) w (typeO ts (m+1) ne k) e w':=by
 have HP:=Lib.hid h
 have HE:=Lib.hid hE
 have hfw:=h.few
 have H1:=Lib.hid (fun w h hE=>enter_any w b A c ts k ne f h (by omega) hE)
 have H2:=Lib.hid (fun w h=>peek_any w b A c ts k (ne+1) h)
 have H3:=Lib.hid (fun w h hE=>name_any w b A c ts k (ne+1) f h (by omega) hE)
 have H4:=Lib.hid (fun w h=>next_any w b A c ts k (ne+1) h (by omega))
 have HA:=Lib.hid (fun w h=>accept_any w b A c ts k (ne+1) ⟨#[105,110,116]⟩ h (by omega))
 rw [hasT_eq,show (ByteArray.mk #[105,110,116]).data.toList=[105,110,116] from rfl] at HA
 have HEO:=Lib.hid (show 64 < ne+1∧k < ts.length→enterO ts k ne=.no 0 from fun h=>by simp [enterO,h])
 rw [typeO]
 clear h hE
 cases he:enterO ts k ne with
 | no i =>
  rw [he] at H1
  go_enter_defers Tryz.func126,Tryz.ntmps126
  go_wp2_with (go_at_call 109;refine (H1.out _ (HP.out.alloc _) (HE.out.move ((PFr.refl b w).alloc _))).mono ?_;rintro e w1 ⟨rfl,h2,h3⟩)
  obtain ⟨kq,nq,hpq,hnq⟩:=h2
  exact ⟨rfl,⟨kq,nq,hpq,by omega⟩,((PFr.refl b w).alloc _).trans h3⟩
 | ok u ku =>
  obtain rfl:ku=k:=by
   unfold enterO at he
   split at he
   ·cases he
   ·injection he with _ h2;exact h2.symm
  rw [he] at H1
  by_cases hx2:(peekT ts ku).kind=2
  ·simp only [hx2,if_true]
   rw [hx2] at H2 H4
   generalize (peekT ts ku).text=y at *
   generalize (peekT ts ku).num=z at *
   have q0:=tokF0 2 z (bs y)
   have q1:=tokF1 2 z (bs y)
   go_enter_defers Tryz.func126,Tryz.ntmps126
   go_wp2_with (first | (go_at_call 109;refine (H1.out _ (HP.out.alloc _) (HE.out.move ((PFr.refl b w).alloc _))).mono ?_;rintro e w1 ⟨v,rfl,rfl,hp1,hf1⟩) | (go_at_call 111;refine (H2.out _ hp1).mono ?_;rintro e w2 ⟨rfl,hp2,hf2⟩) | (go_at_call 112;refine (H4.out _ hp2).mono ?_;rintro e w3 ⟨rfl,hp3,hf3⟩;have hb:=boxTy (hf1.trans (hf2.trans hf3)) HP.out.lt (heap_alloc_new w _);have d0:=(Lib.cell_of_heap hb 0).trans rfl;have d1:=(Lib.cell_of_heap hb 1).trans rfl;have d2:=(Lib.cell_of_heap hb 2).trans rfl;have g0:=Lib.frozen_of_heap hb 0;have g1:=Lib.frozen_of_heap hb 1;have g2:=Lib.frozen_of_heap hb 2;have HB:=Lib.hid hb;clear hb))
   obtain ⟨t1,t2,t3⟩:=putTy HP.out (hf1.trans (hf2.trans hf3)) hp3 HB.out (.bool true) (.string (bs y)) (.slice none 0 0)
   exact type_door (x0:=.bool true) (x1:=.string (bs y)) (x2:=.slice none 0 0) h0 HP.out.lt rfl t1 t2 t3 ⟨_,rfl,.inl ⟨rfl,rfl⟩⟩
  ·have hs2:((peekT ts ku).kind == 2)=false:=by simpa using hx2
   have q0:=tokF0 (peekT ts ku).kind (peekT ts ku).num (bs (peekT ts ku).text)
   have hlt:nameO ts ku ≠ .no 2→ku < ts.length:=fun hne=>by
    rcases hq:nameO ts ku with ⟨s,k1⟩ | i
    ·have:=nameO_fwd ts _ _ _ hq;omega
    ·unfold nameO at hq hne
     split at hq
     ·cases hq
     ·rename_i hc;rw [if_neg hc] at hne;exact absurd rfl hne
   simp only [hx2,if_false]
   generalize (peekT ts ku).kind=x at *
   generalize bs (peekT ts ku).text=y at *
   generalize (peekT ts ku).num=z at *
   cases hi:hasT ts ku [105,110,116] with
   | true =>
    rw [hi] at HA
    simp only [if_true] at HA ⊢
    clear hx2 hlt
    go_enter_defers Tryz.func126,Tryz.ntmps126
    go_wp2_with (first | (go_at_call 109;refine (H1.out _ (HP.out.alloc _) (HE.out.move ((PFr.refl b w).alloc _))).mono ?_;rintro e w1 ⟨v,rfl,rfl,hp1,hf1⟩) | (go_at_call 111;refine (H2.out _ hp1).mono ?_;rintro e w2 ⟨rfl,hp2,hf2⟩) | (go_at_call 123;refine (HA.out _ hp2).mono ?_;rintro e w3 ⟨rfl,hp3,hf3⟩;have hb:=boxTy (hf1.trans (hf2.trans hf3)) HP.out.lt (heap_alloc_new w _);have d0:=(Lib.cell_of_heap hb 0).trans rfl;have d1:=(Lib.cell_of_heap hb 1).trans rfl;have d2:=(Lib.cell_of_heap hb 2).trans rfl;have g0:=Lib.frozen_of_heap hb 0;have g1:=Lib.frozen_of_heap hb 1;have g2:=Lib.frozen_of_heap hb 2;have HB:=Lib.hid hb;clear hb))
    obtain ⟨t1,t2,t3⟩:=putTy HP.out (hf1.trans (hf2.trans hf3)) hp3 HB.out (.bool false) (.string ⟨#[105,110,116]⟩) (.slice none 0 0)
    exact type_door (x0:=.bool false) (x1:=.string ⟨#[105,110,116]⟩) (x2:=.slice none 0 0) h0 HP.out.lt rfl t1 t2 t3 ⟨_,rfl,.inl ⟨rfl,rfl⟩⟩
   | false =>
    rw [hi] at HA
    simp only [Bool.false_eq_true,if_false] at HA ⊢
    cases hno:nameO ts ku with
    | no i =>
     rw [hno] at H3
     clear hx2 hlt hno
     go_enter_defers Tryz.func126,Tryz.ntmps126
     go_wp2_with (first | (go_at_call 109;refine (H1.out _ (HP.out.alloc _) (HE.out.move ((PFr.refl b w).alloc _))).mono ?_;rintro e w1 ⟨v,rfl,rfl,hp1,hf1⟩) | (go_at_call 111;refine (H2.out _ hp1).mono ?_;rintro e w2 ⟨rfl,hp2,hf2⟩) | (go_at_call 123;refine (HA.out _ hp2).mono ?_;rintro e w3 ⟨rfl,hp3,hf3⟩) | (go_at_call 113;refine (H3.out _ hp3 ((HE.out.move ((PFr.refl b w).alloc _)).move (hf1.trans (hf2.trans hf3)))).mono ?_;rintro e w4 ⟨rfl,h2,h3⟩))
     exact type_fall h0 h2 (((PFr.refl b w).alloc _).trans (hf1.trans (hf2.trans (hf3.trans h3))))
    | ok s k1 =>
     have hf:=nameO_fwd ts _ _ _ hno
     have hne64:ne < 64:=by
      rcases Int.lt_or_le ne 64 with h | h
      ·exact h
      ·have:=HEO.out ⟨by omega,by omega⟩
       rw [he] at this
       cases this
     rw [hno] at H3
     have HARG:=Lib.hid (fun w h hE=>argsTy_any b A c ts (ne+1) f (TypeV m) (TypeV.stable m) (TypeV.this m) (typeO ts m (ne+1)) (typeO_fwd ts m (ne+1)) (Lib.hid (HR.out hne64)) w k1 h hE hf.2)
     show Calls _ _ _ _ fun e w'=>EndsV b A c ts ne f (TypeV (m+1)) w (match argsO (typeO ts m (ne+1)) ts k1 with | .no i=>.no i | .ok l k2=>.ok (.mk false s l) k2) e w'
     clear hx2 hlt hno hne64 hf
     cases ha:argsO (typeO ts m (ne+1)) ts k1 with
     | no i =>
      rw [ha] at HARG
      go_enter_defers Tryz.func126,Tryz.ntmps126
      go_wp2_with (first | (go_at_call 109;refine (H1.out _ (HP.out.alloc _) (HE.out.move ((PFr.refl b w).alloc _))).mono ?_;rintro e w1 ⟨v,rfl,rfl,hp1,hf1⟩) | (go_at_call 111;refine (H2.out _ hp1).mono ?_;rintro e w2 ⟨rfl,hp2,hf2⟩) | (go_at_call 123;refine (HA.out _ hp2).mono ?_;rintro e w3 ⟨rfl,hp3,hf3⟩) | (go_at_call 113;refine (H3.out _ hp3 ((HE.out.move ((PFr.refl b w).alloc _)).move (hf1.trans (hf2.trans hf3)))).mono ?_;rintro e w4 ⟨v,rfl,rfl,hp4,hf4⟩) | (go_at_call 125;refine (HARG.out _ hp4 ((HE.out.move ((PFr.refl b w).alloc _)).move (hf1.trans (hf2.trans (hf3.trans hf4))))).mono ?_;rintro e w5 ⟨rfl,h2,h3⟩))
      exact type_fall h0 h2 (((PFr.refl b w).alloc _).trans (hf1.trans (hf2.trans (hf3.trans (hf4.trans h3)))))
     | ok l k2 =>
      rw [ha] at HARG
      go_enter_defers Tryz.func126,Tryz.ntmps126
      go_wp2_with (first | (go_at_call 109;refine (H1.out _ (HP.out.alloc _) (HE.out.move ((PFr.refl b w).alloc _))).mono ?_;rintro e w1 ⟨v,rfl,rfl,hp1,hf1⟩) | (go_at_call 111;refine (H2.out _ hp1).mono ?_;rintro e w2 ⟨rfl,hp2,hf2⟩) | (go_at_call 123;refine (HA.out _ hp2).mono ?_;rintro e w3 ⟨rfl,hp3,hf3⟩) | (go_at_call 113;refine (H3.out _ hp3 ((HE.out.move ((PFr.refl b w).alloc _)).move (hf1.trans (hf2.trans hf3)))).mono ?_;rintro e w4 ⟨v,rfl,rfl,hp4,hf4⟩) | (go_at_call 125;refine (HARG.out _ hp4 ((HE.out.move ((PFr.refl b w).alloc _)).move (hf1.trans (hf2.trans (hf3.trans hf4))))).mono ?_;rintro e w5 ⟨v5,rfl,hv5,hp5,hf5⟩;obtain ⟨s1,s2,s3,rfl⟩:=hv5.slice;have HV5:=Lib.hid hv5;clear hv5;have hb:=boxTy (hf1.trans (hf2.trans (hf3.trans (hf4.trans hf5)))) HP.out.lt (heap_alloc_new w _);have d0:=(Lib.cell_of_heap hb 0).trans rfl;have d1:=(Lib.cell_of_heap hb 1).trans rfl;have d2:=(Lib.cell_of_heap hb 2).trans rfl;have g0:=Lib.frozen_of_heap hb 0;have g1:=Lib.frozen_of_heap hb 1;have g2:=Lib.frozen_of_heap hb 2;have HB:=Lib.hid hb;clear hb))
      obtain ⟨t1,t2,t3⟩:=putTy HP.out (hf1.trans (hf2.trans (hf3.trans (hf4.trans hf5)))) hp5 HB.out (.bool false) (.string (bs s)) (.slice s1 s2 s3)
      refine type_door (x0:=.bool false) (x1:=.string (bs s)) (x2:=.slice s1 s2 s3) h0 HP.out.lt rfl t1 t2 t3 ⟨_,rfl,?_⟩
      have hsz:w.heap.size < w4.heap.size:=by have:=(hf1.trans (hf2.trans (hf3.trans hf4))).size;simp at this;omega
      refine ArgsV.wide (ArgsV.stable _ _ (TypeV.stable m) _ _ _ _ _ _ HV5.out (fun j j1 _=>?_)) (Nat.le_of_lt hsz) (by simp [World.setCell])
      have hj:j ≠ w.heap.size:=by omega
      rw [Below.heap_setCell _ _ _ j hj,Below.heap_setCell _ _ _ j hj,Below.heap_setCell _ _ _ j hj]
/-- A type, at whatever nest. -/
theorem type_any (b:Nat) (A:Option Addr) (c:Nat) (ts:List Tok) (f:Nat→Addr):∀ (m:Nat) (ne:Int),65≤ne+m→0≤ne→ne≤70000→∀ (w:World) (k:Nat),Par w b A c ts k ne→PErrs w b f→k≤ts.length →
  Calls Tryz.prog 126 #[.pointer (some ⟨b,0,none⟩)] w fun e w'=>EndsV b A c ts ne f (TypeV (m+1)) w (typeO ts (m+1) ne k) e w'
 | 0,ne,hm,h0,h1,w,k,h,hE,hk=>type_step b A c ts f 0 ne h0 h1 (Lib.hid (fun hn=>by omega)) w k h hE hk
 | m+1,ne,hm,h0,h1,w,k,h,hE,hk =>
  type_step b A c ts f (m+1) ne h0 h1 (Lib.hid (fun hn=>type_any b A c ts f m (ne+1) (by omega) (by omega) (by omega))) w k h hE hk
end Lx
end Go.Proofs.YtiljemkglhloeaaGreatDoor
namespace Go.Proofs.YtiljemkglhloeaaGreatDoor
set_option linter.unusedSimpArgs false
set_option linter.unusedVariables false
namespace Lx
open Go Go.RowKit
inductive CtorT where
 | mk:List UInt8→List TypeT→CtorT
def ThisCt (V:Holds CtorT):Prop:=∀ x v lo hi w,V x v lo hi w→∃ z1 z2 z3 z4,v=.agg #[.string z1,.slice z2 z3 z4]
theorem infoCt:(Tryz.prog.info? 79).map (fun i=>(i.zero,i.size,i.bytes))=some (some (.agg #[.string ⟨#[]⟩,.slice none 0 0]),2,40):=by kernel_rfl
/-- The row as the loop holds it. -/
structure RowCt (V:Holds CtorT) (rd:Nat→Out CtorT) (mark:List UInt8) (most:Nat) (O:Out (List CtorT)) (w:World) (b:Nat) (A:Option Addr) (c:Nat) (ts:List Tok) (ne:Int) (v:Value) (wr:World) (m k:Nat) (acc:List CtorT) (vs:List Value) (g cap:Nat):Prop where
 out:rowLoop rd ts mark most m k acc=O
 fuel:ts.length < k+m
 le:k≤ts.length
 few:acc.length≤k
 val:v=.slice (some ⟨g,0,none⟩) acc.length cap
 own:wr.ownsRow w.heap.size 79 2 v acc.length (vs.flatMap cellsL)
 items:Items V w.heap.size wr.heap.size g wr acc vs
 par:Par wr b A c ts k ne
 fr:PFr b w wr
theorem RowCt.next {V:Holds CtorT} (hV:Stable V) {rd:Nat→Out CtorT} {mark:List UInt8} {most:Nat} {O:Out (List CtorT)} {w:World} {b:Nat} {A:Option Addr} {c:Nat} {ts:List Tok} {ne:Int} {v:Value} {wr:World} {m k:Nat} {acc:List CtorT} {vs:List Value} {g cap:Nat}
  (h:RowCt V rd mark most O w b A c ts ne v wr m k acc vs g cap) {k0:Nat} (h0:Par w b A c ts k0 ne) {x2:CtorT} {v2:Value} {k2 m2:Nat} {w4 w6:World} {o:Obj} {lo4 g2 cap2:Nat}
  (hout:rowLoop rd ts mark most m2 k2 (acc++[x2])=O) (hfu:ts.length < k2+m2) (hk:k < k2) (hk4:k2≤ts.length) (hf4:PFr b wr w4) (hp4:Par w4 b A c ts k2 ne) (hlo:wr.heap.size≤lo4) (hv4:V x2 v2 lo4 w4.heap.size w4)
  (hown:w6.ownsRow w.heap.size 79 2 (.slice (some ⟨g2,0,none⟩) (acc.length+1) cap2) (acc.length+1) (vs.flatMap cellsL++cellsL v2)) (hg:(w4.alloc o).grownBy w6 v.ownBlock) (hat:v.ownBlock=some g2 ∨ g2=(w4.alloc o).heap.size) :
  RowCt V rd mark most O w b A c ts ne (.slice (some ⟨g2,0,none⟩) (acc++[x2]).length cap2) w6 m2 k2 (acc++[x2]) (vs++[v2]) g2 cap2:=by
 have hvb:v.ownBlock=some g:=by rw [h.val];rfl
 have hgl:=h.own.lt g hvb
 rw [hvb] at hg hat
 have hbw:=h0.lt
 have hfr:PFr b w w6:=((h.fr.trans hf4).alloc o).grown hg (fun j hj=>by have:=Option.some.inj hj;omega)
 have hs6:w4.heap.size≤w6.heap.size:=by have:=hg.size;simp at this;omega
 have hblk:∀ j,j < w4.heap.size→j ≠ g→w6.heap[j]?=w4.heap[j]?:=fun j hj hn=>(hg.block j (by simp;omega) (fun e=>hn (Option.some.inj e))).trans (Below.heap_alloc w4 o j hj)
 have hlen:(acc++[x2]).length=acc.length+1:=by simp
 refine ⟨hout,hfu,hk4,?_,rfl,?_,?_,?_,hfr⟩
 ·have:=h.few;rw [hlen];omega
 ·rw [hlen,flat_snoc];exact hown
 ·have i1:=Items.fr hV hf4 hbw h.items
  have i2:=Items.snoc (x:=x2) (v:=v2) ⟨lo4,w4.heap.size,by have:=h.fr.size;omega,Nat.le_refl _,by omega,hv4⟩ i1
  exact Items.step hV (fun j _ j2 j3=>hblk j j2 j3) hs6 (by rcases hat with e | e;exact .inl (Option.some.inj e).symm;exact .inr (by rw [e];simp)) i2
 ·exact h0.move hfr ((hblk b hp4.lt (by omega)).trans hp4.blk) hp4.near hp4.nest0 hp4.nest1
set_option maxRecDepth 100000 in
set_option maxHeartbeats 2000000 in
theorem rowCt_any (b:Nat) (A:Option Addr) (c:Nat) (ts:List Tok) (ne:Int) (f:Nat→Addr) (V:Holds CtorT) (hV:Stable V) (hT:ThisCt V) (rd:Nat→Out CtorT) (hrd:Fwd ts rd) (mark:ByteArray) (most:Nat) (hmk:mark.data.toList ≠ [])
  (HR:Hid (∀ w k,Par w b A c ts k ne→PErrs w b f→k≤ts.length→Calls Tryz.prog 144 #[.pointer (some ⟨b,0,none⟩)] w fun e w'=>EndsV b A c ts ne f V w (rd k) e w'))
  (w:World) (k:Nat) (h:Par w b A c ts k ne) (hE:PErrs w b f) (hk:k≤ts.length) :
  Calls Tryz.prog 143 #[.pointer (some ⟨b,0,none⟩),.string mark,.int .i64 most,.func (.func 144) #[.pointer (some ⟨b,0,none⟩)] #[]] w fun e w'=>EndsV b A c ts ne f (RowV 79 2 V) w (rowO rd ts mark.data.toList most k) e w':=by
 have HP:=Lib.hid h
 have HE:=Lib.hid hE
 have hfw:=h.few
 have HMK:=Lib.hid hmk
 have HFW:=Lib.hid hrd
 unfold rowO
 have HC:=Lib.hid (HR.out w k h hE hk)
 clear h hE hrd
 obtain ⟨i0,hi,hz0,hz1,hz2⟩:=info_parts infoCt
 have HI0:=Lib.hid hi
 have HI1:=Lib.hid hz0
 have HI2:=Lib.hid hz1
 have HI3:=Lib.hid hz2
 clear hi hz0 hz1 hz2
 cases hr:rd k with
 | no i =>
  rw [hr] at HC
  go_enter Tryz.func143,Tryz.ntmps143
  go_wp2_with (go_at_call 144;refine HC.out.mono ?_;rintro e w1 ⟨rfl,h2,h3⟩)
  exact ⟨rfl,rfl,h2,h3⟩
 | ok x k' =>
  rw [hr] at HC
  obtain ⟨hk1,hk2⟩:=HFW.out _ _ _ hr
  show Calls _ _ _ _ fun e w'=>EndsV b A c ts ne f (RowV 79 2 V) w (rowLoop rd ts mark.data.toList most (ts.length+1) k' [x]) e w'
  have hO:rowLoop rd ts mark.data.toList most (ts.length+1) k' [x]=rowLoop rd ts mark.data.toList most (ts.length+1) k' [x]:=rfl
  generalize hOO:rowLoop rd ts mark.data.toList most (ts.length+1) k' [x]=O at hO ⊢
  clear hO
  have HO:=Lib.hid hOO
  clear hOO
  go_enter Tryz.func143,Tryz.ntmps143
  go_wp2_with (go_at_call 144;refine HC.out.mono ?_;rintro e w1 ⟨v,rfl,hv,hp1,hf1⟩;obtain ⟨p1,p2,p3,p4,rfl⟩:=hT _ _ _ _ _ hv)
  have hst:RowCt V rd mark.data.toList most O w b A c ts ne (.slice (some ⟨w1.heap.size,0,none⟩) 1 1) (w1.alloc (.cells #[.string p1,.slice p2 p3 p4] 79)) (ts.length+1) k' [x] [.agg #[.string p1,.slice p2 p3 p4]] w1.heap.size 1:=by
   refine ⟨HO.out,by omega,hk2,by simp;omega,rfl,World.ownsRow_lit w1 _ 1 hf1.size (by decide) rfl,?_,hp1.alloc _,hf1.alloc _⟩
   refine ⟨⟨w.heap.size,w1.heap.size,Nat.le_refl _,by simp,by omega,?_⟩,trivial⟩
   exact hV _ _ _ _ _ _ hv (fun j _ hj=>Below.heap_alloc w1 _ j hj)
  have HS:=Lib.hid hst
  clear hst hv hp1 hf1 HC HO
  go_loopw [9] (fun v wr=>∃ m k acc vs g cap,v=.slice (some ⟨g,0,none⟩) acc.length cap∧Hid (RowCt V rd mark.data.toList most O w b A c ts ne v wr m k acc vs g cap)) (fun _ wr=>ts.length - (intOf ((wr.cell? ⟨b,1,none⟩).getD undef)).toNat)
  case atStart=>exact ⟨_,_,_,_,_,_,rfl,HS⟩
  case round =>
   obtain ⟨m,kr,acc,vs,g,cap,rfl,hI⟩:=hrel
   clear HS
   have HI:=hI
   have hI2:=hI.out
   have hfw2:=hI2.few
   have hle:=hI2.le
   have HA:=Lib.hid (accept_any wr b A c ts kr ne mark hI2.par (by omega))
   rw [hasT_eq] at HA
   have hout:=hI2.out
   have hfu:=hI2.fuel
   obtain ⟨m,rfl⟩:∃ m',m=m'+1:=⟨m - 1,by omega⟩
   rw [rowLoop] at hout
   have hp0:=hI2.par.c1
   cases hh:hasT ts kr mark.data.toList with
   | false =>
    rw [hh] at hout HA
    simp only [Bool.false_eq_true,if_false] at hout HA
    subst hout
    clear hI2 hfu
    go_wp2_with (go_at_call 123;refine HA.out.mono ?_;rintro e w2 ⟨rfl,hp2,hf2⟩)
    go_ret
    have hown:=own_fr HI.out.own hf2 HP.out.lt
    exact ⟨_,rfl,⟨g,cap,vs,rfl,(hown.lt g rfl).2,hown,Items.fr hV hf2 HP.out.lt HI.out.items⟩,hp2,HI.out.fr.trans hf2⟩
   | true =>
    rw [hh] at hout HA
    simp only [if_true] at hout HA
    have hin:kr < ts.length:=hasT_in hh HMK.out
    have hkr:kr+1≤ts.length:=by omega
    clear hI2
    by_cases hlen:acc.length=most
    ·by_cases hmo:kr+1 < ts.length
     ·rw [if_pos ⟨hlen,hmo⟩] at hout
      subst hout
      have hmq:decide (kr+1 < ts.length)=true:=by simpa using hmo
      have hle2:((acc.length:Int) == (most:Int))=true:=by simp;omega
      clear hlen
      go_wp2_with (first | (go_at_call 123;refine HA.out.mono ?_;rintro e w2 ⟨rfl,hp2,hf2⟩;have HP2:=Lib.hid hp2;have HF2:=Lib.hid hf2;have hlw:=World.block_lt_of_cell? _ _ (HE.out.move (HI.out.fr.trans hf2)).large;have hcl:=(HE.out.move (HI.out.fr.trans hf2)).large;clear hp2 hf2) | (go_at_call 94;refine (more_any _ b A c ts (kr+1) ne HP2.out).mono ?_;rw [hmq];rintro e w3 ⟨rfl,q,rfl⟩))
      exact ⟨rfl,rfl,⟨_,_,HP2.out.drewN q,Int.le_refl _⟩,(HI.out.fr.trans HF2.out).drewN q⟩
     ·rw [if_neg (fun h=>hmo h.2)] at hout
      have hmq:decide (kr+1 < ts.length)=false:=by simpa using hmo
      have hle2:((acc.length:Int) == (most:Int))=true:=by simp;omega
      clear hlen hmo
      cases hr2:rd (kr+1) with
      | no i =>
       rw [hr2] at hout
       subst hout
       have HR2:=Lib.hid (fun w h1 h2=>HR.out w (kr+1) h1 h2 hkr)
       rw [hr2] at HR2
       go_wp2_with (first | (go_at_call 123;refine HA.out.mono ?_;rintro e w2 ⟨rfl,hp2,hf2⟩;have HP2:=Lib.hid hp2;have HF2:=Lib.hid hf2;have hlw:=World.block_lt_of_cell? _ _ (HE.out.move (HI.out.fr.trans hf2)).large;have hcl:=(HE.out.move (HI.out.fr.trans hf2)).large;clear hp2 hf2) | (go_at_call 94;refine (more_any _ b A c ts (kr+1) ne HP2.out).mono ?_;rw [hmq];rintro e w3 ⟨rfl,q,rfl⟩) | (go_at_call 144;refine (HR2.out _ (HP2.out.drewN q) (HE.out.move (HI.out.fr.trans (HF2.out.drewN q)))).mono ?_;rintro e w4 ⟨rfl,h2,h3⟩))
       exact ⟨rfl,rfl,h2,(HI.out.fr.trans (HF2.out.drewN q)).trans h3⟩
      | ok x2 k2 =>
       rw [hr2] at hout
       have HO2:=Lib.hid hout
       clear hout
       obtain ⟨hk3,hk4⟩:=HFW.out _ _ _ hr2
       have hkk:kr < k2:=by omega
       have HR2:=Lib.hid (fun w h1 h2=>HR.out w (kr+1) h1 h2 hkr)
       rw [hr2] at HR2
       go_wp2_with (first | (go_at_call 123;refine HA.out.mono ?_;rintro e w2 ⟨rfl,hp2,hf2⟩;have HP2:=Lib.hid hp2;have HF2:=Lib.hid hf2;have hlw:=World.block_lt_of_cell? _ _ (HE.out.move (HI.out.fr.trans hf2)).large;have hcl:=(HE.out.move (HI.out.fr.trans hf2)).large;clear hp2 hf2) | (go_at_call 94;refine (more_any _ b A c ts (kr+1) ne HP2.out).mono ?_;rw [hmq];rintro e w3 ⟨rfl,q,rfl⟩) | (go_at_call 144;refine (HR2.out _ (HP2.out.drewN q) (HE.out.move (HI.out.fr.trans (HF2.out.drewN q)))).mono ?_;rintro e w4 ⟨v4,rfl,hv4,hp4,hf4⟩;obtain ⟨r1,r2,r3,r4,rfl⟩:=hT _ _ _ _ _ hv4;have HP4:=Lib.hid hp4;have HF4:=Lib.hid ((HF2.out.drewN q).trans hf4);have HV4:=Lib.hid hv4;have HO4:=Lib.hid (own_fr HI.out.own HF4.out HP.out.lt);have hW4:w.heap.size≤w4.heap.size:=Nat.le_trans HI.out.fr.size HF4.out.size;have HLO:=HF2.out.size;clear hv4 hp4 hf4) | (at_builtin;refine wpList_append_lies _ rfl _ _ 23 rfl w.heap.size 79 i0 (.agg #[.string ⟨#[]⟩,.slice none 0 0]) 2 40 Tryz.underlying23 HI0.out HI1.out HI2.out HI3.out rfl (by decide) _ _ _ rfl (HO4.out.alloc _) ⟨w4.heap.size,0,none⟩ 1 1 [.string r1,.slice r2 r3 r4] rfl rfl (cells_new _ #[.string r1,.slice r2 r3 r4] _ _ rfl) (by simp [Value.oneCell']) (by decide) (by unfold maxLen;omega) (by omega) (by simp;omega) _ rfl ?_;intro g2 cap2 w6 hown6 hg6 hat6 _;have HNX:=Lib.hid (RowCt.next hV HI.out HP.out HO2.out (by omega) hkk hk4 HF4.out HP4.out HLO HV4.out hown6 hg6 hat6);clear hown6 hg6 hat6))
       have hm4:=HNX.out.par.c1
       have hl2:(acc++[x2]).length=acc.length+1:=by simp
       rw [hl2] at HNX
       go_roundw
       case rel=>exact ⟨_,_,_,_,_,_,by rw [hl2],HNX⟩
       case measure=>simp [hm4,hp0,intOf];omega
    ·rw [if_neg (fun h=>hlen h.1)] at hout
     have hle2:((acc.length:Int) == (most:Int))=false:=by simp;omega
     clear hlen
     cases hr2:rd (kr+1) with
     | no i =>
      rw [hr2] at hout
      subst hout
      have HR2:=Lib.hid (fun w h1 h2=>HR.out w (kr+1) h1 h2 hkr)
      rw [hr2] at HR2
      go_wp2_with (first | (go_at_call 123;refine HA.out.mono ?_;rintro e w2 ⟨rfl,hp2,hf2⟩;have HP2:=Lib.hid hp2;have HF2:=Lib.hid hf2;have hlw:=World.block_lt_of_cell? _ _ (HE.out.move (HI.out.fr.trans hf2)).large;have hcl:=(HE.out.move (HI.out.fr.trans hf2)).large;clear hp2 hf2) | (go_at_call 144;refine (HR2.out _ HP2.out (HE.out.move (HI.out.fr.trans HF2.out))).mono ?_;rintro e w4 ⟨rfl,h2,h3⟩))
      exact ⟨rfl,rfl,h2,(HI.out.fr.trans HF2.out).trans h3⟩
     | ok x2 k2 =>
      rw [hr2] at hout
      have HO2:=Lib.hid hout
      clear hout
      obtain ⟨hk3,hk4⟩:=HFW.out _ _ _ hr2
      have hkk:kr < k2:=by omega
      have HR2:=Lib.hid (fun w h1 h2=>HR.out w (kr+1) h1 h2 hkr)
      rw [hr2] at HR2
      go_wp2_with (first | (go_at_call 123;refine HA.out.mono ?_;rintro e w2 ⟨rfl,hp2,hf2⟩;have HP2:=Lib.hid hp2;have HF2:=Lib.hid hf2;have hlw:=World.block_lt_of_cell? _ _ (HE.out.move (HI.out.fr.trans hf2)).large;have hcl:=(HE.out.move (HI.out.fr.trans hf2)).large;clear hp2 hf2) | (go_at_call 144;refine (HR2.out _ HP2.out (HE.out.move (HI.out.fr.trans HF2.out))).mono ?_;rintro e w4 ⟨v4,rfl,hv4,hp4,hf4⟩;obtain ⟨r1,r2,r3,r4,rfl⟩:=hT _ _ _ _ _ hv4;have HP4:=Lib.hid hp4;have HF4:=Lib.hid (HF2.out.trans hf4);have HV4:=Lib.hid hv4;have HO4:=Lib.hid (own_fr HI.out.own HF4.out HP.out.lt);have hW4:w.heap.size≤w4.heap.size:=Nat.le_trans HI.out.fr.size HF4.out.size;have HLO:=HF2.out.size;clear hv4 hp4 hf4) | (at_builtin;refine wpList_append_lies _ rfl _ _ 23 rfl w.heap.size 79 i0 (.agg #[.string ⟨#[]⟩,.slice none 0 0]) 2 40 Tryz.underlying23 HI0.out HI1.out HI2.out HI3.out rfl (by decide) _ _ _ rfl (HO4.out.alloc _) ⟨w4.heap.size,0,none⟩ 1 1 [.string r1,.slice r2 r3 r4] rfl rfl (cells_new _ #[.string r1,.slice r2 r3 r4] _ _ rfl) (by simp [Value.oneCell']) (by decide) (by unfold maxLen;omega) (by omega) (by simp;omega) _ rfl ?_;intro g2 cap2 w6 hown6 hg6 hat6 _;have HNX:=Lib.hid (RowCt.next hV HI.out HP.out HO2.out (by omega) hkk hk4 HF4.out HP4.out HLO HV4.out hown6 hg6 hat6);clear hown6 hg6 hat6))
      have hm4:=HNX.out.par.c1
      have hl2:(acc++[x2]).length=acc.length+1:=by simp
      rw [hl2] at HNX
      go_roundw
      case rel=>exact ⟨_,_,_,_,_,_,by rw [hl2],HNX⟩
      case measure=>simp [hm4,hp0,intOf];omega
end Lx
end Go.Proofs.YtiljemkglhloeaaGreatDoor
namespace Go.Proofs.YtiljemkglhloeaaGreatDoor
set_option linter.unusedSimpArgs false
set_option linter.unusedVariables false
namespace Lx
open Go Go.RowKit
def CtorV:Holds CtorT:=fun x v lo hi w=>match x with
 | .mk s l=>∃ va,v=.agg #[.string (bs s),va]∧ArgsV 35 3 (TypeV 66) l va lo hi w
theorem CtorV.wide (x:CtorT) (v:Value) (lo hi lo' hi':Nat) (w:World) (h:CtorV x v lo hi w) (h1:lo'≤lo) (h2:hi≤hi'):CtorV x v lo' hi' w:=by
 obtain ⟨s,l⟩:=x
 obtain ⟨va,hv,ha⟩:=h
 exact ⟨va,hv,ha.wide h1 h2⟩
theorem CtorV.stable:Stable CtorV:=by
 rintro ⟨s,l⟩ v lo hi w w' ⟨va,hv,ha⟩ h
 exact ⟨va,hv,ArgsV.stable _ _ (TypeV.stable 66) _ _ _ _ _ _ ha h⟩
theorem CtorV.this:ThisCt CtorV:=by
 rintro ⟨s,l⟩ v lo hi w ⟨va,rfl,ha⟩
 rcases ha with ⟨_,rfl⟩ | ⟨g,cap,vs,rfl,_⟩
 ·exact ⟨_,_,_,_,rfl⟩
 ·exact ⟨_,_,_,_,rfl⟩
def ctorO (ts:List Tok) (ne:Int) (k:Nat):Out CtorT:=match nameO ts k with
 | .no i=>.no i
 | .ok s k1=>match argsO (typeO ts 66 ne) ts k1 with
  | .no i=>.no i
  | .ok l k2=>.ok (.mk s l) k2
theorem ctorO_fwd (ts:List Tok) (ne:Int):Fwd ts (ctorO ts ne):=by
 intro k x k' h
 unfold ctorO at h
 split at h
 ·cases h
 ·rename_i s k1 he
  have h1:=nameO_fwd ts _ _ _ he
  split at h
  ·cases h
  ·rename_i l k2 he2
   injection h with _ h3
   subst h3
   have h2:=argsO_fwd (typeO_fwd ts 66 ne) he2 h1.2
   omega
set_option maxRecDepth 100000 in
set_option maxHeartbeats 2000000 in
theorem ctor_any (b:Nat) (A:Option Addr) (c:Nat) (ts:List Tok) (ne:Int) (f:Nat→Addr) (h0:0≤ne) (h1:ne≤70000) (w:World) (k:Nat) (h:Par w b A c ts k ne) (hE:PErrs w b f) (hk:k≤ts.length) :
  Calls Tryz.prog 144 #[.pointer (some ⟨b,0,none⟩)] w fun e w'=>EndsV b A c ts ne f CtorV w (ctorO ts ne k) e w':=by
 have HP:=Lib.hid h
 have HE:=Lib.hid hE
 have hfw:=h.few
 have H3:=Lib.hid (fun w h hE=>name_any w b A c ts k ne f h (by omega) hE)
 unfold ctorO
 clear h hE
 cases hno:nameO ts k with
 | no i =>
  rw [hno] at H3
  go_enter Tryz.func144,Tryz.ntmps144
  go_wp2_with (go_at_call 113;refine (H3.out _ (HP.out.alloc _) (HE.out.move ((PFr.refl b w).alloc _))).mono ?_;rintro e w4 ⟨rfl,h2,h3⟩)
  exact ⟨rfl,rfl,h2,((PFr.refl b w).alloc _).trans h3⟩
 | ok s k1 =>
  have hf:=nameO_fwd ts _ _ _ hno
  rw [hno] at H3
  have HARG:=Lib.hid (fun w h hE=>argsTy_any b A c ts ne f (TypeV 66) (TypeV.stable 66) (TypeV.this 66) (typeO ts 66 ne) (typeO_fwd ts 66 ne) (Lib.hid (fun w k h hE hk=>type_any b A c ts f 65 ne (by omega) h0 h1 w k h hE hk)) w k1 h hE hf.2)
  show Calls _ _ _ _ fun e w'=>EndsV b A c ts ne f CtorV w (match argsO (typeO ts 66 ne) ts k1 with | .no i=>.no i | .ok l k2=>.ok (.mk s l) k2) e w'
  cases ha:argsO (typeO ts 66 ne) ts k1 with
  | no i =>
   rw [ha] at HARG
   go_enter Tryz.func144,Tryz.ntmps144
   go_wp2_with (first | (go_at_call 113;refine (H3.out _ (HP.out.alloc _) (HE.out.move ((PFr.refl b w).alloc _))).mono ?_;rintro e w4 ⟨v,rfl,rfl,hp4,hf4⟩) | (go_at_call 125;refine (HARG.out _ hp4 (HE.out.move (((PFr.refl b w).alloc _).trans hf4))).mono ?_;rintro e w5 ⟨rfl,h2,h3⟩))
   exact ⟨rfl,rfl,h2,(((PFr.refl b w).alloc _).trans hf4).trans h3⟩
  | ok l k2 =>
   rw [ha] at HARG
   go_enter Tryz.func144,Tryz.ntmps144
   go_wp2_with (first | (go_at_call 113;refine (H3.out _ (HP.out.alloc _) (HE.out.move ((PFr.refl b w).alloc _))).mono ?_;rintro e w4 ⟨v,rfl,rfl,hp4,hf4⟩) | (go_at_call 125;refine (HARG.out _ hp4 (HE.out.move (((PFr.refl b w).alloc _).trans hf4))).mono ?_;rintro e w5 ⟨v5,rfl,hv5,hp5,hf5⟩;obtain ⟨s1,s2,s3,rfl⟩:=hv5.slice;have HV5:=Lib.hid hv5;clear hv5;have hb:=((hf4.trans hf5).block w.heap.size (by simp) (Nat.ne_of_gt HP.out.lt)).trans (heap_alloc_new w _);have d0:=(Lib.cell_of_heap hb 0).trans rfl;have d1:=(Lib.cell_of_heap hb 1).trans rfl;have g0:=Lib.frozen_of_heap hb 0;have g1:=Lib.frozen_of_heap hb 1;have HB:=Lib.hid hb;clear hb))
   have hfr:=(((((PFr.refl b w).alloc (.cells #[.string ⟨#[]⟩,.slice none 0 0] 79)).trans (hf4.trans hf5)).putNew (Nat.le_refl _) 0 (.string (bs s))).putNew (Nat.le_refl _) 1 (.slice s1 s2 s3))
   have hn:b ≠ w.heap.size:=Nat.ne_of_lt HP.out.lt
   have hcells:=blk_put _ _ 1 (.slice s1 s2 s3) (blk_put w5 _ 0 (.string (bs s)) HB.out (by show 0 < 2;decide)) (by show 1 < 2;decide)
   have z0:=(Lib.cell_of_heap hcells 0).trans rfl
   have z1:=(Lib.cell_of_heap hcells 1).trans rfl
   refine bodyPost_ret (v:=.agg #[.string (bs s),.slice s1 s2 s3]) (by simp [results,Tryz.results144,go_sem,z0,z1]) rfl ⟨_,rfl,⟨_,rfl,?_⟩,?_,hfr⟩
   ·have hsz:w.heap.size < w4.heap.size:=by have:=hf4.size;simp at this;omega
    refine ArgsV.wide (ArgsV.stable _ _ (TypeV.stable 66) _ _ _ _ _ _ HV5.out (fun j j1 _=>?_)) (Nat.le_of_lt hsz) (by simp [World.setCell])
    have hj:j ≠ w.heap.size:=by omega
    rw [Below.heap_setCell _ _ _ j hj,Below.heap_setCell _ _ _ j hj]
   ·refine HP.out.move hfr ?_ hp5.near hp5.nest0 hp5.nest1
    rw [Below.heap_setCell _ _ _ b hn,Below.heap_setCell _ _ _ b hn]
    exact hp5.blk
end Lx
end Go.Proofs.YtiljemkglhloeaaGreatDoor
namespace Go.Proofs.YtiljemkglhloeaaGreatDoor
set_option linter.unusedSimpArgs false
set_option linter.unusedVariables false
namespace Lx
open Go Go.RowKit
theorem hasT_l (ts:List Tok) (k:Nat) (l:List UInt8):((bs (peekT ts k).text).toList == l)=hasT ts k l:=by
 unfold hasT
 rw [ByteArray.toList_eq]
 rfl
def boolV:Holds Bool:=fun x v _ _ _=>v=.bool x
def intV:Holds Int:=fun x v _ _ _=>v=.int .i64 x
theorem boolV.stable:Stable boolV:=fun _ _ _ _ _ _ h _=>h
theorem intV.stable:Stable intV:=fun _ _ _ _ _ _ h _=>h
def wayO (ts:List Tok) (k:Nat):Out Bool:=if hasT ts k [105,110]=true then .ok true (k+1) else if hasT ts k [111,117,116]=true then .ok false (k+1) else .no 2
theorem wayO_fwd (ts:List Tok):Fwd ts (wayO ts):=by
 intro k x k' h
 unfold wayO at h
 split at h
 ·rename_i hc
  injection h with _ h2
  subst h2
  have:=hasT_in hc (by decide)
  omega
 ·split at h
  ·rename_i hc
   injection h with _ h2
   subst h2
   have:=hasT_in hc (by decide)
   omega
  ·cases h
def detO (ts:List Tok) (k:Nat):Out Int :=
 if hasT ts k [100,101,116]=true then .ok 1 (k+1) else if hasT ts k [115,101,109,105,100,101,116]=true then .ok 2 (k+1) else if hasT ts k [109,117,108,116,105]=true then .ok 3 (k+1) else if hasT ts k [110,111,110,100,101,116]=true then .ok 4 (k+1) else .no 2
theorem detO_fwd (ts:List Tok):Fwd ts (detO ts):=by
 intro k x k' h
 unfold detO at h
 repeat' split at h
 all_goals first
  | (rename_i hc;injection h with _ h2;subst h2;have:=hasT_in hc (by decide);omega)
  | cases h
set_option maxRecDepth 100000 in
theorem way_any (w:World) (b:Nat) (A:Option Addr) (c:Nat) (ts:List Tok) (k:Nat) (ne:Int) (f:Nat→Addr) (h:Par w b A c ts k ne) (hk:k≤ts.length) (hE:PErrs w b f) :
  Calls Tryz.prog 147 #[.pointer (some ⟨b,0,none⟩)] w fun e w'=>EndsV b A c ts ne f boolV w (wayO ts k) e w':=by
 have HP:=Lib.hid h
 have HE:=Lib.hid hE
 have hfw:=h.few
 have HM:=Lib.hid (next_any w b A c ts k ne h (by omega))
 unfold wayO
 rw [← hasT_l,← hasT_l]
 clear h hE
 generalize (peekT ts k).kind=x at *
 generalize (peekT ts k).num=z at *
 generalize bs (peekT ts k).text=y at *
 have q1:=tokF1 x z y
 cases h1:(y.toList == [105,110]) with
 | true =>
  simp only [if_true]
  go_enter Tryz.func147,Tryz.ntmps147
  go_wp2_with (go_at_call 112;refine HM.out.mono ?_;rintro e w' ⟨rfl,hp,hf⟩)
  go_ret
  exact ⟨_,rfl,rfl,hp,hf⟩
 | false =>
  simp only [Bool.false_eq_true,if_false]
  cases h2:(y.toList == [111,117,116]) with
  | true =>
   simp only [if_true]
   go_enter Tryz.func147,Tryz.ntmps147
   go_wp2_with (go_at_call 112;refine HM.out.mono ?_;rintro e w' ⟨rfl,hp,hf⟩)
   go_ret
   exact ⟨_,rfl,rfl,hp,hf⟩
  | false =>
   simp only [Bool.false_eq_true,if_false]
   go_enter Tryz.func147,Tryz.ntmps147
   go_wp2_with (go_at_call 112;refine HM.out.mono ?_;rintro e w' ⟨rfl,hp,hf⟩;have c1:=(HE.out.move hf).syn;have hg:=World.block_lt_of_cell? _ _ c1)
   exact ⟨rfl,rfl,⟨_,_,hp,Int.le_refl _⟩,hf⟩
set_option maxRecDepth 100000 in
theorem det_any (w:World) (b:Nat) (A:Option Addr) (c:Nat) (ts:List Tok) (k:Nat) (ne:Int) (f:Nat→Addr) (h:Par w b A c ts k ne) (hk:k≤ts.length) (hE:PErrs w b f) :
  Calls Tryz.prog 148 #[.pointer (some ⟨b,0,none⟩)] w fun e w'=>EndsV b A c ts ne f intV w (detO ts k) e w':=by
 have HP:=Lib.hid h
 have HE:=Lib.hid hE
 have hfw:=h.few
 have HM:=Lib.hid (next_any w b A c ts k ne h (by omega))
 unfold detO
 rw [← hasT_l,← hasT_l,← hasT_l,← hasT_l]
 clear h hE
 generalize (peekT ts k).kind=x at *
 generalize (peekT ts k).num=z at *
 generalize bs (peekT ts k).text=y at *
 have q1:=tokF1 x z y
 cases h1:(y.toList == [100,101,116]) with
 | true =>
  simp only [if_true]
  go_enter Tryz.func148,Tryz.ntmps148
  go_wp2_with (go_at_call 112;refine HM.out.mono ?_;rintro e w' ⟨rfl,hp,hf⟩)
  go_ret
  exact ⟨_,rfl,rfl,hp,hf⟩
 | false =>
  simp only [Bool.false_eq_true,if_false]
  cases h2:(y.toList == [115,101,109,105,100,101,116]) with
  | true =>
   simp only [if_true]
   go_enter Tryz.func148,Tryz.ntmps148
   go_wp2_with (go_at_call 112;refine HM.out.mono ?_;rintro e w' ⟨rfl,hp,hf⟩)
   go_ret
   exact ⟨_,rfl,rfl,hp,hf⟩
  | false =>
   simp only [Bool.false_eq_true,if_false]
   cases h3:(y.toList == [109,117,108,116,105]) with
   | true =>
    simp only [if_true]
    go_enter Tryz.func148,Tryz.ntmps148
    go_wp2_with (go_at_call 112;refine HM.out.mono ?_;rintro e w' ⟨rfl,hp,hf⟩)
    go_ret
    exact ⟨_,rfl,rfl,hp,hf⟩
   | false =>
    simp only [Bool.false_eq_true,if_false]
    cases h4:(y.toList == [110,111,110,100,101,116]) with
    | true =>
     simp only [if_true]
     go_enter Tryz.func148,Tryz.ntmps148
     go_wp2_with (go_at_call 112;refine HM.out.mono ?_;rintro e w' ⟨rfl,hp,hf⟩)
     go_ret
     exact ⟨_,rfl,rfl,hp,hf⟩
    | false =>
     simp only [Bool.false_eq_true,if_false]
     go_enter Tryz.func148,Tryz.ntmps148
     go_wp2_with (go_at_call 112;refine HM.out.mono ?_;rintro e w' ⟨rfl,hp,hf⟩;have c1:=(HE.out.move hf).syn;have hg:=World.block_lt_of_cell? _ _ c1)
     exact ⟨rfl,rfl,⟨_,_,hp,Int.le_refl _⟩,hf⟩
end Lx
end Go.Proofs.YtiljemkglhloeaaGreatDoor
namespace Go.Proofs.YtiljemkglhloeaaGreatDoor
set_option linter.unusedSimpArgs false
set_option linter.unusedVariables false
namespace Lx
open Go Go.RowKit
def ThisSt (V:Holds (List UInt8)):Prop:=∀ x v lo hi w,V x v lo hi w→∃ z1,v=.string z1
theorem infoSt:(Tryz.prog.info? 9).map (fun i=>(i.zero,i.size,i.bytes))=some (some (.string ⟨#[]⟩),1,16):=by kernel_rfl
/-- The row as the loop holds it. -/
structure RowSt (V:Holds (List UInt8)) (rd:Nat→Out (List UInt8)) (mark:List UInt8) (most:Nat) (O:Out (List (List UInt8))) (w:World) (b:Nat) (A:Option Addr) (c:Nat) (ts:List Tok) (ne:Int) (v:Value) (wr:World) (m k:Nat) (acc:List (List UInt8)) (vs:List Value) (g cap:Nat):Prop where
 out:rowLoop rd ts mark most m k acc=O
 fuel:ts.length < k+m
 le:k≤ts.length
 few:acc.length≤k
 val:v=.slice (some ⟨g,0,none⟩) acc.length cap
 own:wr.ownsRow w.heap.size 9 1 v acc.length (vs.flatMap cellsL)
 items:Items V w.heap.size wr.heap.size g wr acc vs
 par:Par wr b A c ts k ne
 fr:PFr b w wr
theorem RowSt.next {V:Holds (List UInt8)} (hV:Stable V) {rd:Nat→Out (List UInt8)} {mark:List UInt8} {most:Nat} {O:Out (List (List UInt8))} {w:World} {b:Nat} {A:Option Addr} {c:Nat} {ts:List Tok} {ne:Int} {v:Value} {wr:World} {m k:Nat} {acc:List (List UInt8)} {vs:List Value} {g cap:Nat}
  (h:RowSt V rd mark most O w b A c ts ne v wr m k acc vs g cap) {k0:Nat} (h0:Par w b A c ts k0 ne) {x2:(List UInt8)} {v2:Value} {k2 m2:Nat} {w4 w6:World} {o:Obj} {lo4 g2 cap2:Nat}
  (hout:rowLoop rd ts mark most m2 k2 (acc++[x2])=O) (hfu:ts.length < k2+m2) (hk:k < k2) (hk4:k2≤ts.length) (hf4:PFr b wr w4) (hp4:Par w4 b A c ts k2 ne) (hlo:wr.heap.size≤lo4) (hv4:V x2 v2 lo4 w4.heap.size w4)
  (hown:w6.ownsRow w.heap.size 9 1 (.slice (some ⟨g2,0,none⟩) (acc.length+1) cap2) (acc.length+1) (vs.flatMap cellsL++cellsL v2)) (hg:(w4.alloc o).grownBy w6 v.ownBlock) (hat:v.ownBlock=some g2 ∨ g2=(w4.alloc o).heap.size) :
  RowSt V rd mark most O w b A c ts ne (.slice (some ⟨g2,0,none⟩) (acc++[x2]).length cap2) w6 m2 k2 (acc++[x2]) (vs++[v2]) g2 cap2:=by
 have hvb:v.ownBlock=some g:=by rw [h.val];rfl
 have hgl:=h.own.lt g hvb
 rw [hvb] at hg hat
 have hbw:=h0.lt
 have hfr:PFr b w w6:=((h.fr.trans hf4).alloc o).grown hg (fun j hj=>by have:=Option.some.inj hj;omega)
 have hs6:w4.heap.size≤w6.heap.size:=by have:=hg.size;simp at this;omega
 have hblk:∀ j,j < w4.heap.size→j ≠ g→w6.heap[j]?=w4.heap[j]?:=fun j hj hn=>(hg.block j (by simp;omega) (fun e=>hn (Option.some.inj e))).trans (Below.heap_alloc w4 o j hj)
 have hlen:(acc++[x2]).length=acc.length+1:=by simp
 refine ⟨hout,hfu,hk4,?_,rfl,?_,?_,?_,hfr⟩
 ·have:=h.few;rw [hlen];omega
 ·rw [hlen,flat_snoc];exact hown
 ·have i1:=Items.fr hV hf4 hbw h.items
  have i2:=Items.snoc (x:=x2) (v:=v2) ⟨lo4,w4.heap.size,by have:=h.fr.size;omega,Nat.le_refl _,by omega,hv4⟩ i1
  exact Items.step hV (fun j _ j2 j3=>hblk j j2 j3) hs6 (by rcases hat with e | e;exact .inl (Option.some.inj e).symm;exact .inr (by rw [e];simp)) i2
 ·exact h0.move hfr ((hblk b hp4.lt (by omega)).trans hp4.blk) hp4.near hp4.nest0 hp4.nest1
set_option maxRecDepth 100000 in
set_option maxHeartbeats 2000000 in
theorem rowSt_any (b:Nat) (A:Option Addr) (c:Nat) (ts:List Tok) (ne:Int) (f:Nat→Addr) (V:Holds (List UInt8)) (hV:Stable V) (hT:ThisSt V) (rd:Nat→Out (List UInt8)) (hrd:Fwd ts rd) (mark:ByteArray) (most:Nat) (hmk:mark.data.toList ≠ [])
  (HR:Hid (∀ w k,Par w b A c ts k ne→PErrs w b f→k≤ts.length→Calls Tryz.prog 142 #[.pointer (some ⟨b,0,none⟩)] w fun e w'=>EndsV b A c ts ne f V w (rd k) e w'))
  (w:World) (k:Nat) (h:Par w b A c ts k ne) (hE:PErrs w b f) (hk:k≤ts.length) :
  Calls Tryz.prog 166 #[.pointer (some ⟨b,0,none⟩),.string mark,.int .i64 most,.func (.func 142) #[.pointer (some ⟨b,0,none⟩)] #[]] w fun e w'=>EndsV b A c ts ne f (RowV 9 1 V) w (rowO rd ts mark.data.toList most k) e w':=by
 have HP:=Lib.hid h
 have HE:=Lib.hid hE
 have hfw:=h.few
 have HMK:=Lib.hid hmk
 have HFW:=Lib.hid hrd
 unfold rowO
 have HC:=Lib.hid (HR.out w k h hE hk)
 clear h hE hrd
 obtain ⟨i0,hi,hz0,hz1,hz2⟩:=info_parts infoSt
 have HI0:=Lib.hid hi
 have HI1:=Lib.hid hz0
 have HI2:=Lib.hid hz1
 have HI3:=Lib.hid hz2
 clear hi hz0 hz1 hz2
 cases hr:rd k with
 | no i =>
  rw [hr] at HC
  go_enter Tryz.func166,Tryz.ntmps166
  go_wp2_with (go_at_call 142;refine HC.out.mono ?_;rintro e w1 ⟨rfl,h2,h3⟩)
  exact ⟨rfl,rfl,h2,h3⟩
 | ok x k' =>
  rw [hr] at HC
  obtain ⟨hk1,hk2⟩:=HFW.out _ _ _ hr
  show Calls _ _ _ _ fun e w'=>EndsV b A c ts ne f (RowV 9 1 V) w (rowLoop rd ts mark.data.toList most (ts.length+1) k' [x]) e w'
  have hO:rowLoop rd ts mark.data.toList most (ts.length+1) k' [x]=rowLoop rd ts mark.data.toList most (ts.length+1) k' [x]:=rfl
  generalize hOO:rowLoop rd ts mark.data.toList most (ts.length+1) k' [x]=O at hO ⊢
  clear hO
  have HO:=Lib.hid hOO
  clear hOO
  go_enter Tryz.func166,Tryz.ntmps166
  go_wp2_with (go_at_call 142;refine HC.out.mono ?_;rintro e w1 ⟨v,rfl,hv,hp1,hf1⟩;obtain ⟨p1,rfl⟩:=hT _ _ _ _ _ hv)
  have hst:RowSt V rd mark.data.toList most O w b A c ts ne (.slice (some ⟨w1.heap.size,0,none⟩) 1 1) (w1.alloc (.cells #[.string p1] 9)) (ts.length+1) k' [x] [.string p1] w1.heap.size 1:=by
   refine ⟨HO.out,by omega,hk2,by simp;omega,rfl,World.ownsRow_lit w1 _ 1 hf1.size (by decide) rfl,?_,hp1.alloc _,hf1.alloc _⟩
   refine ⟨⟨w.heap.size,w1.heap.size,Nat.le_refl _,by simp,by omega,?_⟩,trivial⟩
   exact hV _ _ _ _ _ _ hv (fun j _ hj=>Below.heap_alloc w1 _ j hj)
  have HS:=Lib.hid hst
  clear hst hv hp1 hf1 HC HO
  go_loopw [9] (fun v wr=>∃ m k acc vs g cap,v=.slice (some ⟨g,0,none⟩) acc.length cap∧Hid (RowSt V rd mark.data.toList most O w b A c ts ne v wr m k acc vs g cap)) (fun _ wr=>ts.length - (intOf ((wr.cell? ⟨b,1,none⟩).getD undef)).toNat)
  case atStart=>exact ⟨_,_,_,_,_,_,rfl,HS⟩
  case round =>
   obtain ⟨m,kr,acc,vs,g,cap,rfl,hI⟩:=hrel
   clear HS
   have HI:=hI
   have hI2:=hI.out
   have hfw2:=hI2.few
   have hle:=hI2.le
   have HA:=Lib.hid (accept_any wr b A c ts kr ne mark hI2.par (by omega))
   rw [hasT_eq] at HA
   have hout:=hI2.out
   have hfu:=hI2.fuel
   obtain ⟨m,rfl⟩:∃ m',m=m'+1:=⟨m - 1,by omega⟩
   rw [rowLoop] at hout
   have hp0:=hI2.par.c1
   cases hh:hasT ts kr mark.data.toList with
   | false =>
    rw [hh] at hout HA
    simp only [Bool.false_eq_true,if_false] at hout HA
    subst hout
    clear hI2 hfu
    go_wp2_with (go_at_call 123;refine HA.out.mono ?_;rintro e w2 ⟨rfl,hp2,hf2⟩)
    go_ret
    have hown:=own_fr HI.out.own hf2 HP.out.lt
    exact ⟨_,rfl,⟨g,cap,vs,rfl,(hown.lt g rfl).2,hown,Items.fr hV hf2 HP.out.lt HI.out.items⟩,hp2,HI.out.fr.trans hf2⟩
   | true =>
    rw [hh] at hout HA
    simp only [if_true] at hout HA
    have hin:kr < ts.length:=hasT_in hh HMK.out
    have hkr:kr+1≤ts.length:=by omega
    clear hI2
    by_cases hlen:acc.length=most
    ·by_cases hmo:kr+1 < ts.length
     ·rw [if_pos ⟨hlen,hmo⟩] at hout
      subst hout
      have hmq:decide (kr+1 < ts.length)=true:=by simpa using hmo
      have hle2:((acc.length:Int) == (most:Int))=true:=by simp;omega
      clear hlen
      go_wp2_with (first | (go_at_call 123;refine HA.out.mono ?_;rintro e w2 ⟨rfl,hp2,hf2⟩;have HP2:=Lib.hid hp2;have HF2:=Lib.hid hf2;have hlw:=World.block_lt_of_cell? _ _ (HE.out.move (HI.out.fr.trans hf2)).large;have hcl:=(HE.out.move (HI.out.fr.trans hf2)).large;clear hp2 hf2) | (go_at_call 94;refine (more_any _ b A c ts (kr+1) ne HP2.out).mono ?_;rw [hmq];rintro e w3 ⟨rfl,q,rfl⟩))
      exact ⟨rfl,rfl,⟨_,_,HP2.out.drewN q,Int.le_refl _⟩,(HI.out.fr.trans HF2.out).drewN q⟩
     ·rw [if_neg (fun h=>hmo h.2)] at hout
      have hmq:decide (kr+1 < ts.length)=false:=by simpa using hmo
      have hle2:((acc.length:Int) == (most:Int))=true:=by simp;omega
      clear hlen hmo
      cases hr2:rd (kr+1) with
      | no i =>
       rw [hr2] at hout
       subst hout
       have HR2:=Lib.hid (fun w h1 h2=>HR.out w (kr+1) h1 h2 hkr)
       rw [hr2] at HR2
       go_wp2_with (first | (go_at_call 123;refine HA.out.mono ?_;rintro e w2 ⟨rfl,hp2,hf2⟩;have HP2:=Lib.hid hp2;have HF2:=Lib.hid hf2;have hlw:=World.block_lt_of_cell? _ _ (HE.out.move (HI.out.fr.trans hf2)).large;have hcl:=(HE.out.move (HI.out.fr.trans hf2)).large;clear hp2 hf2) | (go_at_call 94;refine (more_any _ b A c ts (kr+1) ne HP2.out).mono ?_;rw [hmq];rintro e w3 ⟨rfl,q,rfl⟩) | (go_at_call 142;refine (HR2.out _ (HP2.out.drewN q) (HE.out.move (HI.out.fr.trans (HF2.out.drewN q)))).mono ?_;rintro e w4 ⟨rfl,h2,h3⟩))
       exact ⟨rfl,rfl,h2,(HI.out.fr.trans (HF2.out.drewN q)).trans h3⟩
      | ok x2 k2 =>
       rw [hr2] at hout
       have HO2:=Lib.hid hout
       clear hout
       obtain ⟨hk3,hk4⟩:=HFW.out _ _ _ hr2
       have hkk:kr < k2:=by omega
       have HR2:=Lib.hid (fun w h1 h2=>HR.out w (kr+1) h1 h2 hkr)
       rw [hr2] at HR2
       go_wp2_with (first | (go_at_call 123;refine HA.out.mono ?_;rintro e w2 ⟨rfl,hp2,hf2⟩;have HP2:=Lib.hid hp2;have HF2:=Lib.hid hf2;have hlw:=World.block_lt_of_cell? _ _ (HE.out.move (HI.out.fr.trans hf2)).large;have hcl:=(HE.out.move (HI.out.fr.trans hf2)).large;clear hp2 hf2) | (go_at_call 94;refine (more_any _ b A c ts (kr+1) ne HP2.out).mono ?_;rw [hmq];rintro e w3 ⟨rfl,q,rfl⟩) | (go_at_call 142;refine (HR2.out _ (HP2.out.drewN q) (HE.out.move (HI.out.fr.trans (HF2.out.drewN q)))).mono ?_;rintro e w4 ⟨v4,rfl,hv4,hp4,hf4⟩;obtain ⟨r1,rfl⟩:=hT _ _ _ _ _ hv4;have HP4:=Lib.hid hp4;have HF4:=Lib.hid ((HF2.out.drewN q).trans hf4);have HV4:=Lib.hid hv4;have HO4:=Lib.hid (own_fr HI.out.own HF4.out HP.out.lt);have hW4:w.heap.size≤w4.heap.size:=Nat.le_trans HI.out.fr.size HF4.out.size;have HLO:=HF2.out.size;clear hv4 hp4 hf4) | (at_builtin;refine wpList_append_lies _ rfl _ _ 22 rfl w.heap.size 9 i0 (.string ⟨#[]⟩) 1 16 Tryz.underlying22 HI0.out HI1.out HI2.out HI3.out rfl (by decide) _ _ _ rfl (HO4.out.alloc _) ⟨w4.heap.size,0,none⟩ 1 1 [.string r1] rfl rfl (cells_new _ #[.string r1] _ _ rfl) (by simp [Value.oneCell']) (by decide) (by unfold maxLen;omega) (by omega) (by simp;omega) _ rfl ?_;intro g2 cap2 w6 hown6 hg6 hat6 _;have HNX:=Lib.hid (RowSt.next hV HI.out HP.out HO2.out (by omega) hkk hk4 HF4.out HP4.out HLO HV4.out hown6 hg6 hat6);clear hown6 hg6 hat6))
       have hm4:=HNX.out.par.c1
       have hl2:(acc++[x2]).length=acc.length+1:=by simp
       rw [hl2] at HNX
       go_roundw
       case rel=>exact ⟨_,_,_,_,_,_,by rw [hl2],HNX⟩
       case measure=>simp [hm4,hp0,intOf];omega
    ·rw [if_neg (fun h=>hlen h.1)] at hout
     have hle2:((acc.length:Int) == (most:Int))=false:=by simp;omega
     clear hlen
     cases hr2:rd (kr+1) with
     | no i =>
      rw [hr2] at hout
      subst hout
      have HR2:=Lib.hid (fun w h1 h2=>HR.out w (kr+1) h1 h2 hkr)
      rw [hr2] at HR2
      go_wp2_with (first | (go_at_call 123;refine HA.out.mono ?_;rintro e w2 ⟨rfl,hp2,hf2⟩;have HP2:=Lib.hid hp2;have HF2:=Lib.hid hf2;have hlw:=World.block_lt_of_cell? _ _ (HE.out.move (HI.out.fr.trans hf2)).large;have hcl:=(HE.out.move (HI.out.fr.trans hf2)).large;clear hp2 hf2) | (go_at_call 142;refine (HR2.out _ HP2.out (HE.out.move (HI.out.fr.trans HF2.out))).mono ?_;rintro e w4 ⟨rfl,h2,h3⟩))
      exact ⟨rfl,rfl,h2,(HI.out.fr.trans HF2.out).trans h3⟩
     | ok x2 k2 =>
      rw [hr2] at hout
      have HO2:=Lib.hid hout
      clear hout
      obtain ⟨hk3,hk4⟩:=HFW.out _ _ _ hr2
      have hkk:kr < k2:=by omega
      have HR2:=Lib.hid (fun w h1 h2=>HR.out w (kr+1) h1 h2 hkr)
      rw [hr2] at HR2
      go_wp2_with (first | (go_at_call 123;refine HA.out.mono ?_;rintro e w2 ⟨rfl,hp2,hf2⟩;have HP2:=Lib.hid hp2;have HF2:=Lib.hid hf2;have hlw:=World.block_lt_of_cell? _ _ (HE.out.move (HI.out.fr.trans hf2)).large;have hcl:=(HE.out.move (HI.out.fr.trans hf2)).large;clear hp2 hf2) | (go_at_call 142;refine (HR2.out _ HP2.out (HE.out.move (HI.out.fr.trans HF2.out))).mono ?_;rintro e w4 ⟨v4,rfl,hv4,hp4,hf4⟩;obtain ⟨r1,rfl⟩:=hT _ _ _ _ _ hv4;have HP4:=Lib.hid hp4;have HF4:=Lib.hid (HF2.out.trans hf4);have HV4:=Lib.hid hv4;have HO4:=Lib.hid (own_fr HI.out.own HF4.out HP.out.lt);have hW4:w.heap.size≤w4.heap.size:=Nat.le_trans HI.out.fr.size HF4.out.size;have HLO:=HF2.out.size;clear hv4 hp4 hf4) | (at_builtin;refine wpList_append_lies _ rfl _ _ 22 rfl w.heap.size 9 i0 (.string ⟨#[]⟩) 1 16 Tryz.underlying22 HI0.out HI1.out HI2.out HI3.out rfl (by decide) _ _ _ rfl (HO4.out.alloc _) ⟨w4.heap.size,0,none⟩ 1 1 [.string r1] rfl rfl (cells_new _ #[.string r1] _ _ rfl) (by simp [Value.oneCell']) (by decide) (by unfold maxLen;omega) (by omega) (by simp;omega) _ rfl ?_;intro g2 cap2 w6 hown6 hg6 hat6 _;have HNX:=Lib.hid (RowSt.next hV HI.out HP.out HO2.out (by omega) hkk hk4 HF4.out HP4.out HLO HV4.out hown6 hg6 hat6);clear hown6 hg6 hat6))
      have hm4:=HNX.out.par.c1
      have hl2:(acc++[x2]).length=acc.length+1:=by simp
      rw [hl2] at HNX
      go_roundw
      case rel=>exact ⟨_,_,_,_,_,_,by rw [hl2],HNX⟩
      case measure=>simp [hm4,hp0,intOf];omega
end Lx
end Go.Proofs.YtiljemkglhloeaaGreatDoor
namespace Go.Proofs.YtiljemkglhloeaaGreatDoor
set_option linter.unusedSimpArgs false
set_option linter.unusedVariables false
namespace Lx
open Go Go.RowKit
def ThisBo (V:Holds Bool):Prop:=∀ x v lo hi w,V x v lo hi w→∃ z1,v=.bool z1
theorem infoBo:(Tryz.prog.info? 4).map (fun i=>(i.zero,i.size,i.bytes))=some (some (.bool false),1,1):=by kernel_rfl
/-- The row as the loop holds it. -/
structure RowBo (V:Holds Bool) (rd:Nat→Out Bool) (mark:List UInt8) (most:Nat) (O:Out (List Bool)) (w:World) (b:Nat) (A:Option Addr) (c:Nat) (ts:List Tok) (ne:Int) (v:Value) (wr:World) (m k:Nat) (acc:List Bool) (vs:List Value) (g cap:Nat):Prop where
 out:rowLoop rd ts mark most m k acc=O
 fuel:ts.length < k+m
 le:k≤ts.length
 few:acc.length≤k
 val:v=.slice (some ⟨g,0,none⟩) acc.length cap
 own:wr.ownsRow w.heap.size 4 1 v acc.length (vs.flatMap cellsL)
 items:Items V w.heap.size wr.heap.size g wr acc vs
 par:Par wr b A c ts k ne
 fr:PFr b w wr
theorem RowBo.next {V:Holds Bool} (hV:Stable V) {rd:Nat→Out Bool} {mark:List UInt8} {most:Nat} {O:Out (List Bool)} {w:World} {b:Nat} {A:Option Addr} {c:Nat} {ts:List Tok} {ne:Int} {v:Value} {wr:World} {m k:Nat} {acc:List Bool} {vs:List Value} {g cap:Nat}
  (h:RowBo V rd mark most O w b A c ts ne v wr m k acc vs g cap) {k0:Nat} (h0:Par w b A c ts k0 ne) {x2:Bool} {v2:Value} {k2 m2:Nat} {w4 w6:World} {o:Obj} {lo4 g2 cap2:Nat}
  (hout:rowLoop rd ts mark most m2 k2 (acc++[x2])=O) (hfu:ts.length < k2+m2) (hk:k < k2) (hk4:k2≤ts.length) (hf4:PFr b wr w4) (hp4:Par w4 b A c ts k2 ne) (hlo:wr.heap.size≤lo4) (hv4:V x2 v2 lo4 w4.heap.size w4)
  (hown:w6.ownsRow w.heap.size 4 1 (.slice (some ⟨g2,0,none⟩) (acc.length+1) cap2) (acc.length+1) (vs.flatMap cellsL++cellsL v2)) (hg:(w4.alloc o).grownBy w6 v.ownBlock) (hat:v.ownBlock=some g2 ∨ g2=(w4.alloc o).heap.size) :
  RowBo V rd mark most O w b A c ts ne (.slice (some ⟨g2,0,none⟩) (acc++[x2]).length cap2) w6 m2 k2 (acc++[x2]) (vs++[v2]) g2 cap2:=by
 have hvb:v.ownBlock=some g:=by rw [h.val];rfl
 have hgl:=h.own.lt g hvb
 rw [hvb] at hg hat
 have hbw:=h0.lt
 have hfr:PFr b w w6:=((h.fr.trans hf4).alloc o).grown hg (fun j hj=>by have:=Option.some.inj hj;omega)
 have hs6:w4.heap.size≤w6.heap.size:=by have:=hg.size;simp at this;omega
 have hblk:∀ j,j < w4.heap.size→j ≠ g→w6.heap[j]?=w4.heap[j]?:=fun j hj hn=>(hg.block j (by simp;omega) (fun e=>hn (Option.some.inj e))).trans (Below.heap_alloc w4 o j hj)
 have hlen:(acc++[x2]).length=acc.length+1:=by simp
 refine ⟨hout,hfu,hk4,?_,rfl,?_,?_,?_,hfr⟩
 ·have:=h.few;rw [hlen];omega
 ·rw [hlen,flat_snoc];exact hown
 ·have i1:=Items.fr hV hf4 hbw h.items
  have i2:=Items.snoc (x:=x2) (v:=v2) ⟨lo4,w4.heap.size,by have:=h.fr.size;omega,Nat.le_refl _,by omega,hv4⟩ i1
  exact Items.step hV (fun j _ j2 j3=>hblk j j2 j3) hs6 (by rcases hat with e | e;exact .inl (Option.some.inj e).symm;exact .inr (by rw [e];simp)) i2
 ·exact h0.move hfr ((hblk b hp4.lt (by omega)).trans hp4.blk) hp4.near hp4.nest0 hp4.nest1
set_option maxRecDepth 100000 in
set_option maxHeartbeats 2000000 in
theorem rowBo_any (b:Nat) (A:Option Addr) (c:Nat) (ts:List Tok) (ne:Int) (f:Nat→Addr) (V:Holds Bool) (hV:Stable V) (hT:ThisBo V) (rd:Nat→Out Bool) (hrd:Fwd ts rd) (mark:ByteArray) (most:Nat) (hmk:mark.data.toList ≠ [])
  (HR:Hid (∀ w k,Par w b A c ts k ne→PErrs w b f→k≤ts.length→Calls Tryz.prog 147 #[.pointer (some ⟨b,0,none⟩)] w fun e w'=>EndsV b A c ts ne f V w (rd k) e w'))
  (w:World) (k:Nat) (h:Par w b A c ts k ne) (hE:PErrs w b f) (hk:k≤ts.length) :
  Calls Tryz.prog 167 #[.pointer (some ⟨b,0,none⟩),.string mark,.int .i64 most,.func (.func 147) #[.pointer (some ⟨b,0,none⟩)] #[]] w fun e w'=>EndsV b A c ts ne f (RowV 4 1 V) w (rowO rd ts mark.data.toList most k) e w':=by
 have HP:=Lib.hid h
 have HE:=Lib.hid hE
 have hfw:=h.few
 have HMK:=Lib.hid hmk
 have HFW:=Lib.hid hrd
 unfold rowO
 have HC:=Lib.hid (HR.out w k h hE hk)
 clear h hE hrd
 obtain ⟨i0,hi,hz0,hz1,hz2⟩:=info_parts infoBo
 have HI0:=Lib.hid hi
 have HI1:=Lib.hid hz0
 have HI2:=Lib.hid hz1
 have HI3:=Lib.hid hz2
 clear hi hz0 hz1 hz2
 cases hr:rd k with
 | no i =>
  rw [hr] at HC
  go_enter Tryz.func167,Tryz.ntmps167
  go_wp2_with (go_at_call 147;refine HC.out.mono ?_;rintro e w1 ⟨rfl,h2,h3⟩)
  exact ⟨rfl,rfl,h2,h3⟩
 | ok x k' =>
  rw [hr] at HC
  obtain ⟨hk1,hk2⟩:=HFW.out _ _ _ hr
  show Calls _ _ _ _ fun e w'=>EndsV b A c ts ne f (RowV 4 1 V) w (rowLoop rd ts mark.data.toList most (ts.length+1) k' [x]) e w'
  have hO:rowLoop rd ts mark.data.toList most (ts.length+1) k' [x]=rowLoop rd ts mark.data.toList most (ts.length+1) k' [x]:=rfl
  generalize hOO:rowLoop rd ts mark.data.toList most (ts.length+1) k' [x]=O at hO ⊢
  clear hO
  have HO:=Lib.hid hOO
  clear hOO
  go_enter Tryz.func167,Tryz.ntmps167
  go_wp2_with (go_at_call 147;refine HC.out.mono ?_;rintro e w1 ⟨v,rfl,hv,hp1,hf1⟩;obtain ⟨p1,rfl⟩:=hT _ _ _ _ _ hv)
  have hst:RowBo V rd mark.data.toList most O w b A c ts ne (.slice (some ⟨w1.heap.size,0,none⟩) 1 1) (w1.alloc (.cells #[.bool p1] 4)) (ts.length+1) k' [x] [.bool p1] w1.heap.size 1:=by
   refine ⟨HO.out,by omega,hk2,by simp;omega,rfl,World.ownsRow_lit w1 _ 1 hf1.size (by decide) rfl,?_,hp1.alloc _,hf1.alloc _⟩
   refine ⟨⟨w.heap.size,w1.heap.size,Nat.le_refl _,by simp,by omega,?_⟩,trivial⟩
   exact hV _ _ _ _ _ _ hv (fun j _ hj=>Below.heap_alloc w1 _ j hj)
  have HS:=Lib.hid hst
  clear hst hv hp1 hf1 HC HO
  go_loopw [9] (fun v wr=>∃ m k acc vs g cap,v=.slice (some ⟨g,0,none⟩) acc.length cap∧Hid (RowBo V rd mark.data.toList most O w b A c ts ne v wr m k acc vs g cap)) (fun _ wr=>ts.length - (intOf ((wr.cell? ⟨b,1,none⟩).getD undef)).toNat)
  case atStart=>exact ⟨_,_,_,_,_,_,rfl,HS⟩
  case round =>
   obtain ⟨m,kr,acc,vs,g,cap,rfl,hI⟩:=hrel
   clear HS
   have HI:=hI
   have hI2:=hI.out
   have hfw2:=hI2.few
   have hle:=hI2.le
   have HA:=Lib.hid (accept_any wr b A c ts kr ne mark hI2.par (by omega))
   rw [hasT_eq] at HA
   have hout:=hI2.out
   have hfu:=hI2.fuel
   obtain ⟨m,rfl⟩:∃ m',m=m'+1:=⟨m - 1,by omega⟩
   rw [rowLoop] at hout
   have hp0:=hI2.par.c1
   cases hh:hasT ts kr mark.data.toList with
   | false =>
    rw [hh] at hout HA
    simp only [Bool.false_eq_true,if_false] at hout HA
    subst hout
    clear hI2 hfu
    go_wp2_with (go_at_call 123;refine HA.out.mono ?_;rintro e w2 ⟨rfl,hp2,hf2⟩)
    go_ret
    have hown:=own_fr HI.out.own hf2 HP.out.lt
    exact ⟨_,rfl,⟨g,cap,vs,rfl,(hown.lt g rfl).2,hown,Items.fr hV hf2 HP.out.lt HI.out.items⟩,hp2,HI.out.fr.trans hf2⟩
   | true =>
    rw [hh] at hout HA
    simp only [if_true] at hout HA
    have hin:kr < ts.length:=hasT_in hh HMK.out
    have hkr:kr+1≤ts.length:=by omega
    clear hI2
    by_cases hlen:acc.length=most
    ·by_cases hmo:kr+1 < ts.length
     ·rw [if_pos ⟨hlen,hmo⟩] at hout
      subst hout
      have hmq:decide (kr+1 < ts.length)=true:=by simpa using hmo
      have hle2:((acc.length:Int) == (most:Int))=true:=by simp;omega
      clear hlen
      go_wp2_with (first | (go_at_call 123;refine HA.out.mono ?_;rintro e w2 ⟨rfl,hp2,hf2⟩;have HP2:=Lib.hid hp2;have HF2:=Lib.hid hf2;have hlw:=World.block_lt_of_cell? _ _ (HE.out.move (HI.out.fr.trans hf2)).large;have hcl:=(HE.out.move (HI.out.fr.trans hf2)).large;clear hp2 hf2) | (go_at_call 94;refine (more_any _ b A c ts (kr+1) ne HP2.out).mono ?_;rw [hmq];rintro e w3 ⟨rfl,q,rfl⟩))
      exact ⟨rfl,rfl,⟨_,_,HP2.out.drewN q,Int.le_refl _⟩,(HI.out.fr.trans HF2.out).drewN q⟩
     ·rw [if_neg (fun h=>hmo h.2)] at hout
      have hmq:decide (kr+1 < ts.length)=false:=by simpa using hmo
      have hle2:((acc.length:Int) == (most:Int))=true:=by simp;omega
      clear hlen hmo
      cases hr2:rd (kr+1) with
      | no i =>
       rw [hr2] at hout
       subst hout
       have HR2:=Lib.hid (fun w h1 h2=>HR.out w (kr+1) h1 h2 hkr)
       rw [hr2] at HR2
       go_wp2_with (first | (go_at_call 123;refine HA.out.mono ?_;rintro e w2 ⟨rfl,hp2,hf2⟩;have HP2:=Lib.hid hp2;have HF2:=Lib.hid hf2;have hlw:=World.block_lt_of_cell? _ _ (HE.out.move (HI.out.fr.trans hf2)).large;have hcl:=(HE.out.move (HI.out.fr.trans hf2)).large;clear hp2 hf2) | (go_at_call 94;refine (more_any _ b A c ts (kr+1) ne HP2.out).mono ?_;rw [hmq];rintro e w3 ⟨rfl,q,rfl⟩) | (go_at_call 147;refine (HR2.out _ (HP2.out.drewN q) (HE.out.move (HI.out.fr.trans (HF2.out.drewN q)))).mono ?_;rintro e w4 ⟨rfl,h2,h3⟩))
       exact ⟨rfl,rfl,h2,(HI.out.fr.trans (HF2.out.drewN q)).trans h3⟩
      | ok x2 k2 =>
       rw [hr2] at hout
       have HO2:=Lib.hid hout
       clear hout
       obtain ⟨hk3,hk4⟩:=HFW.out _ _ _ hr2
       have hkk:kr < k2:=by omega
       have HR2:=Lib.hid (fun w h1 h2=>HR.out w (kr+1) h1 h2 hkr)
       rw [hr2] at HR2
       go_wp2_with (first | (go_at_call 123;refine HA.out.mono ?_;rintro e w2 ⟨rfl,hp2,hf2⟩;have HP2:=Lib.hid hp2;have HF2:=Lib.hid hf2;have hlw:=World.block_lt_of_cell? _ _ (HE.out.move (HI.out.fr.trans hf2)).large;have hcl:=(HE.out.move (HI.out.fr.trans hf2)).large;clear hp2 hf2) | (go_at_call 94;refine (more_any _ b A c ts (kr+1) ne HP2.out).mono ?_;rw [hmq];rintro e w3 ⟨rfl,q,rfl⟩) | (go_at_call 147;refine (HR2.out _ (HP2.out.drewN q) (HE.out.move (HI.out.fr.trans (HF2.out.drewN q)))).mono ?_;rintro e w4 ⟨v4,rfl,hv4,hp4,hf4⟩;obtain ⟨r1,rfl⟩:=hT _ _ _ _ _ hv4;have HP4:=Lib.hid hp4;have HF4:=Lib.hid ((HF2.out.drewN q).trans hf4);have HV4:=Lib.hid hv4;have HO4:=Lib.hid (own_fr HI.out.own HF4.out HP.out.lt);have hW4:w.heap.size≤w4.heap.size:=Nat.le_trans HI.out.fr.size HF4.out.size;have HLO:=HF2.out.size;clear hv4 hp4 hf4) | (at_builtin;refine wpList_append_lies _ rfl _ _ 25 rfl w.heap.size 4 i0 (.bool false) 1 1 Tryz.underlying25 HI0.out HI1.out HI2.out HI3.out rfl (by decide) _ _ _ rfl (HO4.out.alloc _) ⟨w4.heap.size,0,none⟩ 1 1 [.bool r1] rfl rfl (cells_new _ #[.bool r1] _ _ rfl) (by simp [Value.oneCell']) (by decide) (by unfold maxLen;omega) (by omega) (by simp;omega) _ rfl ?_;intro g2 cap2 w6 hown6 hg6 hat6 _;have HNX:=Lib.hid (RowBo.next hV HI.out HP.out HO2.out (by omega) hkk hk4 HF4.out HP4.out HLO HV4.out hown6 hg6 hat6);clear hown6 hg6 hat6))
       have hm4:=HNX.out.par.c1
       have hl2:(acc++[x2]).length=acc.length+1:=by simp
       rw [hl2] at HNX
       go_roundw
       case rel=>exact ⟨_,_,_,_,_,_,by rw [hl2],HNX⟩
       case measure=>simp [hm4,hp0,intOf];omega
    ·rw [if_neg (fun h=>hlen h.1)] at hout
     have hle2:((acc.length:Int) == (most:Int))=false:=by simp;omega
     clear hlen
     cases hr2:rd (kr+1) with
     | no i =>
      rw [hr2] at hout
      subst hout
      have HR2:=Lib.hid (fun w h1 h2=>HR.out w (kr+1) h1 h2 hkr)
      rw [hr2] at HR2
      go_wp2_with (first | (go_at_call 123;refine HA.out.mono ?_;rintro e w2 ⟨rfl,hp2,hf2⟩;have HP2:=Lib.hid hp2;have HF2:=Lib.hid hf2;have hlw:=World.block_lt_of_cell? _ _ (HE.out.move (HI.out.fr.trans hf2)).large;have hcl:=(HE.out.move (HI.out.fr.trans hf2)).large;clear hp2 hf2) | (go_at_call 147;refine (HR2.out _ HP2.out (HE.out.move (HI.out.fr.trans HF2.out))).mono ?_;rintro e w4 ⟨rfl,h2,h3⟩))
      exact ⟨rfl,rfl,h2,(HI.out.fr.trans HF2.out).trans h3⟩
     | ok x2 k2 =>
      rw [hr2] at hout
      have HO2:=Lib.hid hout
      clear hout
      obtain ⟨hk3,hk4⟩:=HFW.out _ _ _ hr2
      have hkk:kr < k2:=by omega
      have HR2:=Lib.hid (fun w h1 h2=>HR.out w (kr+1) h1 h2 hkr)
      rw [hr2] at HR2
      go_wp2_with (first | (go_at_call 123;refine HA.out.mono ?_;rintro e w2 ⟨rfl,hp2,hf2⟩;have HP2:=Lib.hid hp2;have HF2:=Lib.hid hf2;have hlw:=World.block_lt_of_cell? _ _ (HE.out.move (HI.out.fr.trans hf2)).large;have hcl:=(HE.out.move (HI.out.fr.trans hf2)).large;clear hp2 hf2) | (go_at_call 147;refine (HR2.out _ HP2.out (HE.out.move (HI.out.fr.trans HF2.out))).mono ?_;rintro e w4 ⟨v4,rfl,hv4,hp4,hf4⟩;obtain ⟨r1,rfl⟩:=hT _ _ _ _ _ hv4;have HP4:=Lib.hid hp4;have HF4:=Lib.hid (HF2.out.trans hf4);have HV4:=Lib.hid hv4;have HO4:=Lib.hid (own_fr HI.out.own HF4.out HP.out.lt);have hW4:w.heap.size≤w4.heap.size:=Nat.le_trans HI.out.fr.size HF4.out.size;have HLO:=HF2.out.size;clear hv4 hp4 hf4) | (at_builtin;refine wpList_append_lies _ rfl _ _ 25 rfl w.heap.size 4 i0 (.bool false) 1 1 Tryz.underlying25 HI0.out HI1.out HI2.out HI3.out rfl (by decide) _ _ _ rfl (HO4.out.alloc _) ⟨w4.heap.size,0,none⟩ 1 1 [.bool r1] rfl rfl (cells_new _ #[.bool r1] _ _ rfl) (by simp [Value.oneCell']) (by decide) (by unfold maxLen;omega) (by omega) (by simp;omega) _ rfl ?_;intro g2 cap2 w6 hown6 hg6 hat6 _;have HNX:=Lib.hid (RowBo.next hV HI.out HP.out HO2.out (by omega) hkk hk4 HF4.out HP4.out HLO HV4.out hown6 hg6 hat6);clear hown6 hg6 hat6))
      have hm4:=HNX.out.par.c1
      have hl2:(acc++[x2]).length=acc.length+1:=by simp
      rw [hl2] at HNX
      go_roundw
      case rel=>exact ⟨_,_,_,_,_,_,by rw [hl2],HNX⟩
      case measure=>simp [hm4,hp0,intOf];omega
end Lx
end Go.Proofs.YtiljemkglhloeaaGreatDoor
namespace Go.Proofs.YtiljemkglhloeaaGreatDoor
set_option linter.unusedSimpArgs false
set_option linter.unusedVariables false
namespace Lx
open Go Go.RowKit
set_option maxRecDepth 100000 in
set_option maxHeartbeats 2000000 in
theorem argsSt_any (b:Nat) (A:Option Addr) (c:Nat) (ts:List Tok) (ne:Int) (f:Nat→Addr) (V:Holds (List UInt8)) (hV:Stable V) (hT:ThisSt V) (rd:Nat→Out (List UInt8)) (hrd:Fwd ts rd)
  (HR:Hid (∀ w k,Par w b A c ts k ne→PErrs w b f→k≤ts.length→Calls Tryz.prog 142 #[.pointer (some ⟨b,0,none⟩)] w fun e w'=>EndsV b A c ts ne f V w (rd k) e w'))
  (w:World) (k:Nat) (h:Par w b A c ts k ne) (hE:PErrs w b f) (hk:k≤ts.length) :
  Calls Tryz.prog 141 #[.pointer (some ⟨b,0,none⟩),.func (.func 142) #[.pointer (some ⟨b,0,none⟩)] #[]] w fun e w'=>EndsV b A c ts ne f (ArgsV 9 1 V) w (argsO rd ts k) e w':=by
 have HP:=Lib.hid h
 have HE:=Lib.hid hE
 have hfw:=h.few
 have HA:=Lib.hid (accept_any w b A c ts k ne ⟨#[40]⟩ h (by omega))
 rw [hasT_eq] at HA
 unfold argsO
 have e40:(ByteArray.mk #[40]).data.toList=[40]:=rfl
 rw [e40] at HA
 clear h hE e40
 cases hh:hasT ts k [40] with
 | false =>
  rw [hh] at HA
  simp only [Bool.false_eq_true,if_false] at HA ⊢
  go_enter Tryz.func141,Tryz.ntmps141
  go_wp2_with (go_at_call 123;refine HA.out.mono ?_;rintro e w2 ⟨rfl,hp2,hf2⟩)
  go_ret
  exact ⟨_,rfl,.inl ⟨rfl,rfl⟩,hp2,hf2⟩
 | true =>
  rw [hh] at HA
  simp only [if_true] at HA ⊢
  have hin:k < ts.length:=hasT_in hh (by decide)
  have HRow:=Lib.hid (fun w h hE=>rowSt_any b A c ts ne f V hV hT rd hrd ⟨#[44]⟩ 8 (by decide) HR w (k+1) h hE (by omega))
  have e44:(ByteArray.mk #[44]).data.toList=[44]:=rfl
  rw [e44] at HRow
  clear e44
  cases hr:rowO rd ts [44] 8 (k+1) with
  | no i =>
   rw [hr] at HRow
   go_enter Tryz.func141,Tryz.ntmps141
   go_wp2_with (first | (go_at_call 123;refine HA.out.mono ?_;rintro e w2 ⟨rfl,hp2,hf2⟩) | (go_at_call 166;refine (HRow.out _ hp2 (HE.out.move hf2)).mono ?_;rintro e w3 ⟨rfl,h2,h3⟩))
   exact ⟨rfl,rfl,h2,hf2.trans h3⟩
  | ok l k2 =>
   rw [hr] at HRow
   obtain ⟨hk1,hk2⟩:=rowO_fwd hrd _ _ _ _ _ hr
   have HX:=Lib.hid (fun w h hE=>expect_any w b A c ts k2 ne f ⟨#[41]⟩ h (by omega) hE)
   rw [expO_eq] at HX
   have e41:(ByteArray.mk #[41]).data.toList=[41]:=rfl
   rw [e41] at HX
   clear e41
   show Calls _ _ _ _ fun e w'=>EndsV b A c ts ne f (ArgsV 9 1 V) w (match expO ts k2 [41] with | .no i=>.no i | .ok _ k2=>.ok l k2) e w'
   cases hx:expO ts k2 [41] with
   | no i =>
    rw [hx] at HX
    go_enter Tryz.func141,Tryz.ntmps141
    go_wp2_with (first | (go_at_call 123;refine HA.out.mono ?_;rintro e w2 ⟨rfl,hp2,hf2⟩) | (go_at_call 166;refine (HRow.out _ hp2 (HE.out.move hf2)).mono ?_;rintro e w3 ⟨v3,rfl,hv3,hp3,hf3⟩;obtain ⟨g,cap,vs,rfl,hg3⟩:=hv3;have HG:=Lib.hid hg3;clear hg3) | (go_at_call 96;refine (HX.out _ hp3 (HE.out.move (hf2.trans hf3))).mono ?_;rintro e w4 ⟨rfl,h2,h3⟩))
    exact ⟨rfl,rfl,h2,(hf2.trans hf3).trans h3⟩
   | ok u k3 =>
    rw [hx] at HX
    go_enter Tryz.func141,Tryz.ntmps141
    go_wp2_with (first | (go_at_call 123;refine HA.out.mono ?_;rintro e w2 ⟨rfl,hp2,hf2⟩) | (go_at_call 166;refine (HRow.out _ hp2 (HE.out.move hf2)).mono ?_;rintro e w3 ⟨v3,rfl,hv3,hp3,hf3⟩;obtain ⟨g,cap,vs,rfl,hg3⟩:=hv3;have HG:=Lib.hid hg3;clear hg3) | (go_at_call 96;refine (HX.out _ hp3 (HE.out.move (hf2.trans hf3))).mono ?_;rintro e w4 ⟨v4,rfl,rfl,hp4,hf4⟩))
    go_ret
    refine ⟨_,rfl,.inr ?_,hp4,(hf2.trans hf3).trans hf4⟩
    have hrow:RowV 9 1 V l (.slice (some ⟨g,0,none⟩) l.length cap) w2.heap.size w3.heap.size w3:=⟨g,cap,vs,rfl,HG.out⟩
    have h4:=RowV.stable 9 1 hV _ _ _ _ _ w4 hrow (fun j j1 j2=>hf4.block j j2 (by have:=hp2.lt;omega))
    exact RowV.wide h4 hf2.size hf4.size
set_option maxRecDepth 100000 in
set_option maxHeartbeats 2000000 in
theorem argsBo_any (b:Nat) (A:Option Addr) (c:Nat) (ts:List Tok) (ne:Int) (f:Nat→Addr) (V:Holds Bool) (hV:Stable V) (hT:ThisBo V) (rd:Nat→Out Bool) (hrd:Fwd ts rd)
  (HR:Hid (∀ w k,Par w b A c ts k ne→PErrs w b f→k≤ts.length→Calls Tryz.prog 147 #[.pointer (some ⟨b,0,none⟩)] w fun e w'=>EndsV b A c ts ne f V w (rd k) e w'))
  (w:World) (k:Nat) (h:Par w b A c ts k ne) (hE:PErrs w b f) (hk:k≤ts.length) :
  Calls Tryz.prog 146 #[.pointer (some ⟨b,0,none⟩),.func (.func 147) #[.pointer (some ⟨b,0,none⟩)] #[]] w fun e w'=>EndsV b A c ts ne f (ArgsV 4 1 V) w (argsO rd ts k) e w':=by
 have HP:=Lib.hid h
 have HE:=Lib.hid hE
 have hfw:=h.few
 have HA:=Lib.hid (accept_any w b A c ts k ne ⟨#[40]⟩ h (by omega))
 rw [hasT_eq] at HA
 unfold argsO
 have e40:(ByteArray.mk #[40]).data.toList=[40]:=rfl
 rw [e40] at HA
 clear h hE e40
 cases hh:hasT ts k [40] with
 | false =>
  rw [hh] at HA
  simp only [Bool.false_eq_true,if_false] at HA ⊢
  go_enter Tryz.func146,Tryz.ntmps146
  go_wp2_with (go_at_call 123;refine HA.out.mono ?_;rintro e w2 ⟨rfl,hp2,hf2⟩)
  go_ret
  exact ⟨_,rfl,.inl ⟨rfl,rfl⟩,hp2,hf2⟩
 | true =>
  rw [hh] at HA
  simp only [if_true] at HA ⊢
  have hin:k < ts.length:=hasT_in hh (by decide)
  have HRow:=Lib.hid (fun w h hE=>rowBo_any b A c ts ne f V hV hT rd hrd ⟨#[44]⟩ 8 (by decide) HR w (k+1) h hE (by omega))
  have e44:(ByteArray.mk #[44]).data.toList=[44]:=rfl
  rw [e44] at HRow
  clear e44
  cases hr:rowO rd ts [44] 8 (k+1) with
  | no i =>
   rw [hr] at HRow
   go_enter Tryz.func146,Tryz.ntmps146
   go_wp2_with (first | (go_at_call 123;refine HA.out.mono ?_;rintro e w2 ⟨rfl,hp2,hf2⟩) | (go_at_call 167;refine (HRow.out _ hp2 (HE.out.move hf2)).mono ?_;rintro e w3 ⟨rfl,h2,h3⟩))
   exact ⟨rfl,rfl,h2,hf2.trans h3⟩
  | ok l k2 =>
   rw [hr] at HRow
   obtain ⟨hk1,hk2⟩:=rowO_fwd hrd _ _ _ _ _ hr
   have HX:=Lib.hid (fun w h hE=>expect_any w b A c ts k2 ne f ⟨#[41]⟩ h (by omega) hE)
   rw [expO_eq] at HX
   have e41:(ByteArray.mk #[41]).data.toList=[41]:=rfl
   rw [e41] at HX
   clear e41
   show Calls _ _ _ _ fun e w'=>EndsV b A c ts ne f (ArgsV 4 1 V) w (match expO ts k2 [41] with | .no i=>.no i | .ok _ k2=>.ok l k2) e w'
   cases hx:expO ts k2 [41] with
   | no i =>
    rw [hx] at HX
    go_enter Tryz.func146,Tryz.ntmps146
    go_wp2_with (first | (go_at_call 123;refine HA.out.mono ?_;rintro e w2 ⟨rfl,hp2,hf2⟩) | (go_at_call 167;refine (HRow.out _ hp2 (HE.out.move hf2)).mono ?_;rintro e w3 ⟨v3,rfl,hv3,hp3,hf3⟩;obtain ⟨g,cap,vs,rfl,hg3⟩:=hv3;have HG:=Lib.hid hg3;clear hg3) | (go_at_call 96;refine (HX.out _ hp3 (HE.out.move (hf2.trans hf3))).mono ?_;rintro e w4 ⟨rfl,h2,h3⟩))
    exact ⟨rfl,rfl,h2,(hf2.trans hf3).trans h3⟩
   | ok u k3 =>
    rw [hx] at HX
    go_enter Tryz.func146,Tryz.ntmps146
    go_wp2_with (first | (go_at_call 123;refine HA.out.mono ?_;rintro e w2 ⟨rfl,hp2,hf2⟩) | (go_at_call 167;refine (HRow.out _ hp2 (HE.out.move hf2)).mono ?_;rintro e w3 ⟨v3,rfl,hv3,hp3,hf3⟩;obtain ⟨g,cap,vs,rfl,hg3⟩:=hv3;have HG:=Lib.hid hg3;clear hg3) | (go_at_call 96;refine (HX.out _ hp3 (HE.out.move (hf2.trans hf3))).mono ?_;rintro e w4 ⟨v4,rfl,rfl,hp4,hf4⟩))
    go_ret
    refine ⟨_,rfl,.inr ?_,hp4,(hf2.trans hf3).trans hf4⟩
    have hrow:RowV 4 1 V l (.slice (some ⟨g,0,none⟩) l.length cap) w2.heap.size w3.heap.size w3:=⟨g,cap,vs,rfl,HG.out⟩
    have h4:=RowV.stable 4 1 hV _ _ _ _ _ w4 hrow (fun j j1 j2=>hf4.block j j2 (by have:=hp2.lt;omega))
    exact RowV.wide h4 hf2.size hf4.size
end Lx
end Go.Proofs.YtiljemkglhloeaaGreatDoor
