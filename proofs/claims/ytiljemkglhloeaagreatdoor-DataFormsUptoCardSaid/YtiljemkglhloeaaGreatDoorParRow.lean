/- The contract of package parse's row at terms, for whatever reading the function it is handed has: the row of what is read, or the panic. Conditions: the parser's block is its own; at most 16384 tokens. -/
import Derived.Test.YtiljemkglhloeaaGreatDoorParSpec
import Derived.Laws.OwnMore
import Derived.Deep.AppendLies
namespace Go.Proofs.YtiljemkglhloeaaGreatDoor
set_option linter.unusedSimpArgs false
set_option linter.unusedVariables false
namespace Lx
open Go Go.RowKit
/-- A value that holds a thing: what it points to lies in blocks from lo on, below hi. -/
abbrev Holds (α:Type):=α→Value→Nat→Nat→World→Prop
def Stable {α:Type} (V:Holds α):Prop:=∀ x v lo hi w w',V x v lo hi w→(∀ k,lo≤k→k < hi→w'.heap[k]?=w.heap[k]?)→V x v lo hi w'
/-- The ending of a reading: what it returns holds the thing, in new blocks; or the panic. -/
def EndsV {α:Type} (b:Nat) (A:Option Addr) (c:Nat) (ts:List Tok) (ne:Int) (f:Nat→Addr) (V:Holds α) (w:World):Out α→Ending→World→Prop
 | .ok x k',e,w'=>∃ v,e=.returned v∧V x v w.heap.size w'.heap.size w'∧Par w' b A c ts k' ne∧PFr b w w'
 | .no i,e,w'=>Refused b A c ts ne w (errP (f i)) e w'
/-- Each of these values holds its thing, in blocks other than the row's own. -/
def Items {α:Type} (V:Holds α) (lo hi:Nat) (own:Nat) (w:World):List α→List Value→Prop
 | [],[]=>True
 | x :: l,v :: vs=>(∃ p q,lo≤p∧q≤hi∧¬ (p≤own∧own < q)∧V x v p q w)∧Items V lo hi own w l vs
 | _,_=>False
theorem Items.step {α:Type} {V:Holds α} (hV:Stable V) {lo hi hi' own own':Nat} {w w':World} (hk:∀ k,lo≤k→k < hi→k ≠ own→w'.heap[k]?=w.heap[k]?) (hh:hi≤hi') (ho:own'=own ∨ hi≤own') :
  ∀ {l:List α} {vs:List Value},Items V lo hi own w l vs→Items V lo hi' own' w' l vs
 | [],[],_=>trivial
 | x :: l,v :: vs,⟨⟨p,q,h1,h2,h3,h4⟩,h5⟩ =>
  ⟨⟨p,q,h1,by omega,by omega,hV x v p q w w' h4 (fun k k1 k2=>hk k (by omega) (by omega) (by omega))⟩,Items.step hV hk hh ho h5⟩
 | [],_ :: _,h=>h.elim
 | _ :: _,[],h=>h.elim
theorem Items.snoc {α:Type} {V:Holds α} {lo hi own:Nat} {w:World} {x:α} {v:Value} (hn:∃ p q,lo≤p∧q≤hi∧¬ (p≤own∧own < q)∧V x v p q w) :
  ∀ {l:List α} {vs:List Value},Items V lo hi own w l vs→Items V lo hi own w (l++[x]) (vs++[v])
 | [],[],_=>⟨hn,trivial⟩
 | _ :: _,_ :: _,⟨h4,h5⟩=>⟨h4,Items.snoc hn h5⟩
 | [],_ :: _,h=>h.elim
 | _ :: _,[],h=>h.elim
theorem Items.length {α:Type} {V:Holds α} {lo hi own:Nat} {w:World}:∀ {l:List α} {vs:List Value},Items V lo hi own w l vs→vs.length=l.length
 | [],[],_=>rfl
 | _ :: _,_ :: _,⟨_,h5⟩=>by simp [h5.length]
 | [],_ :: _,h=>h.elim
 | _ :: _,[],h=>h.elim
def cellsL (v:Value):List Value:=v.cells.toList
/-- A slice whose cells are those of values that hold the things. -/
def RowV {α:Type} (t:TypeId) (sz:Nat) (V:Holds α):Holds (List α):=fun l v lo hi w=>∃ g cap vs,v=.slice (some ⟨g,0,none⟩) l.length cap∧g < hi∧w.ownsRow lo t sz v l.length (vs.flatMap cellsL)∧Items V lo hi g w l vs
theorem PFr.grown {b:Nat} {x y z:World} {row:Option Nat} (h:PFr b x y) (hg:y.grownBy z row) (hr:∀ k,row=some k→x.heap.size≤k):PFr b x z :=
 ⟨hg.os.trans h.os,hg.tape.trans h.tape,hg.output.trans h.output,Nat.le_trans h.size hg.size,fun k hk hn=>(hg.block k (Nat.lt_of_lt_of_le hk h.size) (fun e=>by have:=hr k e.symm;omega)).trans (h.block k hk hn)⟩
def ThisTerm (V:Holds TermT):Prop:=∀ x v lo hi w,V x v lo hi w→∃ p q z s n c,v=.agg #[.int .i64 p,.string q,.int .i64 z,.slice s n c]
theorem infoTerm:(Tryz.prog.info? 28).map (fun i=>(i.zero,i.size,i.bytes))=some (some (.agg #[.int .i64 0,.string ⟨#[]⟩,.int .i64 0,.slice none 0 0]),4,56):=by kernel_rfl
theorem own_fr {x y:World} {b base sz n:Nat} {e:TypeId} {v:Value} {xs:List Value} (h:x.ownsRow base e sz v n xs) (hf:PFr b x y) (hb:b < base):y.ownsRow base e sz v n xs:=by
 refine h.kept (row:=some b) ⟨hf.os,hf.tape,hf.output,hf.size,fun k hk hn=>hf.block k hk (fun e=>hn (congrArg some e))⟩ ?_
 rcases hv:v.ownBlock with _ | g
 ·exact .inl rfl
 ·refine .inr (fun e=>?_)
  have:=(h.lt g hv).1
  have:=Option.some.inj e
  omega
theorem Items.fr {α:Type} {V:Holds α} (hV:Stable V) {lo b own:Nat} {x y:World} (hf:PFr b x y) (hb:b < lo) {l:List α} {vs:List Value} (h:Items V lo x.heap.size own x l vs):Items V lo y.heap.size own y l vs :=
 Items.step hV (fun k k1 k2 _=>hf.block k k2 (by omega)) hf.size (.inl rfl) h
theorem flat_snoc (vs:List Value) (v:Value):(vs++[v]).flatMap cellsL=vs.flatMap cellsL++cellsL v:=by simp
/-- The row as the loop holds it. -/
structure RowI (V:Holds TermT) (rd:Nat→Out TermT) (mark:List UInt8) (most:Nat) (O:Out (List TermT)) (w:World) (b:Nat) (A:Option Addr) (c:Nat) (ts:List Tok) (ne:Int) (v:Value) (wr:World) (m k:Nat) (acc:List TermT) (vs:List Value) (g cap:Nat):Prop where
 out:rowLoop rd ts mark most m k acc=O
 fuel:ts.length < k+m
 le:k≤ts.length
 few:acc.length≤k
 val:v=.slice (some ⟨g,0,none⟩) acc.length cap
 own:wr.ownsRow w.heap.size 28 4 v acc.length (vs.flatMap cellsL)
 items:Items V w.heap.size wr.heap.size g wr acc vs
 par:Par wr b A c ts k ne
 fr:PFr b w wr
theorem RowI.next {V:Holds TermT} (hV:Stable V) {rd:Nat→Out TermT} {mark:List UInt8} {most:Nat} {O:Out (List TermT)} {w:World} {b:Nat} {A:Option Addr} {c:Nat} {ts:List Tok} {ne:Int} {v:Value} {wr:World} {m k:Nat} {acc:List TermT} {vs:List Value} {g cap:Nat}
  (h:RowI V rd mark most O w b A c ts ne v wr m k acc vs g cap) {k0:Nat} (h0:Par w b A c ts k0 ne) {x2:TermT} {v2:Value} {k2 m2:Nat} {w4 w6:World} {o:Obj} {lo4 g2 cap2:Nat}
  (hout:rowLoop rd ts mark most m2 k2 (acc++[x2])=O) (hfu:ts.length < k2+m2) (hk:k < k2) (hk4:k2≤ts.length) (hf4:PFr b wr w4) (hp4:Par w4 b A c ts k2 ne) (hlo:wr.heap.size≤lo4) (hv4:V x2 v2 lo4 w4.heap.size w4)
  (hown:w6.ownsRow w.heap.size 28 4 (.slice (some ⟨g2,0,none⟩) (acc.length+1) cap2) (acc.length+1) (vs.flatMap cellsL++cellsL v2)) (hg:(w4.alloc o).grownBy w6 v.ownBlock) (hat:v.ownBlock=some g2 ∨ g2=(w4.alloc o).heap.size) :
  RowI V rd mark most O w b A c ts ne (.slice (some ⟨g2,0,none⟩) (acc++[x2]).length cap2) w6 m2 k2 (acc++[x2]) (vs++[v2]) g2 cap2:=by
 have hvb:v.ownBlock=some g:=by rw [h.val];rfl
 have hgl:=h.own.lt g hvb
 rw [hvb] at hg hat
 have hbw:=h0.lt
 have hfr:PFr b w w6:=((h.fr.trans hf4).alloc o).grown hg (fun j hj=>by have:=Option.some.inj hj;omega)
 have hs6:w4.heap.size≤w6.heap.size:=by have:=hg.size;simp at this;omega
 have hblk:∀ j,j < w4.heap.size→j ≠ g→w6.heap[j]?=w4.heap[j]?:=fun j hj hn=>(hg.block j (by simp;omega) (fun e=>hn (Option.some.inj e))).trans (Below.heap_alloc w4 o j hj)
 have hlen:(acc++[x2]).length=acc.length+1:=by simp
 refine ⟨hout,hfu,hk4,?_,rfl,?_,?_,?_,hfr⟩
 ·have:=h.few;rw [hlen];omega
 ·rw [hlen,flat_snoc];exact hown
 ·have i1:=Items.fr hV hf4 hbw h.items
  have i2:=Items.snoc (x:=x2) (v:=v2) ⟨lo4,w4.heap.size,by have:=h.fr.size;omega,Nat.le_refl _,by omega,hv4⟩ i1
  exact Items.step hV (fun j _ j2 j3=>hblk j j2 j3) hs6 (by rcases hat with e | e;exact .inl (Option.some.inj e).symm;exact .inr (by rw [e];simp)) i2
 ·exact h0.move hfr ((hblk b hp4.lt (by omega)).trans hp4.blk) hp4.near hp4.nest0 hp4.nest1
set_option maxRecDepth 100000 in
set_option maxHeartbeats 2000000 in
theorem rowTerm_any (b:Nat) (A:Option Addr) (c:Nat) (ts:List Tok) (ne:Int) (f:Nat→Addr) (V:Holds TermT) (hV:Stable V) (hT:ThisTerm V) (rd:Nat→Out TermT) (hrd:Fwd ts rd) (mark:ByteArray) (most:Nat) (hmk:mark.data.toList ≠ [])
  (HR:Hid (∀ w k,Par w b A c ts k ne→PErrs w b f→k≤ts.length→Calls Tryz.prog 86 #[.pointer (some ⟨b,0,none⟩)] w fun e w'=>EndsV b A c ts ne f V w (rd k) e w'))
  (w:World) (k:Nat) (h:Par w b A c ts k ne) (hE:PErrs w b f) (hk:k≤ts.length) :
  Calls Tryz.prog 133 #[.pointer (some ⟨b,0,none⟩),.string mark,.int .i64 most,.func (.func 86) #[.pointer (some ⟨b,0,none⟩)] #[]] w fun e w'=>EndsV b A c ts ne f (RowV 28 4 V) w (rowO rd ts mark.data.toList most k) e w':=by
 have HP:=Lib.hid h
 have HE:=Lib.hid hE
 have hfw:=h.few
 have HMK:=Lib.hid hmk
 have HFW:=Lib.hid hrd
 unfold rowO
 have HC:=Lib.hid (HR.out w k h hE hk)
 clear h hE hrd
 obtain ⟨i0,hi,hz0,hz1,hz2⟩:=info_parts infoTerm
 have HI0:=Lib.hid hi
 have HI1:=Lib.hid hz0
 have HI2:=Lib.hid hz1
 have HI3:=Lib.hid hz2
 clear hi hz0 hz1 hz2
 cases hr:rd k with
 | no i =>
  rw [hr] at HC
  go_enter Tryz.func133,Tryz.ntmps133
  go_wp2_with (go_at_call 86;refine HC.out.mono ?_;rintro e w1 ⟨rfl,h2,h3⟩)
  exact ⟨rfl,rfl,h2,h3⟩
 | ok x k' =>
  rw [hr] at HC
  obtain ⟨hk1,hk2⟩:=HFW.out _ _ _ hr
  show Calls _ _ _ _ fun e w'=>EndsV b A c ts ne f (RowV 28 4 V) w (rowLoop rd ts mark.data.toList most (ts.length+1) k' [x]) e w'
  have hO:rowLoop rd ts mark.data.toList most (ts.length+1) k' [x]=rowLoop rd ts mark.data.toList most (ts.length+1) k' [x]:=rfl
  generalize hOO:rowLoop rd ts mark.data.toList most (ts.length+1) k' [x]=O at hO ⊢
  clear hO
  have HO:=Lib.hid hOO
  clear hOO
  go_enter Tryz.func133,Tryz.ntmps133
  go_wp2_with (go_at_call 86;refine HC.out.mono ?_;rintro e w1 ⟨v,rfl,hv,hp1,hf1⟩;obtain ⟨p1,p2,p3,p4,p5,p6,rfl⟩:=hT _ _ _ _ _ hv)
  have hst:RowI V rd mark.data.toList most O w b A c ts ne (.slice (some ⟨w1.heap.size,0,none⟩) 1 1) (w1.alloc (.cells #[.int .i64 p1,.string p2,.int .i64 p3,.slice p4 p5 p6] 28)) (ts.length+1) k' [x] [.agg #[.int .i64 p1,.string p2,.int .i64 p3,.slice p4 p5 p6]] w1.heap.size 1:=by
   refine ⟨HO.out,by omega,hk2,by simp;omega,rfl,World.ownsRow_lit w1 _ 1 hf1.size (by decide) rfl,?_,hp1.alloc _,hf1.alloc _⟩
   refine ⟨⟨w.heap.size,w1.heap.size,Nat.le_refl _,by simp,by omega,?_⟩,trivial⟩
   exact hV _ _ _ _ _ _ hv (fun j _ hj=>Below.heap_alloc w1 _ j hj)
  have HS:=Lib.hid hst
  clear hst hv hp1 hf1 HC HO
  go_loopw [9] (fun v wr=>∃ m k acc vs g cap,v=.slice (some ⟨g,0,none⟩) acc.length cap∧Hid (RowI V rd mark.data.toList most O w b A c ts ne v wr m k acc vs g cap)) (fun _ wr=>ts.length - (intOf ((wr.cell? ⟨b,1,none⟩).getD undef)).toNat)
  case atStart=>exact ⟨_,_,_,_,_,_,rfl,HS⟩
  case round =>
   obtain ⟨m,kr,acc,vs,g,cap,rfl,hI⟩:=hrel
   clear HS
   have HI:=hI
   have hI2:=hI.out
   have hfw2:=hI2.few
   have hle:=hI2.le
   have HA:=Lib.hid (accept_any wr b A c ts kr ne mark hI2.par (by omega))
   rw [hasT_eq] at HA
   have hout:=hI2.out
   have hfu:=hI2.fuel
   obtain ⟨m,rfl⟩:∃ m',m=m'+1:=⟨m - 1,by omega⟩
   rw [rowLoop] at hout
   have hp0:=hI2.par.c1
   cases hh:hasT ts kr mark.data.toList with
   | false =>
    rw [hh] at hout HA
    simp only [Bool.false_eq_true,if_false] at hout HA
    subst hout
    clear hI2 hfu
    go_wp2_with (go_at_call 123;refine HA.out.mono ?_;rintro e w2 ⟨rfl,hp2,hf2⟩)
    go_ret
    have hown:=own_fr HI.out.own hf2 HP.out.lt
    exact ⟨_,rfl,⟨g,cap,vs,rfl,(hown.lt g rfl).2,hown,Items.fr hV hf2 HP.out.lt HI.out.items⟩,hp2,HI.out.fr.trans hf2⟩
   | true =>
    rw [hh] at hout HA
    simp only [if_true] at hout HA
    have hin:kr < ts.length:=hasT_in hh HMK.out
    have hkr:kr+1≤ts.length:=by omega
    clear hI2
    by_cases hlen:acc.length=most
    ·by_cases hmo:kr+1 < ts.length
     ·rw [if_pos ⟨hlen,hmo⟩] at hout
      subst hout
      have hmq:decide (kr+1 < ts.length)=true:=by simpa using hmo
      have hle2:((acc.length:Int) == (most:Int))=true:=by simp;omega
      clear hlen
      go_wp2_with (first | (go_at_call 123;refine HA.out.mono ?_;rintro e w2 ⟨rfl,hp2,hf2⟩;have HP2:=Lib.hid hp2;have HF2:=Lib.hid hf2;have hlw:=World.block_lt_of_cell? _ _ (HE.out.move (HI.out.fr.trans hf2)).large;have hcl:=(HE.out.move (HI.out.fr.trans hf2)).large;clear hp2 hf2) | (go_at_call 94;refine (more_any _ b A c ts (kr+1) ne HP2.out).mono ?_;rw [hmq];rintro e w3 ⟨rfl,q,rfl⟩))
      exact ⟨rfl,rfl,⟨_,_,HP2.out.drewN q,Int.le_refl _⟩,(HI.out.fr.trans HF2.out).drewN q⟩
     ·rw [if_neg (fun h=>hmo h.2)] at hout
      have hmq:decide (kr+1 < ts.length)=false:=by simpa using hmo
      have hle2:((acc.length:Int) == (most:Int))=true:=by simp;omega
      clear hlen hmo
      cases hr2:rd (kr+1) with
      | no i =>
       rw [hr2] at hout
       subst hout
       have HR2:=Lib.hid (fun w h1 h2=>HR.out w (kr+1) h1 h2 hkr)
       rw [hr2] at HR2
       go_wp2_with (first | (go_at_call 123;refine HA.out.mono ?_;rintro e w2 ⟨rfl,hp2,hf2⟩;have HP2:=Lib.hid hp2;have HF2:=Lib.hid hf2;have hlw:=World.block_lt_of_cell? _ _ (HE.out.move (HI.out.fr.trans hf2)).large;have hcl:=(HE.out.move (HI.out.fr.trans hf2)).large;clear hp2 hf2) | (go_at_call 94;refine (more_any _ b A c ts (kr+1) ne HP2.out).mono ?_;rw [hmq];rintro e w3 ⟨rfl,q,rfl⟩) | (go_at_call 86;refine (HR2.out _ (HP2.out.drewN q) (HE.out.move (HI.out.fr.trans (HF2.out.drewN q)))).mono ?_;rintro e w4 ⟨rfl,h2,h3⟩))
       exact ⟨rfl,rfl,h2,(HI.out.fr.trans (HF2.out.drewN q)).trans h3⟩
      | ok x2 k2 =>
       rw [hr2] at hout
       have HO2:=Lib.hid hout
       clear hout
       obtain ⟨hk3,hk4⟩:=HFW.out _ _ _ hr2
       have hkk:kr < k2:=by omega
       have HR2:=Lib.hid (fun w h1 h2=>HR.out w (kr+1) h1 h2 hkr)
       rw [hr2] at HR2
       go_wp2_with (first | (go_at_call 123;refine HA.out.mono ?_;rintro e w2 ⟨rfl,hp2,hf2⟩;have HP2:=Lib.hid hp2;have HF2:=Lib.hid hf2;have hlw:=World.block_lt_of_cell? _ _ (HE.out.move (HI.out.fr.trans hf2)).large;have hcl:=(HE.out.move (HI.out.fr.trans hf2)).large;clear hp2 hf2) | (go_at_call 94;refine (more_any _ b A c ts (kr+1) ne HP2.out).mono ?_;rw [hmq];rintro e w3 ⟨rfl,q,rfl⟩) | (go_at_call 86;refine (HR2.out _ (HP2.out.drewN q) (HE.out.move (HI.out.fr.trans (HF2.out.drewN q)))).mono ?_;rintro e w4 ⟨v4,rfl,hv4,hp4,hf4⟩;obtain ⟨r1,r2,r3,r4,r5,r6,rfl⟩:=hT _ _ _ _ _ hv4;have HP4:=Lib.hid hp4;have HF4:=Lib.hid ((HF2.out.drewN q).trans hf4);have HV4:=Lib.hid hv4;have HO4:=Lib.hid (own_fr HI.out.own HF4.out HP.out.lt);have hW4:w.heap.size≤w4.heap.size:=Nat.le_trans HI.out.fr.size HF4.out.size;have HLO:=HF2.out.size;clear hv4 hp4 hf4) | (at_builtin;refine wpList_append_lies _ rfl _ _ 26 rfl w.heap.size 28 i0 (.agg #[.int .i64 0,.string ⟨#[]⟩,.int .i64 0,.slice none 0 0]) 4 56 Tryz.underlying26 HI0.out HI1.out HI2.out HI3.out rfl (by decide) _ _ _ rfl (HO4.out.alloc _) ⟨w4.heap.size,0,none⟩ 1 1 [.int .i64 r1,.string r2,.int .i64 r3,.slice r4 r5 r6] rfl rfl (cells_new _ #[.int .i64 r1,.string r2,.int .i64 r3,.slice r4 r5 r6] _ _ rfl) (by simp [Value.oneCell']) (by decide) (by unfold maxLen;omega) (by omega) (by simp;omega) _ rfl ?_;intro g2 cap2 w6 hown6 hg6 hat6 _;have HNX:=Lib.hid (RowI.next hV HI.out HP.out HO2.out (by omega) hkk hk4 HF4.out HP4.out HLO HV4.out hown6 hg6 hat6);clear hown6 hg6 hat6))
       have hm4:=HNX.out.par.c1
       have hl2:(acc++[x2]).length=acc.length+1:=by simp
       rw [hl2] at HNX
       go_roundw
       case rel=>exact ⟨_,_,_,_,_,_,by rw [hl2],HNX⟩
       case measure=>simp [hm4,hp0,intOf];omega
    ·rw [if_neg (fun h=>hlen h.1)] at hout
     have hle2:((acc.length:Int) == (most:Int))=false:=by simp;omega
     clear hlen
     cases hr2:rd (kr+1) with
     | no i =>
      rw [hr2] at hout
      subst hout
      have HR2:=Lib.hid (fun w h1 h2=>HR.out w (kr+1) h1 h2 hkr)
      rw [hr2] at HR2
      go_wp2_with (first | (go_at_call 123;refine HA.out.mono ?_;rintro e w2 ⟨rfl,hp2,hf2⟩;have HP2:=Lib.hid hp2;have HF2:=Lib.hid hf2;have hlw:=World.block_lt_of_cell? _ _ (HE.out.move (HI.out.fr.trans hf2)).large;have hcl:=(HE.out.move (HI.out.fr.trans hf2)).large;clear hp2 hf2) | (go_at_call 86;refine (HR2.out _ HP2.out (HE.out.move (HI.out.fr.trans HF2.out))).mono ?_;rintro e w4 ⟨rfl,h2,h3⟩))
      exact ⟨rfl,rfl,h2,(HI.out.fr.trans HF2.out).trans h3⟩
     | ok x2 k2 =>
      rw [hr2] at hout
      have HO2:=Lib.hid hout
      clear hout
      obtain ⟨hk3,hk4⟩:=HFW.out _ _ _ hr2
      have hkk:kr < k2:=by omega
      have HR2:=Lib.hid (fun w h1 h2=>HR.out w (kr+1) h1 h2 hkr)
      rw [hr2] at HR2
      go_wp2_with (first | (go_at_call 123;refine HA.out.mono ?_;rintro e w2 ⟨rfl,hp2,hf2⟩;have HP2:=Lib.hid hp2;have HF2:=Lib.hid hf2;have hlw:=World.block_lt_of_cell? _ _ (HE.out.move (HI.out.fr.trans hf2)).large;have hcl:=(HE.out.move (HI.out.fr.trans hf2)).large;clear hp2 hf2) | (go_at_call 86;refine (HR2.out _ HP2.out (HE.out.move (HI.out.fr.trans HF2.out))).mono ?_;rintro e w4 ⟨v4,rfl,hv4,hp4,hf4⟩;obtain ⟨r1,r2,r3,r4,r5,r6,rfl⟩:=hT _ _ _ _ _ hv4;have HP4:=Lib.hid hp4;have HF4:=Lib.hid (HF2.out.trans hf4);have HV4:=Lib.hid hv4;have HO4:=Lib.hid (own_fr HI.out.own HF4.out HP.out.lt);have hW4:w.heap.size≤w4.heap.size:=Nat.le_trans HI.out.fr.size HF4.out.size;have HLO:=HF2.out.size;clear hv4 hp4 hf4) | (at_builtin;refine wpList_append_lies _ rfl _ _ 26 rfl w.heap.size 28 i0 (.agg #[.int .i64 0,.string ⟨#[]⟩,.int .i64 0,.slice none 0 0]) 4 56 Tryz.underlying26 HI0.out HI1.out HI2.out HI3.out rfl (by decide) _ _ _ rfl (HO4.out.alloc _) ⟨w4.heap.size,0,none⟩ 1 1 [.int .i64 r1,.string r2,.int .i64 r3,.slice r4 r5 r6] rfl rfl (cells_new _ #[.int .i64 r1,.string r2,.int .i64 r3,.slice r4 r5 r6] _ _ rfl) (by simp [Value.oneCell']) (by decide) (by unfold maxLen;omega) (by omega) (by simp;omega) _ rfl ?_;intro g2 cap2 w6 hown6 hg6 hat6 _;have HNX:=Lib.hid (RowI.next hV HI.out HP.out HO2.out (by omega) hkk hk4 HF4.out HP4.out HLO HV4.out hown6 hg6 hat6);clear hown6 hg6 hat6))
      have hm4:=HNX.out.par.c1
      have hl2:(acc++[x2]).length=acc.length+1:=by simp
      rw [hl2] at HNX
      go_roundw
      case rel=>exact ⟨_,_,_,_,_,_,by rw [hl2],HNX⟩
      case measure=>simp [hm4,hp0,intOf];omega
end Lx
end Go.Proofs.YtiljemkglhloeaaGreatDoor
