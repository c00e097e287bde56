/- Package unify: grow in general: what is counted for an unknown and for each one in which it is. Conditions: as each states. -/
import Derived.Test.YtnpacamcgifabaaDoorVj
import Derived.Test.YtnpacamcgifabaaDoorVg
import Derived.StillTailTactics
import Derived.Laws.AppendOwnNone
namespace Go.Proofs.YtnpacamcgifabaaDoor
set_option linter.unusedSimpArgs false
set_option linter.unusedVariables false
namespace Lx
open Go Go.RowKit
theorem infoInt:(Tryd.prog.info? 3).map (fun i=>(i.zero,i.size,i.bytes))=some (some (.int .i64 0),1,8):=by kernel_rfl
def natsV (l:List Nat):List Value:=l.map (fun (x:Nat)=>Value.int .i64 (x:Int))
/-- A table's counts and its lists of users; all else in it is as at w0. -/
structure GrS (b g m cap N:Nat) (us:Nat→List Nat) (vus:Nat→Value) (w0:World) (f:Nat→Nat) (w:World):Prop where
 blk:w.heap[b]?=some (.cells #[.slice (gA g m) m cap] 86 (0,0))
 row:∃ cs,w.heap[g]?=some (.cells cs 89 (0,0))∧m * 6≤cs.size
 nod:∀ i,i < m→w.cell? ⟨g,i * 6+4,none⟩=some (.int .i64 (f i:Int))
 usr:∀ i,i < m→w.cell? ⟨g,i * 6+5,none⟩=some (vus i)
 own:∀ i,i < m→w.ownsRow 0 3 1 (vus i) (us i).length (natsV (us i))
 old:∀ i,i < m→∀ k,(vus i).ownBlock=some k→k < N
 lob:b < N
 log:g < N
 new:N=w0.heap.size
 kb:Kb (fun k=>k=g) w0 w
 rest:∀ i j,j < 6→j ≠ 4→w.cell? ⟨g,i * 6+j,none⟩=w0.cell? ⟨g,i * 6+j,none⟩
section
variable {b g m cap N:Nat} {us:Nat→List Nat} {vus:Nat→Value} {w0 w w':World} {f f':Nat→Nat}
theorem GrS.blkP {N:Nat} {w0:World} (h:GrS b g m cap N us vus w0 f w) {i:Nat} (hi:i < m):w.heap[b]?=some (.cells #[.slice (some ⟨g,0,none⟩) m cap] 86 (0,0)):=by
 have:=h.blk
 rwa [gA_pos hi] at this
theorem GrS.size (h:GrS b g m cap N us vus w0 f w):N≤w.heap.size:=by rw [h.new];exact h.kb.size
theorem GrS.grown (h:GrS b g m cap N us vus w0 f w) {ro:Option Nat} (hg:w.grownBy w' ro) (hro:∀ k,ro=some k→N≤k):GrS b g m cap N us vus w0 f w':=by
 have hs:=h.size
 have hlow:∀ k,k < N→w'.heap[k]?=w.heap[k]?:=fun k hk=>hg.block k (by omega) (fun e=>by have:=hro k e.symm;omega)
 obtain ⟨cs,h1,h2⟩:=h.row
 have hc:∀ q,w'.cell? ⟨g,q,none⟩=w.cell? ⟨g,q,none⟩:=fun q=>World.cell?_of_block (hlow g h.log)
 refine ⟨(hlow b h.lob).trans h.blk,⟨cs,(hlow g h.log).trans h1,h2⟩,fun i hi=>(hc _).trans (h.nod i hi),fun i hi=>(hc _).trans (h.usr i hi),fun i hi=>?_,h.old,h.lob,h.log,h.new,?_,fun i j h3 h4=>(hc _).trans (h.rest i j h3 h4)⟩
 ·refine (h.own i hi).kept hg ?_
  cases hv:(vus i).ownBlock with
  | none=>exact .inl rfl
  | some k=>exact .inr (fun e=>by have:=hro k e.symm;have:=h.old i hi k hv;omega)
 ·have k0:=h.kb
  have hn:=h.new
  exact ⟨hg.os.trans k0.os,hg.tape.trans k0.tape,hg.output.trans k0.output,Nat.le_trans k0.size hg.size,fun k hk hn=>(hlow k (by omega)).trans (k0.block k hk hn)⟩
theorem GrS.later (h:GrS b g m cap N us vus w0 f w) (hb:Below w.heap.size w w'):GrS b g m cap N us vus w0 f w' :=
 h.grown (ro:=none) ⟨hb.os,hb.tape,hb.output,hb.size,fun k hk _=>hb.block k hk⟩ (fun _ e=>by cases e)
theorem GrS.frozen (h:GrS b g m cap N us vus w0 f w) (o:Nat):w.frozen? ⟨g,o,none⟩=false:=by
 obtain ⟨cs,h1,_⟩:=h.row
 exact frozenH h1 o
theorem GrS.put (h:GrS b g m cap N us vus w0 f w) {u z:Nat} (hu:u < m) (hf:∀ x,x < m→f' x=if x=u then z else f x):GrS b g m cap N us vus w0 f' (w.setCell ⟨g,u * 6+4,none⟩ (.int .i64 (z:Int))):=by
 obtain ⟨cs,h1,h2⟩:=h.row
 have hq:=blk_put w g (u * 6+4) (.int .i64 (z:Int)) h1 (by omega)
 have hk:Kb (fun k=>k=g) w (w.setCell ⟨g,u * 6+4,none⟩ (.int .i64 (z:Int))):=(Kb.refl (fun k=>k=g) w).put (p:=⟨g,u * 6+4,none⟩) rfl _
 have hbg:b ≠ g:=fun e=>by
  have h3:=h.blk
  rw [e,h1] at h3
  injection h3 with h3
  injection h3 with _ h3
  exact absurd h3 (by decide)
 refine ⟨(hk.block b (by have:=h.lob;have:=h.size;omega) hbg).trans h.blk,⟨_,hq,by simpa using h2⟩,fun i hi=>?_,fun i hi=>?_,fun i hi=>?_,h.old,h.lob,h.log,h.new,h.kb.trans hk,fun i j h3 h4=>?_⟩
 ·rw [hf i hi]
  by_cases e:i=u
  ·subst e
   rw [cellH hq]
   simp
  ·rw [cell_set_other _ _ _ _ _ (by omega),h.nod i hi]
   simp [e]
 ·rw [cell_set_other _ _ _ _ _ (by omega)];exact h.usr i hi
 ·refine own_kb (h.own i hi) hk (fun k e1 e2=>?_)
  subst e2
  exact owner_ne (by decide) (h.own i hi) h1 e1.symm
 ·rw [cell_set_other _ _ _ _ _ (by omega)];exact h.rest i j h3 h4
theorem GrS.congr (h:GrS b g m cap N us vus w0 f w) (hf:∀ x,x < m→f' x=f x):GrS b g m cap N us vus w0 f' w :=
 ⟨h.blk,h.row,fun i hi=>by rw [hf i hi];exact h.nod i hi,h.usr,h.own,h.old,h.lob,h.log,h.new,h.kb,h.rest⟩
end
theorem nats_own {w:World} {N g cap:Nat} {L:List Nat} (h:w.ownsRow N 3 1 (.slice (some ⟨g,0,none⟩) L.length cap) L.length (natsV L)) (k:Nat) (hk:k < L.length):w.cell? ⟨g,k,none⟩=some (.int .i64 (L[k]:Int)):=by
 rw [h.cellAt k (by omega)]
 simp [natsV,hk]
theorem nats_one (w:World) (v:Nat):(w.alloc (.cells #[.int .i64 (v:Int)] 3)).ownsRow w.heap.size 3 1 (.slice (some ⟨w.heap.size,0,none⟩) ([v]:List Nat).length 1) ([v]:List Nat).length (natsV [v]) :=
 ⟨rfl,.inr ⟨w.heap.size,1,#[.int .i64 (v:Int)],rfl,Nat.le_refl _,heap_alloc_new _ _,Nat.le_refl _,by unfold maxLen;omega,rfl,rfl⟩⟩
theorem own_put {w:World} {N g cap n:Nat} {xs:List Value} {q:Nat} {u:Value} {t e:TypeId} {G:Nat} {cs:Array Value} {fr:Nat × Nat} (h:w.ownsRow N e 1 (.slice (some ⟨g,0,none⟩) n cap) n xs) (hG:w.heap[G]?=some (.cells cs t fr)) (hne:e ≠ t):(w.setCell ⟨G,q,none⟩ u).ownsRow N e 1 (.slice (some ⟨g,0,none⟩) n cap) n xs :=
 own_kb h ((Kb.refl (fun k=>k=G) w).put (p:=⟨G,q,none⟩) rfl _) (fun k e1 e2=>by
  subst e2
  exact owner_ne hne h hG e1.symm)
set_option maxRecDepth 100000 in
set_option maxHeartbeats 4000000 in
theorem grow_gen (b g m cap:Nat) (r:Rho) (B:Nat→Option TyT) (us:Nat→List Nat) (rk:Nat→Nat) (vus:Nat→Value) (f:Nat→Nat) (v more:Nat) (HU:Hid (Uses m r B us rk)) (HB:Hid (B v=none)) (HVM:Hid (v < m)) (HF:Hid (∀ x,x < m→f x≤200)) (HO:Hid (∀ x,x < m→occT v (r x)≤200))
  (hm0:0 < more) (hml:more≤100000) (hms:m≤1000000000) (w:World) (h:GrS b g m cap w.heap.size us vus w f w) :
  Calls Tryd.prog 107 #[.pointer (some ⟨b,0,none⟩),.int .i64 v,.int .i64 more] w fun e w' =>
   (e=.returned (.bool true)∧(∀ x,x < m→f x+more * occT v (r x)≤200)∧GrS b g m cap w.heap.size us vus w (fun x=>f x+more * occT v (r x)) w') ∨
   (e=.returned (.bool false)∧(∃ x,x < m∧200 < f x+more * occT v (r x))∧GrS b g m cap w.heap.size us vus w f w'):=by
 obtain ⟨i0,hi0,hz0,hz1,hz2⟩:=info_parts infoInt
 have HI0:=Lib.hid hi0
 have HI1:=Lib.hid hz0
 have HI2:=Lib.hid hz1
 have HI3:=Lib.hid hz2
 clear hi0 hz0 hz1 hz2
 have H0:=Lib.hid (h.later (below_alloc w (.cells #[.int .i64 (v:Int)] 3)))
 have HN0:=Lib.hid (nats_one w v)
 clear h
 have e0:((more:Int) == 0)=false:=by simp;omega
 go_enter Tryd.func107,Tryd.ntmps107
 go_wp2_with fail
 generalize (w.alloc (.cells #[.int .i64 (v:Int)] 3))=W at H0 HN0 ⊢
 go_loopw [7,8] (fun t7 t8 wr=>∃ (L:List Nat) (k gb cp:Nat),t7=.slice (some ⟨gb,0,none⟩) L.length cp∧t8=.int .i64 k∧Hid (GrowI m us r v more f L k)∧Hid (GrS b g m cap w.heap.size us vus w (fun x=>f x+more * (L.take k).count x) wr)∧Hid (wr.ownsRow w.heap.size 3 1 (.slice (some ⟨gb,0,none⟩) L.length cp) L.length (natsV L))) (fun _ t8 _=>m * 200 - (intOf t8).toNat)
 case atStart=>exact ⟨[v],0,w.heap.size,1,rfl,rfl,Lib.hid (GrowI.start HU.out HB.out HVM.out HF.out),Lib.hid (H0.out.congr (fun x _=>by simp)),HN0⟩
 case round =>
  obtain ⟨L,k,gb,cp,rfl,rfl,HG,HS,HN⟩:=hrel
  have hshort:=HG.out.short 200 HO.out
  by_cases hlt:k < L.length
  ·have hLm:L[k] < m:=HG.out.lt _ (List.getElem_mem hlt)
   have hfew:=HG.out.few L[k] hLm
   have hk0:(0:Int)≤(k:Int):=by omega
   have hk1:(k:Int) < (L.length:Int):=by omega
   have hu0:(0:Int)≤(L[k]:Int):=by omega
   have hu1:(L[k]:Int) < (m:Int):=by omega
   have hdc:decide (k < L.length)=true:=by simpa using hlt
   have c0:=(cellH (HS.out.blkP hLm) 0).trans rfl
   have c1:=nats_own HN.out k hlt
   have c2:=HS.out.nod L[k] hLm
   generalize hz:f L[k]+more * (L.take k).count L[k]=z at c2 hfew
   have f0:=HS.out.frozen (L[k] * 6+4)
   go_wp2_with fail
   go_still_tail 15,(by kernel_rfl)
   change wpList _ _ _ _ _ wr.drew
   clear c0 c1 c2 f0
   have HS1:=Lib.hid (HS.out.later (below_drw (Below.refl _ wr)))
   have HN1:=Lib.hid HN.out.drew
   generalize wr.drew=X at HS1 HN1 ⊢
   have c2:=HS1.out.nod L[k] hLm
   simp only [hz] at c2
   have f0:=HS1.out.frozen (L[k] * 6+4)
   go_upto_region 8 with fail
   clear c2 f0
   have htk:L.take (k+1)=L.take k++[L[k]]:=List.take_succ_eq_append_getElem hlt
   have hcn:∀ x,(L.take (k+1)).count x=(L.take k).count x+if x=L[k] then 1 else 0:=fun x=>by
    rw [htk,List.count_append]
    by_cases e:x=L[k]
    ·subst e;simp
    ·have:¬ L[k]=x:=fun h=>e h.symm
     simp [e,this]
   have HS2:Hid (GrS b g m cap w.heap.size us vus w (fun x=>f x+more * (L.take (k+1)).count x) (X.setCell ⟨g,L[k] * 6+4,none⟩ (.int .i64 ((z:Int)+(more:Int))))):=Lib.hid (by
    have q:=HS1.out.put (f':=fun x=>f x+more * (L.take (k+1)).count x) (z:=z+more) hLm (fun x hx=>by
     show f x+more * (L.take (k+1)).count x=_
     rw [hcn x]
     by_cases e:x=L[k]
     ·subst e;simp only [if_true];rw [Nat.mul_add,← hz];omega
     ·simp [e])
    rw [Int.natCast_add] at q
    exact q)
   have HN2:Hid ((X.setCell ⟨g,L[k] * 6+4,none⟩ (.int .i64 ((z:Int)+(more:Int)))).ownsRow w.heap.size 3 1 (.slice (some ⟨gb,0,none⟩) L.length cp) L.length (natsV L)):=Lib.hid (by
    obtain ⟨cs,q1,_⟩:=HS1.out.row
    exact own_put HN1.out q1 (by decide))
   have hz1:f L[k]+more * (L.take (k+1)).count L[k]=z+more:=by
    rw [hcn,← hz];simp only [if_true];rw [Nat.mul_add];omega
   generalize (X.setCell ⟨g,L[k] * 6+4,none⟩ (.int .i64 ((z:Int)+(more:Int))))=Y at HS2 HN2 ⊢
   clear HS1 HN1
   have HCELL:Hid (CellT b m L[k] 4 (.int .i64 ((z+more:Nat):Int)) Y):=Lib.hid (by
    have q:=HS2.out.nod L[k] hLm
    simp only [hz1] at q
    exact ⟨by have:=HS2.out.lob;have:=HS2.out.size;omega,g,cap,(cellH (HS2.out.blkP hLm) 0).trans rfl,by have:=HS2.out.log;have:=HS2.out.size;omega,q⟩)
   have HNOF:=Lib.hid (nodesOf_any b m L[k] _ _ HCELL.out hLm)
   have c1:=nats_own HN2.out k hlt
   clear htk
   have HCN:=Lib.hid hcn
   have HZ:=Lib.hid hz
   have HZ1:=Lib.hid hz1
   clear hcn hz hz1
   have hbd:∀ x,x < m→f x+more * (L.take (k+1)).count x≤100200:=fun x hx=>by
    have q:=HG.out.few x hx
    rw [HCN.out x]
    by_cases e:x=L[k]
    ·simp only [e,if_true];rw [Nat.mul_add,← e];omega
    ·simp only [e,if_false,Nat.add_zero];omega
   have HBD:=Lib.hid hbd
   clear hbd
   have hcap:k+1≤cp∧cp≤maxLen:=by
    rcases HN2.out.2 with ⟨e,_⟩ | ⟨g',cap',cur,e,_,_,h1,h2,_⟩
    ·injection e with e;cases e
    ·injection e with _ _ e3
     omega
   unfold maxLen at hcap
   by_cases hbig:200 < z+more
   ·have hdb:decide ((200:Int) < ((z+more:Nat):Int))=true:=by simp;omega
    have hp1:(0:Int)≤(k:Int)+1:=by omega
    have hp2:(k:Int)+1≤(cp:Int):=by omega
    go_wp2_with (go_at_call 56;refine HNOF.out.mono ?_;rintro e w3 ⟨rfl,rfl⟩)
    clear c1
    go_loopw [48] (fun t wr=>∃ j:Nat,j≤k+1∧t=.int .i64 j∧Hid (GrS b g m cap w.heap.size us vus w (fun x=>f x+more * ((L.take (k+1)).drop j).count x) wr)∧Hid (wr.ownsRow w.heap.size 3 1 (.slice (some ⟨gb,0,none⟩) L.length cp) L.length (natsV L))) (fun t _=>k+1 - (intOf t).toNat)
    case atStart=>exact ⟨0,Nat.zero_le _,rfl,Lib.hid (HS2.out.congr (fun x _=>by simp)),HN2⟩
    case round =>
     obtain ⟨j,hj,rfl,HSJ,HNJ⟩:=hrel
     by_cases hjl:j < k+1
     ·have hjL:j < L.length:=by omega
      have hjm:L[j] < m:=HG.out.lt _ (List.getElem_mem hjL)
      have hj0:(0:Int)≤(j:Int):=by omega
      have hj1:(j:Int) < (k:Int)+1:=by omega
      have hju0:(0:Int)≤(L[j]:Int):=by omega
      have hju1:(L[j]:Int) < (m:Int):=by omega
      have hdj:decide ((j:Int) < (k:Int)+1)=true:=by simp;omega
      have hdr:(L.take (k+1)).drop j=L[j] :: (L.take (k+1)).drop (j+1):=by
       rw [List.drop_eq_getElem_cons (by simp;omega)]
       simp
      have hcn:∀ x,((L.take (k+1)).drop j).count x=((L.take (k+1)).drop (j+1)).count x+if x=L[j] then 1 else 0:=fun x=>by
       rw [hdr,List.count_cons]
       by_cases e:x=L[j]
       ·subst e;simp
       ·have:¬ L[j]=x:=fun h=>e h.symm
        simp [e,this]
      have hle:f L[j]+more * ((L.take (k+1)).drop j).count L[j]≤100200:=Nat.le_trans (Nat.add_le_add_left (Nat.mul_le_mul_left _ ((List.drop_sublist _ _).count_le _)) _) (HBD.out _ hjm)
      have d0:=(cellH (HSJ.out.blkP hjm) 0).trans rfl
      have d1:=nats_own HNJ.out j hjL
      have d2:=HSJ.out.nod L[j] hjm
      have fz:=HSJ.out.frozen (L[j] * 6+4)
      obtain ⟨y,hy⟩:∃ y,f L[j]+more * ((L.take (k+1)).drop (j+1)).count L[j]=y:=⟨_,rfl⟩
      have hy1:f L[j]+more * ((L.take (k+1)).drop j).count L[j]=y+more:=by
       rw [hcn,← hy];simp only [if_true];rw [Nat.mul_add];omega
      simp only [hy1] at d2
      rw [hy1] at hle
      have HCJ:=Lib.hid hcn
      have HY:=Lib.hid hy
      have HY1:=Lib.hid hy1
      have hsub:((y+more:Nat):Int) - (more:Int)=(y:Int):=by omega
      clear hcn hy hy1 hdr
      go_wp2_with fail
      go_roundw
      case rel=>exact ⟨j+1,by omega,by go_num,Lib.hid (HSJ.out.put hjm (fun x hx=>by
        show f x+more * ((L.take (k+1)).drop (j+1)).count x=if x=L[j] then y else f x+more * ((L.take (k+1)).drop j).count x
        by_cases e:x=L[j]
        ·rw [if_pos e,e];exact HY.out
        ·rw [if_neg e,HCJ.out x,if_neg e];rfl)),Lib.hid (by
        obtain ⟨cs,q1,_⟩:=HSJ.out.row
        exact own_put HNJ.out q1 (by decide))⟩
      case measure=>simp [intOf];omega
     ·obtain rfl:j=k+1:=by omega
      have hdj:decide ((k:Int)+1 < (k:Int)+1)=false:=by simp
      go_wp2_with fail
      go_ret
      exact .inr ⟨rfl,HG.out.fails hlt (by rw [Nat.mul_add];have:=HZ.out;omega),HSJ.out.congr (fun x _=>by
       have:(L.take (k+1)).drop (k+1)=[]:=List.drop_eq_nil_of_le (by simp;omega)
       rw [this];simp)⟩
   ·have hdb:decide ((200:Int) < ((z+more:Nat):Int))=false:=by simp;omega
    have hfits:f L[k]+more * ((L.take k).count L[k]+1)≤200:=by rw [Nat.mul_add];have:=HZ.out;omega
    have hg1:=GrowI.step HU.out HB.out HVM.out HG.out hlt hfits
    have hshort1:=hg1.short 200 HO.out
    rw [List.length_append] at hshort1
    have htk1:(L++us L[k]).take (k+1)=L.take (k+1):=List.take_append_of_le_length (by omega)
    have c0:=(cellH (HS2.out.blkP hLm) 0).trans rfl
    have c3:=HS2.out.usr L[k] hLm
    rcases (HS2.out.own L[k] hLm).2 with ⟨ev,en⟩ | ⟨g2,cap2,cur,ev,_,hb2,_⟩
    ·rw [ev] at c3
     have en:=List.eq_nil_of_length_eq_zero en
     rw [en,List.append_nil] at hg1
     have HG1:=Lib.hid hg1
     clear hg1 htk1 hfits
     go_wp2_with (go_at_call 56;refine HNOF.out.mono ?_;rintro e w3 ⟨rfl,rfl⟩)
     go_still_tail 12,(by kernel_rfl)
     change wpList _ _ _ _ _ Y.drew
     clear c0 c1 c3
     have HS3:=Lib.hid (HS2.out.later (below_drw (Below.refl _ Y)))
     have HN3:=Lib.hid HN2.out.drew
     generalize Y.drew=Z at HS3 HN3 ⊢
     go_wp2_with (at_builtin;refine wpList_append_own_none rfl _ _ 87 rfl w.heap.size 3 i0 1 Tryd.underlying87 HI0.out _ _ _ rfl HN3.out rfl ?_)
     go_roundw
     case rel=>exact ⟨L,k+1,gb,cp,rfl,by go_num,HG1,HS3,HN3⟩
     case measure=>simp [intOf];omega
    ·rw [ev] at c3
     have HG1:=Lib.hid hg1
     have HTK:=Lib.hid htk1
     have HEV:=Lib.hid ev
     clear hg1 htk1 hfits hb2 ev
     go_wp2_with (go_at_call 56;refine HNOF.out.mono ?_;rintro e w3 ⟨rfl,rfl⟩)
     go_still_tail 12,(by kernel_rfl)
     change wpList _ _ _ _ _ Y.drew
     clear c0 c1 c3
     have HS3:=Lib.hid (HS2.out.later (below_drw (Below.refl _ Y)))
     have HN3:=Lib.hid HN2.out.drew
     generalize Y.drew=Z at HS3 HN3 ⊢
     have HNEW:Hid (∀ j u,(natsV (us L[k]))[j]?=some u→Z.cell? ((⟨g2,0,none⟩:Addr).add j)=some u):=Lib.hid ((HS3.out.own L[k] hLm).cells (by rw [HEV.out];rfl))
     refine wpList_append_own_at _ rfl _ _ 87 rfl w.heap.size 3 i0 (.int .i64 0) 1 8 Tryd.underlying87 HI0.out HI1.out HI2.out HI3.out rfl (by decide) _ _ _ rfl HN3.out ⟨g2,0,none⟩ (us L[k]).length cap2 (natsV (us L[k])) rfl (by simp [natsV]) HNEW.out (fun u hu=>by obtain ⟨q,_,rfl⟩:=List.mem_map.1 hu;rfl) (by unfold maxLen;omega) (by omega) HS3.out.size ?_
     intro v6 w6 hown6 hg6 _ _
     obtain ⟨g4,cap4,rfl,_,_⟩:=hown6.form (by omega)
     have HS6:=Lib.hid (HS3.out.grown hg6 (fun k e=>(HN3.out.lt k e).1))
     have HN6:=Lib.hid hown6
     clear hown6 hg6
     go_wp2_with fail
     go_roundw
     case rel=>exact ⟨L++us L[k],k+1,g4,cap4,by rw [List.length_append],by go_num,HG1,Lib.hid (HS6.out.congr (fun x _=>by rw [HTK.out])),Lib.hid (by
      have q:=HN6.out
      rw [← List.length_append] at q
      have e:natsV (L++us L[k])=natsV L++natsV (us L[k]):=by simp [natsV]
      rw [e]
      exact q)⟩
     case measure=>simp [intOf];omega
  ·obtain rfl:k=L.length:=by have:=HG.out.le;omega
   have hdc:decide (L.length < L.length)=false:=by simp
   go_wp2_with fail
   go_ret
   obtain ⟨q1,q2⟩:=HG.out.ends HU.out HB.out HVM.out
   exact .inl ⟨rfl,q2,HS.out.congr (fun x hx=>by rw [List.take_length,q1 x hx])⟩
end Lx
end Go.Proofs.YtnpacamcgifabaaDoor
