/- Two tables beside one another: Fresh in detail; one table's state while the other one changes; two rows that grow. Conditions: as each states. -/
/- Unify of two new tables' types, by its code; new tables in any surroundings; rows that grow beside one another. No program is walked in this text; conditions: as each states. -/
/- Two rows of types beside one another that both grow in one statement. No program is walked in this text; conditions: as each states. -/
import Derived.Test.YtdegmeoapgibiaaDoorWxF
import Derived.Test.YtdegmeoapgibiaaDoorMxA
namespace Go.Proofs.YtdegmeoapgibiaaDoor
set_option linter.unusedSimpArgs false
set_option linter.unusedVariables false
namespace Lx
open Go Go.RowKit
set_option maxRecDepth 100000 in
set_option maxHeartbeats 2000000 in
theorem fresh_fine (B b n:Nat) (A:Option Addr) (c:Nat) (w:World) (h:TabF B b n A c w) (hn:n≤1000000) (hB:B≤w.heap.size) :
  Calls Tryd.prog 11 #[.pointer (some ⟨b,0,none⟩)] w fun e w'=>e=.returned (.agg #[.int .i64 4,.string ⟨#[]⟩,.int .i64 n,.slice none 0 0])∧(∃ g' c',TabF B b (n+1) (some ⟨g',0,none⟩) c' w'∧((Value.slice A n c).ownBlock=some g' ∨ w.heap.size≤g'))∧Below B w w'∧Kb (fun k=>k=b ∨ (Value.slice A n c).ownBlock=some k) w w':=by
 obtain ⟨i0,hi0,hz0,hz1,hz2⟩:=info_parts infoBind
 have HI0:=Lib.hid hi0
 have HI1:=Lib.hid hz0
 have HI2:=Lib.hid hz1
 have HI3:=Lib.hid hz2
 clear hi0 hz0 hz1 hz2
 have hb:b < w.heap.size:=(Array.getElem?_eq_some_iff.1 h.blk).1
 have a0:=(cellH ((Below.heap_alloc w (.cells #[.int .i64 0,.string ⟨#[]⟩,.int .i64 0,.slice none 0 0] 32) b hb).trans h.blk) 0).trans rfl
 have HB1:=Lib.hid (below_alloc w (.cells #[.int .i64 0,.string ⟨#[]⟩,.int .i64 0,.slice none 0 0] 32))
 have HO:=Lib.hid (own_belowN h.own HB1.out)
 have HBLK:=Lib.hid ((HB1.out.block b hb).trans h.blk)
 have HZB:=Lib.hid (heap_alloc_new w (.cells #[.int .i64 0,.string ⟨#[]⟩,.int .i64 0,.slice none 0 0] 32))
 have hne:¬ b=w.heap.size:=by omega
 have HH:=Lib.hid h
 have hs1:(w.alloc (.cells #[.int .i64 0,.string ⟨#[]⟩,.int .i64 0,.slice none 0 0] 32)).heap.size=w.heap.size+1:=by simp
 clear h
 go_enter Tryd.func11,Tryd.ntmps11
 go_wp2_with (at_builtin;refine wpList_append_lies _ rfl _ _ 65 rfl B 70 i0 (.agg #[.int .i64 0,.string ⟨#[]⟩,.int .i64 0,.slice none 0 0,.int .i64 0,.slice none 0 0]) 6 88 Tryd.underlying65 HI0.out HI1.out HI2.out HI3.out rfl (by decide) _ _ _ rfl (HO.out.alloc _) ⟨w.heap.size+1,0,none⟩ 1 1 [.int .i64 0,.string ⟨#[]⟩,.int .i64 0,.slice none 0 0,.int .i64 1,.slice none 0 0] rfl rfl (cells_new _ #[.int .i64 0,.string ⟨#[]⟩,.int .i64 0,.slice none 0 0,.int .i64 1,.slice none 0 0] _ _ (by rw [hs1])) (by simp [Value.oneCell']) (by decide) (by unfold maxLen;omega) (by omega) (by simp;omega) _ rfl ?_;intro g2 cap2 w6 hown6 hg6 hat6 _;have HO6:=Lib.hid hown6;have HG6:=Lib.hid hg6;have HA6:=Lib.hid hat6;have HT6:=Lib.hid ((hg6.block b (by simp;omega) (owner_ne (by decide) (HO.out.alloc (.cells #[.int .i64 0,.string ⟨#[]⟩,.int .i64 0,.slice none 0 0,.int .i64 1,.slice none 0 0] 70)) ((Below.heap_alloc _ _ b (by simp;omega)).trans HBLK.out))).trans ((Below.heap_alloc _ _ b (by simp;omega)).trans HBLK.out));have HZ6:=Lib.hid ((hg6.block w.heap.size (by simp;omega) (owner_ne (by decide) (HO.out.alloc (.cells #[.int .i64 0,.string ⟨#[]⟩,.int .i64 0,.slice none 0 0,.int .i64 1,.slice none 0 0] 70)) ((Below.heap_alloc _ _ w.heap.size (by simp)).trans HZB.out))).trans ((Below.heap_alloc _ _ w.heap.size (by simp)).trans HZB.out));have t0:=(cellH HT6.out 0).trans rfl;have f0:=frozenH HT6.out 0;have z0:=(cellH HZ6.out 0).trans rfl;have z1:=(cellH HZ6.out 1).trans rfl;have z2:=(cellH HZ6.out 2).trans rfl;have z3:=(cellH HZ6.out 3).trans rfl;have y0:=frozenH HZ6.out 0;have y1:=frozenH HZ6.out 1;have y2:=frozenH HZ6.out 2;have y3:=frozenH HZ6.out 3;clear hown6 hg6 hat6)
 clear t0 f0 z0 z1 z2 z3 y0 y1 y2 y3 a0
 have k1:Kb (fun k=>B≤k) w w6:=(((Kb.refl _ w).alloc _).alloc _).grown HG6.out (fun k e=>(HO.out.lt k e).1)
 have k2:=k1.put (p:=⟨b,0,none⟩) HH.out.lo (.slice (some ⟨g2,0,none⟩) (n+1) cap2)
 have ks:Kb (fun k=>k=b ∨ k=w.heap.size) w6 (((((w6.setCell ⟨b,0,none⟩ (.slice (some ⟨g2,0,none⟩) (n+1) cap2)).setCell ⟨w.heap.size,0,none⟩ (.int .i64 4)).setCell ⟨w.heap.size,1,none⟩ (.string ⟨#[]⟩)).setCell ⟨w.heap.size,2,none⟩ (.int .i64 n)).setCell ⟨w.heap.size,3,none⟩ (.slice none 0 0)):=((Kb.refl (fun k=>k=b ∨ k=w.heap.size) w6).put (p:=⟨b,0,none⟩) (.inl rfl) _).trans ((kput4 _ w.heap.size _ _ _ _).wider (fun k _ e=>.inr e))
 have kB:Kb (fun k=>B≤k) w (((((w6.setCell ⟨b,0,none⟩ (.slice (some ⟨g2,0,none⟩) (n+1) cap2)).setCell ⟨w.heap.size,0,none⟩ (.int .i64 4)).setCell ⟨w.heap.size,1,none⟩ (.string ⟨#[]⟩)).setCell ⟨w.heap.size,2,none⟩ (.int .i64 n)).setCell ⟨w.heap.size,3,none⟩ (.slice none 0 0)):=k2.trans ((kput4 _ w.heap.size _ _ _ _).wider (fun k _ (e:k=w.heap.size)=>by subst e;exact hB))
 have kF:Kb (fun k=>k=b ∨ (Value.slice A n c).ownBlock=some k) w (((((w6.setCell ⟨b,0,none⟩ (.slice (some ⟨g2,0,none⟩) (n+1) cap2)).setCell ⟨w.heap.size,0,none⟩ (.int .i64 4)).setCell ⟨w.heap.size,1,none⟩ (.string ⟨#[]⟩)).setCell ⟨w.heap.size,2,none⟩ (.int .i64 n)).setCell ⟨w.heap.size,3,none⟩ (.slice none 0 0)):=by
  have q1:Kb (fun k=>k=b ∨ (Value.slice A n c).ownBlock=some k) w w6:=(((Kb.refl _ w).alloc _).alloc _).grown HG6.out (fun k e=>.inr e)
  exact q1.join ks (fun j hj e=>e.elim .inl (fun e=>by omega))
 have hq:=put4 (.int .i64 4) (.string ⟨#[]⟩) (.int .i64 n) (.slice none 0 0) ((Below.heap_setCell w6 ⟨b,0,none⟩ (.slice (some ⟨g2,0,none⟩) (n+1) cap2) w.heap.size (fun e=>hne e.symm)).trans HZ6.out)
 have ht:(((((w6.setCell ⟨b,0,none⟩ (.slice (some ⟨g2,0,none⟩) (n+1) cap2)).setCell ⟨w.heap.size,0,none⟩ (.int .i64 4)).setCell ⟨w.heap.size,1,none⟩ (.string ⟨#[]⟩)).setCell ⟨w.heap.size,2,none⟩ (.int .i64 n)).setCell ⟨w.heap.size,3,none⟩ (.slice none 0 0)).heap[b]?=some (.cells #[.slice (some ⟨g2,0,none⟩) (n+1) cap2] 67 (0,0)) :=
  ((kput4 (w6.setCell ⟨b,0,none⟩ (.slice (some ⟨g2,0,none⟩) (n+1) cap2)) w.heap.size (.int .i64 4) (.string ⟨#[]⟩) (.int .i64 n) (.slice none 0 0)).block b (by have:=k2.size;omega) hne).trans (blk_put _ _ 0 _ HT6.out (by show 0 < 1;decide))
 have ho:=own_kb HO6.out ks (fun k e=>by
  rintro (rfl | rfl)
  ·exact owner_ne (by decide) HO6.out HT6.out e.symm
  ·exact owner_ne (by decide) HO6.out HZ6.out e.symm)
 generalize (((((w6.setCell ⟨b,0,none⟩ (.slice (some ⟨g2,0,none⟩) (n+1) cap2)).setCell ⟨w.heap.size,0,none⟩ (.int .i64 4)).setCell ⟨w.heap.size,1,none⟩ (.string ⟨#[]⟩)).setCell ⟨w.heap.size,2,none⟩ (.int .i64 n)).setCell ⟨w.heap.size,3,none⟩ (.slice none 0 0))=X at kB kF hq ht ho ⊢
 have c0:=(cellH hq 0).trans rfl
 have c1:=(cellH hq 1).trans rfl
 have c2:=(cellH hq 2).trans rfl
 have c3:=(cellH hq 3).trans rfl
 exact bodyPost_ret (v:=.agg #[.int .i64 4,.string ⟨#[]⟩,.int .i64 n,.slice none 0 0]) (by simp [results,Tryd.results11,go_sem,c0,c1,c2,c3]) rfl ⟨rfl,⟨_,_,⟨HH.out.lo,ht,by rw [freeCells];exact ho⟩,HA6.out.imp id (fun e=>by rw [e];simp;omega)⟩,kB.below hB (fun k e=>e),kF⟩
theorem TabF.aside {B b n c:Nat} {A:Option Addr} {w w':World} {S:Nat→Prop} (h:TabF B b n A c w) (hk:Kb S w w') (hb:¬ S b) (hA:∀ k,(Value.slice A n c).ownBlock=some k→¬ S k):TabF B b n A c w' :=
 ⟨h.lo,(hk.block b (Array.getElem?_eq_some_iff.1 h.blk).1 hb).trans h.blk,own_kb h.own hk hA⟩
/-- One table changes; the other one does not. -/
theorem LS.other {b g g' m cap:Nat} {W0 W W':World} {r:Rho} {Vol:Nat→Prop} (h:LS b g m cap W0 W r Vol) (hk:Kb (fun k=>k=g') W W') (hV:Vol g') (hw:∃ cs,W.heap[g']?=some (.cells cs 70 (0,0))) (hw':∃ cs,W'.heap[g']?=some (.cells cs 70 (0,0))) (hne:g'=g→m=0):LS b g m cap W0 W' r Vol:=by
 have hkv:Kb Vol W W':=hk.wider (fun k _ (e:k=g')=>by subst e;exact hV)
 refine h.go ?_ h.2.1 hkv (fun _ _ e=>e) (fun k e=>Nat.lt_of_lt_of_le (h.2.2.1 k e).2 hk.size)
 obtain ⟨hbl,hgl,hnb,hvg⟩:=h.1.lows
 obtain ⟨cs0,hw⟩:=hw
 have hbg:¬ b=g':=fun e=>hnb (e ▸ hV)
 by_cases e:g'=g
 ·subst e
  obtain rfl:=hne rfl
  obtain ⟨rk,B,us,rkU,⟨Bd,h1,h1b,h1c⟩,h2,⟨vus,h3⟩,h4⟩:=h.1
  obtain ⟨cs1,hw'⟩:=hw'
  exact ⟨rk,B,us,rkU,⟨Bd,h1,h1b,⟨(hk.block b hbl hbg).trans h1c.blk,⟨cs1,hw',by omega⟩,fun i hi=>by omega,hvg,hnb⟩⟩,fun i hi=>by omega,⟨vus,(hk.block b hbl hbg).trans h3.blk,⟨cs1,hw',by omega⟩,fun i hi=>by omega,fun i hi=>by omega,fun i hi=>by omega,fun i j hi=>by omega,hvg,hnb⟩,h4⟩
 ·obtain ⟨rk,B,us,rkU,⟨Bd,h1,h1b,h1c⟩,h2,⟨vus,h3⟩,h4⟩:=h.1
  have hge:¬ g=g':=fun x=>e x.symm
  have eg:=hk.block g hgl hge
  obtain ⟨cs',q1,q2⟩:=h3.row
  exact ⟨rk,B,us,rkU,⟨Bd,h1,h1b,h1c.kb hk (fun k (e:k=g')=>e ▸ hV) hge⟩,fun i hi=>(World.cell?_of_block eg).trans (h2 i hi),⟨vus,(hk.block b hbl hbg).trans h3.blk,⟨cs',eg.trans q1,q2⟩,fun i hi=>(World.cell?_of_block eg).trans (h3.usr i hi),fun i hi=>own_kb (h3.own i hi) hk (fun k e1 (e2:k=g')=>owner_ne (by decide) (h3.own i hi) hw (e1.trans (congrArg some e2)).symm),h3.vol,h3.apart,hvg,hnb⟩,h4⟩
theorem LS.grow {b g m cap:Nat} {W0 W:World} {r:Rho} {Vol:Nat→Prop} (h:LS b g m cap W0 W r Vol):∃ cs,W.heap[g]?=some (.cells cs 70 (0,0)):=by
 obtain ⟨rk,B,us,rkU,_,_,⟨vus,h3⟩,_⟩:=h.1
 obtain ⟨cs',q1,_⟩:=h3.row
 exact ⟨cs',q1⟩
/-- Where only tables' rows may be written, only one's is. -/
theorem KV.only {V:Nat→Prop} {g:Nat} {W W':World} (h:KV V g W W') (hV:∀ k,V k→∃ cs fz,W.heap[k]?=some (.cells cs 70 fz)):Kb (fun k=>k=g) W W' :=
 ⟨h.kb.os,h.kb.tape,h.kb.output,h.kb.size,fun k hk hn=>by
  by_cases e:V k
  ·exact h.old k hk hn (by obtain ⟨cs,fz,q⟩:=hV k e;exact ⟨cs,_,fz,q,by decide⟩)
  ·exact h.kb.block k hk e⟩
/-- The row so far; the table's state beside it. -/
structure WasT (Vol:Nat→Prop) (b g m cap:Nat) (W0 w1 wr:World) (r:Rho) (S c:Nat) (acc:List TyT) (vs:List Value):Prop where
 own:wr.ownsRow w1.heap.size 32 4 (.slice (some ⟨S,0,none⟩) acc.length c) acc.length (vs.flatMap cellsL)
 len:vs.length=acc.length
 els:∀ (i:Nat) (h:i < acc.length) (h':i < vs.length),TyE (fun k=>Vol k ∨ k=S) acc[i] vs[i] wr
 ls:LS b g m cap W0 wr r (fun k=>Vol k ∨ k=S)
 nS:¬ Vol S
 lo:W0.heap.size≤w1.heap.size
section
variable {Vol:Nat→Prop} {b g m cap S c:Nat} {W0 w1 wr w4 Wx w6:World} {r:Rho} {acc:List TyT} {vs:List Value}
theorem WasT.start (h:LS b g m cap W0 w1 r Vol):WasT Vol b g m cap W0 w1 (w1.alloc (.cells #[] 32)) r w1.heap.size 0 [] []:=by
 have hb:=below_alloc w1 (.cells #[] 32)
 have hvg:=h.1.lows.2.2.2
 refine ⟨⟨rfl,.inr ⟨w1.heap.size,0,#[],rfl,Nat.le_refl _,heap_alloc_new _ _,Nat.le_refl _,Nat.zero_le _,rfl,rfl⟩⟩,rfl,fun i h=>by simp at h,h.go (h.1.wide hb (fun k hk e=>e.elim id (fun e=>by omega)) (fun _ e=>.inl e)) h.2.1 (Kb.of_below hb) (fun k hk e=>e.elim id (fun e=>by omega)) (fun k e=>e.elim (fun e=>Nat.lt_of_lt_of_le (h.2.2.1 k e).2 hb.size) (fun e=>by subst e;simp)),fun e=>by have:=(h.2.2.1 _ e).2;omega,h.2.2.2.size⟩
theorem WasT.blk (h:WasT Vol b g m cap W0 w1 wr r S c acc vs):∃ cur,wr.heap[S]?=some (.cells cur 32 (0,0))∧w1.heap.size≤S:=by
 rcases h.own.2 with ⟨e,_⟩ | ⟨k,cap',cur,e,hg,hb,_⟩
 ·cases e
 ·injection e with e _ _
  injection e with e
  injection e with e
  subst e
  exact ⟨cur,hb,hg⟩
theorem WasT.vol (h:WasT Vol b g m cap W0 w1 wr r S c acc vs):Vol g∧g ≠ S:=by
 obtain ⟨cur,hb,hs⟩:=h.blk
 have hne:g ≠ S:=by
  intro e
  obtain ⟨rk,B,us,rkU,_,_,⟨vus,h3⟩,_⟩:=h.ls.1
  obtain ⟨cs,q,_⟩:=h3.row
  rw [e,hb] at q
  injection q with q
  injection q with _ ht
  exact absurd ht (by decide)
 exact ⟨(h.ls.1.lows.2.2.2).elim id (fun e=>absurd e hne),hne⟩
/-- Heads' halving, new blocks. -/
theorem WasT.later (h:WasT Vol b g m cap W0 w1 wr r S c acc vs) (hL:LS b g m cap W0 w4 r (fun k=>Vol k ∨ k=S)) (hk:Kb (fun k=>k=g) wr w4):WasT Vol b g m cap W0 w1 w4 r S c acc vs:=by
 obtain ⟨hvg,hne⟩:=h.vol
 have hkv:Kb Vol wr w4:=hk.wider (fun k _ (e:k=g)=>by subst e;exact hvg)
 exact ⟨own_kb h.own hk (fun k e (e2:k=g)=>by
  have e3:S=k:=by injection e
  exact hne (e2.symm.trans e3.symm)),h.len,fun i h1 h2=>TyE.step _ _ _ _ _ _ (h.els i h1 h2) (hkv.wider (fun k _ e=>.inl e)) (fun _ _ e=>e),hL,h.nS,h.lo⟩
theorem WasT.below (h:WasT Vol b g m cap W0 w1 wr r S c acc vs) (hb:Below wr.heap.size wr w4):WasT Vol b g m cap W0 w1 w4 r S c acc vs:=h.later (h.ls.below hb) (Kb.of_below hb)
theorem WasT.snoc (h:WasT Vol b g m cap W0 w1 Wx r S c acc vs) {x2:TyT} {v2:Value} {g2 cap2:Nat} (hv2:TyE (fun k=>Vol k ∨ k=S) x2 v2 Wx)
  (hown:w6.ownsRow w1.heap.size 32 4 (.slice (some ⟨g2,0,none⟩) (acc.length+1) cap2) (acc.length+1) (vs.flatMap cellsL++cellsL v2)) (hg:Wx.grownBy w6 (some S)) (hat:some S=some g2 ∨ g2=Wx.heap.size) :
  WasT Vol b g m cap W0 w1 w6 r g2 cap2 (acc++[x2]) (vs++[v2]):=by
 obtain ⟨cur,hb,hs⟩:=h.blk
 obtain ⟨hvg,hne⟩:=h.vol
 have hlen:(acc++[x2]).length=acc.length+1:=by simp
 have k6:Kb (fun k=>k=S) Wx w6:=⟨hg.os,hg.tape,hg.output,hg.size,fun k hk hn=>hg.block k hk (fun e=>hn (by injection e))⟩
 have hsl:S < Wx.heap.size:=(Array.getElem?_eq_some_iff.1 hb).1
 have hnew:∀ k,k < Wx.heap.size→(Vol k ∨ k=g2)→(Vol k ∨ k=S):=fun k hk e=>by
  rcases e with e | e
  ·exact .inl e
  ·rcases hat with e3 | e3
   ·injection e3 with e3;exact .inr (e.trans e3.symm)
   ·omega
 have hlt2:=(hown.lt g2 rfl)
 have hkV:Kb (fun k=>Vol k ∨ k=S) Wx w6:=k6.wider (fun k _ e=>.inr e)
 have hst:=h.ls.1.swap k6 (fun k (e:k=S)=>⟨.inr e,cur,(0,0),e ▸ hb⟩) hnew (.inl hvg) (fun k e=>e.elim (fun e=>.inl (.inl e)) (fun e=>.inr ⟨cur,(0,0),e ▸ hb⟩))
 refine ⟨by rw [hlen,flat_snoc];exact hown,by simp [h.len],fun i h1 h2=>?_,?_,?_,h.lo⟩
 ·by_cases hi:i < acc.length
  ·rw [List.getElem_append_left hi,List.getElem_append_left (by rw [h.len];exact hi)]
   exact TyE.step _ _ _ _ _ _ (h.els i hi (by rw [h.len];exact hi)) hkV hnew
  ·have e:i=acc.length:=by rw [hlen] at h1;omega
   subst e
   have e1:(acc++[x2])[acc.length]'h1=x2:=by simp
   have e2:(vs++[v2])[acc.length]'h2=v2:=by
    rw [List.getElem_append_right (by rw [h.len];exact Nat.le_refl _)]
    simp [h.len]
   rw [e1,e2]
   exact TyE.step _ _ _ _ _ _ hv2 hkV hnew
 ·exact h.ls.go hst h.ls.2.1 hkV hnew (fun k e=>e.elim (fun e=>by have:=(h.ls.2.2.1 k (.inl e)).2;have:=hg.size;omega) (fun e=>by subst e;exact hlt2.2))
 ·intro e
  rcases hat with e3 | e3
  ·injection e3 with e3;exact h.nS (e3 ▸ e)
  ·have:=(h.ls.2.2.1 g2 (.inl e)).2;omega
theorem WasT.fin (h:WasT Vol b g m cap W0 w1 wr r S c acc vs):RowW 4 TyE Vol acc (.slice (some ⟨S,0,none⟩) acc.length c) wr∧LS b g m cap W0 wr r Vol:=by
 obtain ⟨cur,hb,hs⟩:=h.blk
 obtain ⟨hvg,hne⟩:=h.vol
 have hst:=h.ls.1.narrow (Vol:=Vol) (fun k e=>.inl e) hvg (fun k e=>e.elim .inl (fun e=>.inr ⟨cur,(0,0),e ▸ hb⟩))
 refine ⟨?_,hst,h.ls.2.1,fun k e=>h.ls.2.2.1 k (.inl e),h.ls.2.2.2⟩
 have hcc:acc.length≤c∧c≤maxLen:=by
  rcases h.own.2 with ⟨e,_⟩ | ⟨g',cap',cur,e,_,_,h1,h2,_⟩
  ·cases e
  ·injection e with _ _ e3
   omega
 refine ⟨_,c,rfl,hcc.1,hcc.2,fun i hi=>?_⟩
 have hi2:i < vs.length:=by rw [h.len];exact hi
 have hel:=h.els i hi hi2
 refine ⟨S,0,vs[i],rfl,(Array.getElem?_eq_some_iff.1 hb).1,h.nS,TyE.step _ _ _ _ _ _ hel (Kb.refl _ _) (fun k _ e=>.inl e),fun j hj=>?_⟩
 rw [Nat.zero_add,h.own.cellAt _ (by omega)]
 refine flat_at 4 vs (fun v hvm=>?_) i j hi2 hj
 obtain ⟨n,hn,rfl⟩:=List.getElem_of_mem hvm
 exact tyECells _ _ _ _ (h.els n (by rw [← h.len];exact hn) hn)
/-- Another table's row or table changes. -/
theorem WasT.aside {S2:Nat} (h:WasT Vol b g m cap W0 w1 wr r S c acc vs) (hL:LS b g m cap W0 w4 r (fun k=>Vol k ∨ k=S)) (hk:Kb (fun k=>k=S2) wr w4) (h2:Vol S2):WasT Vol b g m cap W0 w1 w4 r S c acc vs :=
 ⟨own_kb h.own hk (fun k e (e2:k=S2)=>by
  have e3:S=k:=by injection e
  exact h.nS (e3.trans e2 ▸ h2)),h.len,fun i h1 h2'=>TyE.step _ _ _ _ _ _ (h.els i h1 h2') (hk.wider (fun k _ (e:k=S2)=>.inl (e ▸ h2))) (fun _ _ e=>e),hL,h.nS,h.lo⟩
end
end Lx
end Go.Proofs.YtdegmeoapgibiaaDoor
namespace Go.Proofs.YtdegmeoapgibiaaDoor
set_option linter.unusedSimpArgs false
set_option linter.unusedVariables false
namespace Lx
open Go Go.RowKit
/-- A new table's state, whatever else may be written. -/
theorem st_startV {B B0 b m c g0:Nat} {A:Option Addr} {cs0:Array Value} {w:World} (hT:TabF B b m A c w) (h0:m=0→A=none) (hg:w.heap[g0]?=some (.cells cs0 70 (0,0))) (hg0:B0≤g0) (hB:B0≤B):∃ g,B0≤g∧A=gA g m∧(∃ cs,w.heap[g]?=some (.cells cs 70 (0,0)))∧∀ Vol:Nat→Prop,Vol g→¬ Vol b→St Vol b g m c fr w:=by
 obtain ⟨g,h1,h2⟩:=st_start (B0:=B0) hT h0 hg hg0 hB
 obtain ⟨rk,Bx,us,rkU,⟨Bd,p1,p2,p3⟩,p4,⟨vus,p5⟩,p6⟩:=h2
 have hA:A=gA g m:=by
  have q:=p3.blk
  rw [hT.blk] at q
  injection q with q
  injection q with q _
  have q2:=congrArg (fun a:Array Value=>a[0]?) q
  simp only [List.getElem?_toArray,List.getElem?_cons_zero,Option.some.injEq,Value.slice.injEq] at q2
  exact q2.1
 obtain ⟨cs,q1,q2⟩:=p5.row
 have hcell:∀ i j,i < m→j < 6→w.cell? ⟨g,i * 6+j,none⟩=bind0[j]?:=fun i j hi hj=>by
  have ho:=hT.own
  rcases ho.2 with ⟨_,e⟩ | ⟨g',cap',cur,e,_,hb,_⟩
  ·omega
  ·injection e with e1 _ _
   rw [hA,gA_pos hi] at e1
   injection e1 with e1
   injection e1 with e1
   subst e1
   have hlt:i * 6+j < m * 6:=by omega
   rw [hA,gA_pos hi] at ho
   rw [ho.cellAt _ hlt]
   exact freeCells_at m i j hi hj
 refine ⟨g,h1,hA,⟨cs,q1⟩,fun Vol hv hb=>⟨fun _=>0,fun _=>none,fun _=>[],fun _=>0,⟨fun _=>none,⟨res_fr m,fun _ _ _=>rfl,fun _ _ _ e=>(by cases e),fun _ _ _ e=>(by cases e)⟩,fun _=>Iff.rfl,⟨p3.blk,⟨cs,q1,q2⟩,fun i hi=>hcell i 0 hi (by decide),hv,hb⟩⟩,fun i hi=>?_,⟨fun _=>.slice none 0 0,p3.blk,⟨cs,q1,q2⟩,fun i hi=>hcell i 5 hi (by decide),fun _ _=>World.ownsRow_nil _ _ _ _,fun _ _ _ e=>(by cases e),fun _ _ _ _ _ _ e=>(by cases e),hv,hb⟩,⟨fun _ _ _=>rfl,fun _ _ _ e=>(by cases e),fun _ _ _ e=>(by cases e),fun _ _ _ _=>rfl,fun _ _ _ h=>(by cases h)⟩⟩⟩
 rw [hcell i 4 hi (by decide)]
 show _=some (Value.int .i64 ((sizeT (fr i):Nat):Int))
 rw [size_fr]
 rfl
section
variable {fe:Nat→Addr} {b g m cap:Nat} {W0 W W':World} {r:Rho} {Vol:Nat→Prop}
/-- How Unify of a new table ends. -/
def TurnP (fe:Nat→Addr) (m:Nat) (x y:TyT) (z:Value) (r':Rho):Prop :=
 (z=errP (fe 1)∧(strange (m:Int) x=true ∨ strange (m:Int) y=true)) ∨ z=errP (fe 0) ∨
 (strange (m:Int) x=false∧strange (m:Int) y=false∧∃ code,Unif m fr (cleanT x) (cleanT y) code r'∧code ≠ 2∧z=errC fe code)
theorem ls_turn (hE:ErrU fe W0) (hms:m≤1000000000) (h:LS b g m cap W0 W fr Vol) {d:Nat} {x y:TyT} {v1 v2:Value} (hx:TyW d Vol x v1 W) (hy:TyW d Vol y v2 W) (hfx:fewT x) (hfy:fewT y) (hsx:smallT x) (hsy:smallT y) (hV:∀ k,Vol k→∃ cs fz,W.heap[k]?=some (.cells cs 70 fz)) :
  Calls Tryd.prog 14 #[.pointer (some ⟨b,0,none⟩),v1,v2] W fun e w'=>∃ z r' Vol',e=.returned z∧LS b g m cap W0 w' r' Vol'∧Kb (fun k=>k=g) W w'∧(∀ k,Vol k→Vol' k)∧TurnP fe m x y z r':=by
 have hR:=h.1.res
 refine (Unify_any fe b g m cap d hms Vol fr x y v1 v2 W hx hy hfx hfy hsx hsy h.1 h.2.1 (h.err hE) (fun k e=>(h.2.2.1 k e).2)).mono ?_
 rintro e w' (⟨rfl,hs,hb⟩ | ⟨rfl,_,_,_,hb⟩ | ⟨s1,s2,z1,z2,code,r',Vol',hu,rfl,p3,p4,p5,p6,p7⟩)
 ·exact ⟨_,fr,Vol,rfl,h.below hb,Kb.of_below hb,fun _ e=>e,.inl ⟨rfl,hs⟩⟩
 ·exact ⟨_,fr,Vol,rfl,h.below hb,Kb.of_below hb,fun _ e=>e,.inr (.inl rfl)⟩
 ·have g1:=good_clean m x s1
  have g2:=good_clean m y s2
  rw [sub_id _ g1,sub_id _ g2] at hu
  obtain ⟨hn,_⟩:=hu.next hR g1 g2 (sub_id _ g1) (sub_id _ g2)
  refine ⟨_,r',Vol',rfl,h.go p6 (hn.few h.2.1) p7.kb p3 p5,p7.only hV,p4,?_⟩
  by_cases hc:code=2
  ·subst hc
   exact .inr (.inl rfl)
  ·exact .inr (.inr ⟨s1,s2,code,hu,hc,rfl⟩)
end
/-- How two of them end that are turned round. -/
theorem turn_ends {fe:Nat→Addr} {m:Nat} {x y:TyT} {z1 z2:Value} {r1 r2:Rho} (h1:TurnP fe m x y z1 r1) (h2:TurnP fe m y x z2 r2) :
  z1=errP (fe 0) ∨ z2=errP (fe 0) ∨ (z1=errP (fe 1)∧z2=errP (fe 1)) ∨ (z1=errP (fe 2)∧z2=errP (fe 2)) ∨ (z1=.nilIface∧z2=.nilIface∧Over m r1 r2∧Over m r2 r1∧Res m r1∧Res m r2):=by
 rcases h1 with ⟨e1,s1⟩ | e1 | ⟨s1,s2,c1,u1,n1,e1⟩
 ·rcases h2 with ⟨e2,_⟩ | e2 | ⟨t1,t2,_⟩
  ·exact .inr (.inr (.inl ⟨e1,e2⟩))
  ·exact .inr (.inl e2)
  ·rw [t1,t2] at s1
   rcases s1 with s1 | s1 <;> cases s1
 ·exact .inl e1
 ·rcases h2 with ⟨e2,t⟩ | e2 | ⟨t1,t2,c2,u2,n2,e2⟩
  ·rw [s1,s2] at t
   rcases t with t | t <;> cases t
  ·exact .inr (.inl e2)
  ·obtain ⟨q1,q2⟩:=unif_turn u1 u2 (good_clean m x s1) (good_clean m y s2) n1 n2
   subst q1
   rcases u1.code with hc | hc | hc
   ·subst hc
    obtain ⟨p1,p2,p3,p4⟩:=q2 rfl
    exact .inr (.inr (.inr (.inr ⟨e1,e2,p1,p2,p3,p4⟩)))
   ·subst hc
    exact .inr (.inr (.inr (.inl ⟨e1,e2⟩)))
   ·exact absurd hc n1
section
variable {Vol:Nat→Prop} {b g m cap S S2 c:Nat} {W0 w1 wr w4 Wx w6:World} {r:Rho} {acc:List TyT} {vs:List Value}
/-- A new block beside. -/
theorem WasT.fresh (h:WasT Vol b g m cap W0 w1 wr r S c acc vs) (hb:Below wr.heap.size wr w4) (h1:wr.heap.size≤S2) (h2:S2 < w4.heap.size):WasT (fun k=>Vol k ∨ k=S2) b g m cap W0 w1 w4 r S c acc vs:=by
 have hwr:∀ k,(Vol k ∨ k=S)→k < wr.heap.size:=fun k e=>(h.ls.2.2.1 k e).2
 have hw0:=h.ls.2.2.2.size
 have hnew:∀ k,k < wr.heap.size→((Vol k ∨ k=S2) ∨ k=S)→(Vol k ∨ k=S):=fun k hk e=>by
  rcases e with (e | e) | e
  ·exact .inl e
  ·omega
  ·exact .inr e
 refine ⟨own_belowN h.own hb,h.len,fun i p1 p2=>TyE.step _ _ _ _ _ _ (h.els i p1 p2) (Kb.of_below hb) hnew,h.ls.go (h.ls.1.wide hb hnew (fun k e=>e.elim (fun e=>.inl (.inl e)) .inr)) h.ls.2.1 (Kb.of_below hb) hnew (fun k e=>?_),fun e=>?_,h.lo⟩
 ·have:=hb.size
  rcases e with (e | e) | e
  ·have:=hwr k (.inl e);omega
  ·omega
  ·have:=hwr k (.inr e);omega
 ·rcases e with e | e
  ·exact h.nS e
  ·have:=hwr S (.inr rfl);omega
/-- The other row has grown. -/
theorem WasT.moved {g2:Nat} {cur:Array Value} (h:WasT (fun k=>Vol k ∨ k=S2) b g m cap W0 w1 Wx r S c acc vs) (hb2:Wx.heap[S2]?=some (.cells cur 32 (0,0))) (hg:Wx.grownBy w6 (some S2)) (hat:some S2=some g2 ∨ g2=Wx.heap.size) (h6:g2 < w6.heap.size):WasT (fun k=>Vol k ∨ k=g2) b g m cap W0 w1 w6 r S c acc vs:=by
 have hvg:Vol g:=by
  rcases h.vol.1 with e | e
  ·exact e
  ·exfalso
   obtain ⟨cs,q⟩:=h.ls.grow
   rw [e,hb2] at q
   injection q with q
   injection q with _ ht
   exact absurd ht (by decide)
 have k6:Kb (fun k=>k=S2) Wx w6:=⟨hg.os,hg.tape,hg.output,hg.size,fun k hk hn=>hg.block k hk (fun e=>hn (by injection e))⟩
 have hSS:S ≠ S2:=fun e=>h.nS (.inr e)
 have hSl:=(h.ls.2.2.1 S (.inr rfl)).2
 have hnew:∀ k,k < Wx.heap.size→((Vol k ∨ k=g2) ∨ k=S)→((Vol k ∨ k=S2) ∨ k=S):=fun k hk e=>by
  rcases e with (e | e) | e
  ·exact .inl (.inl e)
  ·rcases hat with e3 | e3
   ·injection e3 with e3;exact .inl (.inr (e.trans e3.symm))
   ·omega
  ·exact .inr e
 have hkV:Kb (fun k=>(Vol k ∨ k=S2) ∨ k=S) Wx w6:=k6.wider (fun k _ e=>.inl (.inr e))
 have hst:=h.ls.1.swap k6 (fun k (e:k=S2)=>⟨.inl (.inr e),cur,(0,0),e ▸ hb2⟩) hnew (.inl (.inl hvg)) (fun k e=>by
  rcases e with (e | e) | e
  ·exact .inl (.inl (.inl e))
  ·exact .inr ⟨cur,(0,0),e ▸ hb2⟩
  ·exact .inl (.inr e))
 refine ⟨own_kb h.own k6 (fun k e (e2:k=S2)=>by
  have e3:S=k:=by injection e
  exact hSS (e3.trans e2)),h.len,fun i p1 p2=>TyE.step _ _ _ _ _ _ (h.els i p1 p2) hkV hnew,h.ls.go hst h.ls.2.1 hkV hnew (fun k e=>?_),fun e=>?_,h.lo⟩
 ·rcases e with (e | e) | e
  ·have:=(h.ls.2.2.1 k (.inl (.inl e))).2;have:=hg.size;omega
  ·omega
  ·have:=(h.ls.2.2.1 k (.inr e)).2;have:=hg.size;omega
 ·rcases e with e | e
  ·exact h.nS (.inl e)
  ·rcases hat with e3 | e3
   ·injection e3 with e3;exact hSS (e.trans e3.symm)
   ·omega
end
end Lx
end Go.Proofs.YtdegmeoapgibiaaDoor
namespace Go.Proofs.YtdegmeoapgibiaaDoor
set_option linter.unusedSimpArgs false
set_option linter.unusedVariables false
namespace Lx
open Go Go.RowKit
/-- 'append(x, s)' at a step of a region that draws its order. -/
theorem step_ty {ops:Array Oper} {o:Oper} {a:Act} {W:World} {K:Act→World→Prop} {Q:Exit→Act→World→Prop} {E:Prop} (hgd:o.guard=none) (s x:Operand)
  (ho:o.op=.call { callee:=.builtin .append,args:=#[s,x],argTypes:=#[27,27] })
  (base:Nat) (v:Value) (n:Nat) (xs:List Value) (hs:a.eval s=v) (hown:W.ownsRow base 32 4 v n xs) (B:Nat) (k z:Int) (y:ByteArray) (A:Option Addr) (l c:Nat) (hx:a.eval x=.slice (some ⟨B,0,none⟩) 1 1) (hB:W.heap[B]?=some (.cells #[.int .i64 k,.string y,.int .i64 z,.slice A l c] 32 (0,0))) (hn:n≤2000000) (hbase:base≤W.heap.size)
  (h:∀ g c' w',w'.ownsRow base 32 4 (.slice (some ⟨g,0,none⟩) (n+1) c') (n+1) (xs++[.int .i64 k,.string y,.int .i64 z,.slice A l c])→W.grownBy w' v.ownBlock→(v.ownBlock=some g ∨ g=W.heap.size)→K (a.put o.dst (.slice (some ⟨g,0,none⟩) (n+1) c')) w') :
  if Region.wanted o (yielded ops a.tmps)=true then Oper.wp Tryd.prog o a W K Q else E:=by
 obtain ⟨i0,hi,hz0,hz1,hz2⟩:=info_parts infoTy
 exact step_append_lies W hgd s x _ ho base _ i0 _ 4 56 Tryd.underlying27 hi hz0 hz1 hz2 rfl (by decide) v n xs hs hown ⟨B,0,none⟩ 1 1 [.int .i64 k,.string y,.int .i64 z,.slice A l c] hx rfl (World.news_of_block (cs:=#[.int .i64 k,.string y,.int .i64 z,.slice A l c]) hB) (by simp [Value.oneCell'])
  (by omega) (by unfold maxLen;omega) (by omega) hbase _ rfl (fun g cap w' h2 h3 h4 _=>h g cap w' h2 h3 h4)
theorem heap_newD {w:World} {b:Nat} {c:Obj} (h:b=w.heap.size):(w.alloc c).drew.heap[b]?=some c:=by
 subst h
 exact heap_alloc_new w c
theorem heap_newA {w:World} {b:Nat} {c:Obj} (h:b=w.heap.size):(w.alloc c).heap[b]?=some c:=by
 subst h
 exact heap_alloc_new w c
theorem heap_pastD {w:World} {b:Nat} {c:Obj} (h:w.heap[b]?=some c) (o:Obj):(w.alloc o).drew.heap[b]?=some c:=(Below.heap_alloc w o b (Array.getElem?_eq_some_iff.1 h).1).trans h
theorem LS.plus {b g m cap S:Nat} {W0 W W':World} {r:Rho} {Vol:Nat→Prop} (h:LS b g m cap W0 W r Vol) (hb:Below W.heap.size W W') (h1:W.heap.size≤S) (h2:S < W'.heap.size):LS b g m cap W0 W' r (fun k=>Vol k ∨ k=S):=by
 have hnew:∀ k,k < W.heap.size→(Vol k ∨ k=S)→Vol k:=fun k hk e=>e.elim id (fun e=>by omega)
 exact h.go (h.1.wide hb hnew (fun _ e=>.inl e)) h.2.1 (Kb.of_below hb) hnew (fun k e=>e.elim (fun e=>Nat.lt_of_lt_of_le (h.2.2.1 k e).2 hb.size) (fun e=>e ▸ h2))
/-- Both rows: each with its table, beside the other one's row. -/
def TwoT (V1 V2:Nat→Prop) (b1 g1 c1 b2 g2 c2 m:Nat) (W0 w1 w2:World) (r1 r2:Rho) (S1 S2 k1 k2:Nat) (l1 l2:List TyT) (W:World):Prop :=
 (∃ vs,WasT (fun k=>V1 k ∨ k=S2) b1 g1 m c1 W0 w1 W r1 S1 k1 l1 vs)∧(∃ vs,WasT (fun k=>V2 k ∨ k=S1) b2 g2 m c2 W0 w2 W r2 S2 k2 l2 vs)
section
variable {V1 V2:Nat→Prop} {b1 g1 c1 b2 g2 c2 m S1 S2 k1 k2:Nat} {W0 w1 w2 W W':World} {r1 r2:Rho} {l1 l2:List TyT}
theorem TwoT.below (h:TwoT V1 V2 b1 g1 c1 b2 g2 c2 m W0 w1 w2 r1 r2 S1 S2 k1 k2 l1 l2 W) (hb:Below W.heap.size W W'):TwoT V1 V2 b1 g1 c1 b2 g2 c2 m W0 w1 w2 r1 r2 S1 S2 k1 k2 l1 l2 W':=by
 obtain ⟨⟨vs,h1⟩,vs2,h2⟩:=h
 exact ⟨⟨vs,h1.below hb⟩,vs2,h2.below hb⟩
theorem TwoT.ls1 (h:TwoT V1 V2 b1 g1 c1 b2 g2 c2 m W0 w1 w2 r1 r2 S1 S2 k1 k2 l1 l2 W):LS b1 g1 m c1 W0 W r1 (fun k=>(V1 k ∨ k=S2) ∨ k=S1):=by
 obtain ⟨⟨vs,h1⟩,vs2,h2⟩:=h
 exact h1.ls
theorem TwoT.ls2 (h:TwoT V1 V2 b1 g1 c1 b2 g2 c2 m W0 w1 w2 r1 r2 S1 S2 k1 k2 l1 l2 W):LS b2 g2 m c2 W0 W r2 (fun k=>(V2 k ∨ k=S1) ∨ k=S2):=by
 obtain ⟨⟨vs,h1⟩,vs2,h2⟩:=h
 exact h2.ls
theorem TwoT.lt (h:TwoT V1 V2 b1 g1 c1 b2 g2 c2 m W0 w1 w2 r1 r2 S1 S2 k1 k2 l1 l2 W):S1 < W.heap.size∧S2 < W.heap.size:=⟨(h.ls1.2.2.1 S1 (.inr rfl)).2,(h.ls2.2.2.1 S2 (.inr rfl)).2⟩
/-- The first table is asked. -/
theorem TwoT.one (h:TwoT V1 V2 b1 g1 c1 b2 g2 c2 m W0 w1 w2 r1 r2 S1 S2 k1 k2 l1 l2 W) (hL:LS b1 g1 m c1 W0 W' r1 (fun k=>(V1 k ∨ k=S2) ∨ k=S1)) (hk:Kb (fun k=>k=g1) W W') (hV:V2 g1) (hne:g1=g2→m=0):TwoT V1 V2 b1 g1 c1 b2 g2 c2 m W0 w1 w2 r1 r2 S1 S2 k1 k2 l1 l2 W':=by
 obtain ⟨⟨vs,h1⟩,vs2,h2⟩:=h
 exact ⟨⟨vs,h1.later hL hk⟩,vs2,h2.aside (h2.ls.other hk (.inl (.inl hV)) h1.ls.grow hL.grow hne) hk (.inl hV)⟩
/-- The second table is asked. -/
theorem TwoT.two (h:TwoT V1 V2 b1 g1 c1 b2 g2 c2 m W0 w1 w2 r1 r2 S1 S2 k1 k2 l1 l2 W) (hL:LS b2 g2 m c2 W0 W' r2 (fun k=>(V2 k ∨ k=S1) ∨ k=S2)) (hk:Kb (fun k=>k=g2) W W') (hV:V1 g2) (hne:g2=g1→m=0):TwoT V1 V2 b1 g1 c1 b2 g2 c2 m W0 w1 w2 r1 r2 S1 S2 k1 k2 l1 l2 W':=by
 obtain ⟨⟨vs,h1⟩,vs2,h2⟩:=h
 exact ⟨⟨vs,h1.aside (h1.ls.other hk (.inl (.inl hV)) h2.ls.grow hL.grow hne) hk (.inl hV)⟩,vs2,h2.later hL hk⟩
/-- The first row grows. -/
theorem TwoT.add1 {x2:TyT} {v2:Value} {S cap2:Nat} {vs:List Value} {w6:World} (h1:WasT (fun k=>V1 k ∨ k=S2) b1 g1 m c1 W0 w1 W r1 S1 k1 l1 vs) (h2:∃ vs,WasT (fun k=>V2 k ∨ k=S1) b2 g2 m c2 W0 w2 W r2 S2 k2 l2 vs) (hv2:TyE (fun k=>(V1 k ∨ k=S2) ∨ k=S1) x2 v2 W)
  (hown:w6.ownsRow w1.heap.size 32 4 (.slice (some ⟨S,0,none⟩) (l1.length+1) cap2) (l1.length+1) (vs.flatMap cellsL++cellsL v2)) (hg:W.grownBy w6 (some S1)) (hat:some S1=some S ∨ S=W.heap.size):TwoT V1 V2 b1 g1 c1 b2 g2 c2 m W0 w1 w2 r1 r2 S S2 cap2 k2 (l1++[x2]) l2 w6:=by
 obtain ⟨vs2,h2⟩:=h2
 obtain ⟨cur,hb,_⟩:=h1.blk
 exact ⟨⟨_,h1.snoc hv2 hown hg hat⟩,vs2,h2.moved hb hg hat (hown.lt S rfl).2⟩
/-- The second row grows. -/
theorem TwoT.add2 {x2:TyT} {v2:Value} {S cap2:Nat} {vs:List Value} {w6:World} (h1:∃ vs,WasT (fun k=>V1 k ∨ k=S2) b1 g1 m c1 W0 w1 W r1 S1 k1 l1 vs) (h2:WasT (fun k=>V2 k ∨ k=S1) b2 g2 m c2 W0 w2 W r2 S2 k2 l2 vs) (hv2:TyE (fun k=>(V2 k ∨ k=S1) ∨ k=S2) x2 v2 W)
  (hown:w6.ownsRow w2.heap.size 32 4 (.slice (some ⟨S,0,none⟩) (l2.length+1) cap2) (l2.length+1) (vs.flatMap cellsL++cellsL v2)) (hg:W.grownBy w6 (some S2)) (hat:some S2=some S ∨ S=W.heap.size):TwoT V1 V2 b1 g1 c1 b2 g2 c2 m W0 w1 w2 r1 r2 S1 S k1 cap2 l1 (l2++[x2]) w6:=by
 obtain ⟨vs1,h1⟩:=h1
 obtain ⟨cur,hb,_⟩:=h2.blk
 exact ⟨⟨vs1,h1.moved hb hg hat (hown.lt S rfl).2⟩,_,h2.snoc hv2 hown hg hat⟩
end
/-- A type that avoids the other row, where that has grown. -/
theorem vb_after {V:Nat→Prop} {S1 S2 S:Nat} {z:TyT} {v:Value} {Y W w6:World} (h:TyE (fun k=>(V k ∨ k=S1) ∨ k=S2) z v Y) (hb:Below Y.heap.size Y W) (hg:W.grownBy w6 (some S1)) (hat:some S1=some S ∨ S=W.heap.size):TyE (fun k=>(V k ∨ k=S) ∨ k=S2) z v w6:=by
 have k6:Kb (fun k=>k=S1) W w6:=⟨hg.os,hg.tape,hg.output,hg.size,fun k hk hn=>hg.block k hk (fun e=>hn (by injection e))⟩
 refine TyE.step _ _ _ _ _ _ (TyE.step.below h hb) (k6.wider (fun k _ e=>.inl (.inr e))) (fun k hk e=>?_)
 rcases e with (e | e) | e
 ·exact .inl (.inl e)
 ·rcases hat with e3 | e3
  ·injection e3 with e3;exact .inl (.inr (e.trans e3.symm))
  ·omega
 ·exact .inr e
theorem sizes_map {m:Nat} {r:Rho} (hf:∀ x,x < m→sizeT (r x)≤200):∀ l:List Nat,(∀ x ∈ l,x < m)→sizeTs (l.map r)≤l.length * 200
 | [],_=>by simp [sizeTs]
 | x :: l,h=>by
  have h1:=hf x (h x (List.mem_cons_self ..))
  have h2:=sizes_map hf l (fun y hy=>h y (List.mem_cons_of_mem _ hy))
  rw [List.map_cons,sizeTs,List.length_cons]
  omega
theorem good_map {m:Nat} {r:Rho} (hR:Res m r):∀ l:List Nat,(∀ x ∈ l,x < m)→goodTs m (l.map r)
 | [],_=>trivial
 | x :: l,h=>⟨hR.good x (h x (List.mem_cons_self ..)),good_map hR l (fun y hy=>h y (List.mem_cons_of_mem _ hy))⟩
/-- Plain of a row that a statement's walk has made. -/
theorem plain_was {Vol:Nat→Prop} {b g m cap S c:Nat} {W0 w1 wr:World} {r:Rho} {vs:List Value} (h:WasT Vol b g m cap W0 w1 wr r S c ((List.range m).map r) vs) (hm:m≤1000) :
  Calls Tryd.prog 28 #[.slice (some ⟨S,0,none⟩) ((List.range m).map r).length c] wr fun e w'=>∃ v',e=.returned v'∧RowW 4 TyE Vol (pls [] ((List.range m).map r)).2 v' w'∧Below wr.heap.size wr w':=by
 obtain ⟨hrow,hls⟩:=h.fin
 obtain ⟨D,hD⟩:=rowE hrow
 refine plain_any (by omega) D Vol _ _ wr hD (good_map hls.1.res _ (fun x hx=>List.mem_range.1 hx)) (fun k e=>(hls.2.2.1 k e).2) ?_
 have:=sizes_map hls.2.1 (List.range m) (fun x hx=>List.mem_range.1 hx)
 rw [List.length_range] at this
 omega
theorem same_rows {Vol Vol2:Nat→Prop} {l:List TyT} {v1 v2:Value} {w:World} (h1:RowW 4 TyE Vol l v1 w) (h2:RowW 4 TyE Vol2 l v2 w):Calls Tryd.prog 27 #[v1,v2] w fun e w'=>e=.returned (.bool true)∧Below w.heap.size w w':=by
 obtain ⟨D1,h1⟩:=rowE h1
 obtain ⟨D2,h2⟩:=rowE h2
 have q1:RowW 4 (TyW (max D1 D2)) Vol l v1 w:=RowW.imp (fun x v h=>TyW.ups (Nat.le_max_left _ _) h) h1
 have q2:RowW 4 (TyW (max D1 D2)) Vol2 l v2 w:=RowW.imp (fun x v h=>TyW.ups (Nat.le_max_right _ _) h) h2
 have h:=sameTypes_of (max D1 D2) (Lib.hid (same_any _)) Vol Vol2 l l v1 v2 w q1 q2
 rw [(eqTs_iff l l).2 rfl] at h
 exact h
end Lx
end Go.Proofs.YtdegmeoapgibiaaDoor
