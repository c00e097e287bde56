/- Two tables beside one another: Fresh in detail; one table's state while the other one changes; two rows that grow. Conditions: as each states. -/
import Derived.Test.YtiamniljgdjakaaDoorWxF
import Derived.Test.YtiamniljgdjakaaDoorMd
namespace Go.Proofs.YtiamniljgdjakaaDoor
set_option linter.unusedSimpArgs false
set_option linter.unusedVariables false
namespace Lx
open Go Go.RowKit
set_option maxRecDepth 100000 in
set_option maxHeartbeats 2000000 in
theorem fresh_fine (B b n:Nat) (A:Option Addr) (c:Nat) (w:World) (h:TabF B b n A c w) (hn:n≤1000000) (hB:B≤w.heap.size) :
  Calls Tryd.prog 11 #[.pointer (some ⟨b,0,none⟩)] w fun e w'=>e=.returned (.agg #[.int .i64 4,.string ⟨#[]⟩,.int .i64 n,.slice none 0 0])∧(∃ g' c',TabF B b (n+1) (some ⟨g',0,none⟩) c' w'∧((Value.slice A n c).ownBlock=some g' ∨ w.heap.size≤g'))∧Below B w w'∧Kb (fun k=>k=b ∨ (Value.slice A n c).ownBlock=some k) w w':=by
 obtain ⟨i0,hi0,hz0,hz1,hz2⟩:=info_parts infoBind
 have HI0:=Lib.hid hi0
 have HI1:=Lib.hid hz0
 have HI2:=Lib.hid hz1
 have HI3:=Lib.hid hz2
 clear hi0 hz0 hz1 hz2
 have hb:b < w.heap.size:=(Array.getElem?_eq_some_iff.1 h.blk).1
 have a0:=(cellH ((Below.heap_alloc w (.cells #[.int .i64 0,.string ⟨#[]⟩,.int .i64 0,.slice none 0 0] 32) b hb).trans h.blk) 0).trans rfl
 have HB1:=Lib.hid (below_alloc w (.cells #[.int .i64 0,.string ⟨#[]⟩,.int .i64 0,.slice none 0 0] 32))
 have HO:=Lib.hid (own_belowN h.own HB1.out)
 have HBLK:=Lib.hid ((HB1.out.block b hb).trans h.blk)
 have HZB:=Lib.hid (heap_alloc_new w (.cells #[.int .i64 0,.string ⟨#[]⟩,.int .i64 0,.slice none 0 0] 32))
 have hne:¬ b=w.heap.size:=by omega
 have HH:=Lib.hid h
 have hs1:(w.alloc (.cells #[.int .i64 0,.string ⟨#[]⟩,.int .i64 0,.slice none 0 0] 32)).heap.size=w.heap.size+1:=by simp
 clear h
 go_enter Tryd.func11,Tryd.ntmps11
 go_wp2_with (at_builtin;refine wpList_append_lies _ rfl _ _ 65 rfl B 70 i0 (.agg #[.int .i64 0,.string ⟨#[]⟩,.int .i64 0,.slice none 0 0,.int .i64 0,.slice none 0 0]) 6 88 Tryd.underlying65 HI0.out HI1.out HI2.out HI3.out rfl (by decide) _ _ _ rfl (HO.out.alloc _) ⟨w.heap.size+1,0,none⟩ 1 1 [.int .i64 0,.string ⟨#[]⟩,.int .i64 0,.slice none 0 0,.int .i64 1,.slice none 0 0] rfl rfl (cells_new _ #[.int .i64 0,.string ⟨#[]⟩,.int .i64 0,.slice none 0 0,.int .i64 1,.slice none 0 0] _ _ (by rw [hs1])) (by simp [Value.oneCell']) (by decide) (by unfold maxLen;omega) (by omega) (by simp;omega) _ rfl ?_;intro g2 cap2 w6 hown6 hg6 hat6 _;have HO6:=Lib.hid hown6;have HG6:=Lib.hid hg6;have HA6:=Lib.hid hat6;have HT6:=Lib.hid ((hg6.block b (by simp;omega) (owner_ne (by decide) (HO.out.alloc (.cells #[.int .i64 0,.string ⟨#[]⟩,.int .i64 0,.slice none 0 0,.int .i64 1,.slice none 0 0] 70)) ((Below.heap_alloc _ _ b (by simp;omega)).trans HBLK.out))).trans ((Below.heap_alloc _ _ b (by simp;omega)).trans HBLK.out));have HZ6:=Lib.hid ((hg6.block w.heap.size (by simp;omega) (owner_ne (by decide) (HO.out.alloc (.cells #[.int .i64 0,.string ⟨#[]⟩,.int .i64 0,.slice none 0 0,.int .i64 1,.slice none 0 0] 70)) ((Below.heap_alloc _ _ w.heap.size (by simp)).trans HZB.out))).trans ((Below.heap_alloc _ _ w.heap.size (by simp)).trans HZB.out));have t0:=(cellH HT6.out 0).trans rfl;have f0:=frozenH HT6.out 0;have z0:=(cellH HZ6.out 0).trans rfl;have z1:=(cellH HZ6.out 1).trans rfl;have z2:=(cellH HZ6.out 2).trans rfl;have z3:=(cellH HZ6.out 3).trans rfl;have y0:=frozenH HZ6.out 0;have y1:=frozenH HZ6.out 1;have y2:=frozenH HZ6.out 2;have y3:=frozenH HZ6.out 3;clear hown6 hg6 hat6)
 clear t0 f0 z0 z1 z2 z3 y0 y1 y2 y3 a0
 have k1:Kb (fun k=>B≤k) w w6:=(((Kb.refl _ w).alloc _).alloc _).grown HG6.out (fun k e=>(HO.out.lt k e).1)
 have k2:=k1.put (p:=⟨b,0,none⟩) HH.out.lo (.slice (some ⟨g2,0,none⟩) (n+1) cap2)
 have ks:Kb (fun k=>k=b ∨ k=w.heap.size) w6 (((((w6.setCell ⟨b,0,none⟩ (.slice (some ⟨g2,0,none⟩) (n+1) cap2)).setCell ⟨w.heap.size,0,none⟩ (.int .i64 4)).setCell ⟨w.heap.size,1,none⟩ (.string ⟨#[]⟩)).setCell ⟨w.heap.size,2,none⟩ (.int .i64 n)).setCell ⟨w.heap.size,3,none⟩ (.slice none 0 0)):=((Kb.refl (fun k=>k=b ∨ k=w.heap.size) w6).put (p:=⟨b,0,none⟩) (.inl rfl) _).trans ((kput4 _ w.heap.size _ _ _ _).wider (fun k _ e=>.inr e))
 have kB:Kb (fun k=>B≤k) w (((((w6.setCell ⟨b,0,none⟩ (.slice (some ⟨g2,0,none⟩) (n+1) cap2)).setCell ⟨w.heap.size,0,none⟩ (.int .i64 4)).setCell ⟨w.heap.size,1,none⟩ (.string ⟨#[]⟩)).setCell ⟨w.heap.size,2,none⟩ (.int .i64 n)).setCell ⟨w.heap.size,3,none⟩ (.slice none 0 0)):=k2.trans ((kput4 _ w.heap.size _ _ _ _).wider (fun k _ (e:k=w.heap.size)=>by subst e;exact hB))
 have kF:Kb (fun k=>k=b ∨ (Value.slice A n c).ownBlock=some k) w (((((w6.setCell ⟨b,0,none⟩ (.slice (some ⟨g2,0,none⟩) (n+1) cap2)).setCell ⟨w.heap.size,0,none⟩ (.int .i64 4)).setCell ⟨w.heap.size,1,none⟩ (.string ⟨#[]⟩)).setCell ⟨w.heap.size,2,none⟩ (.int .i64 n)).setCell ⟨w.heap.size,3,none⟩ (.slice none 0 0)):=by
  have q1:Kb (fun k=>k=b ∨ (Value.slice A n c).ownBlock=some k) w w6:=(((Kb.refl _ w).alloc _).alloc _).grown HG6.out (fun k e=>.inr e)
  exact q1.join ks (fun j hj e=>e.elim .inl (fun e=>by omega))
 have hq:=put4 (.int .i64 4) (.string ⟨#[]⟩) (.int .i64 n) (.slice none 0 0) ((Below.heap_setCell w6 ⟨b,0,none⟩ (.slice (some ⟨g2,0,none⟩) (n+1) cap2) w.heap.size (fun e=>hne e.symm)).trans HZ6.out)
 have ht:(((((w6.setCell ⟨b,0,none⟩ (.slice (some ⟨g2,0,none⟩) (n+1) cap2)).setCell ⟨w.heap.size,0,none⟩ (.int .i64 4)).setCell ⟨w.heap.size,1,none⟩ (.string ⟨#[]⟩)).setCell ⟨w.heap.size,2,none⟩ (.int .i64 n)).setCell ⟨w.heap.size,3,none⟩ (.slice none 0 0)).heap[b]?=some (.cells #[.slice (some ⟨g2,0,none⟩) (n+1) cap2] 67 (0,0)) :=
  ((kput4 (w6.setCell ⟨b,0,none⟩ (.slice (some ⟨g2,0,none⟩) (n+1) cap2)) w.heap.size (.int .i64 4) (.string ⟨#[]⟩) (.int .i64 n) (.slice none 0 0)).block b (by have:=k2.size;omega) hne).trans (blk_put _ _ 0 _ HT6.out (by show 0 < 1;decide))
 have ho:=own_kb HO6.out ks (fun k e=>by
  rintro (rfl | rfl)
  ·exact owner_ne (by decide) HO6.out HT6.out e.symm
  ·exact owner_ne (by decide) HO6.out HZ6.out e.symm)
 generalize (((((w6.setCell ⟨b,0,none⟩ (.slice (some ⟨g2,0,none⟩) (n+1) cap2)).setCell ⟨w.heap.size,0,none⟩ (.int .i64 4)).setCell ⟨w.heap.size,1,none⟩ (.string ⟨#[]⟩)).setCell ⟨w.heap.size,2,none⟩ (.int .i64 n)).setCell ⟨w.heap.size,3,none⟩ (.slice none 0 0))=X at kB kF hq ht ho ⊢
 have c0:=(cellH hq 0).trans rfl
 have c1:=(cellH hq 1).trans rfl
 have c2:=(cellH hq 2).trans rfl
 have c3:=(cellH hq 3).trans rfl
 exact bodyPost_ret (v:=.agg #[.int .i64 4,.string ⟨#[]⟩,.int .i64 n,.slice none 0 0]) (by simp [results,Tryd.results11,go_sem,c0,c1,c2,c3]) rfl ⟨rfl,⟨_,_,⟨HH.out.lo,ht,by rw [freeCells];exact ho⟩,HA6.out.imp id (fun e=>by rw [e];simp;omega)⟩,kB.below hB (fun k e=>e),kF⟩
theorem TabF.aside {B b n c:Nat} {A:Option Addr} {w w':World} {S:Nat→Prop} (h:TabF B b n A c w) (hk:Kb S w w') (hb:¬ S b) (hA:∀ k,(Value.slice A n c).ownBlock=some k→¬ S k):TabF B b n A c w' :=
 ⟨h.lo,(hk.block b (Array.getElem?_eq_some_iff.1 h.blk).1 hb).trans h.blk,own_kb h.own hk hA⟩
/-- One table changes; the other one does not. -/
theorem LS.other {b g g' m cap:Nat} {W0 W W':World} {r:Rho} {Vol:Nat→Prop} (h:LS b g m cap W0 W r Vol) (hk:Kb (fun k=>k=g') W W') (hV:Vol g') (hw:∃ cs,W.heap[g']?=some (.cells cs 70 (0,0))) (hw':∃ cs,W'.heap[g']?=some (.cells cs 70 (0,0))) (hne:g'=g→m=0):LS b g m cap W0 W' r Vol:=by
 have hkv:Kb Vol W W':=hk.wider (fun k _ (e:k=g')=>by subst e;exact hV)
 refine h.go ?_ h.2.1 hkv (fun _ _ e=>e) (fun k e=>Nat.lt_of_lt_of_le (h.2.2.1 k e).2 hk.size)
 obtain ⟨hbl,hgl,hnb,hvg⟩:=h.1.lows
 obtain ⟨cs0,hw⟩:=hw
 have hbg:¬ b=g':=fun e=>hnb (e ▸ hV)
 by_cases e:g'=g
 ·subst e
  obtain rfl:=hne rfl
  obtain ⟨rk,B,us,rkU,⟨Bd,h1,h1b,h1c⟩,h2,⟨vus,h3⟩,h4⟩:=h.1
  obtain ⟨cs1,hw'⟩:=hw'
  exact ⟨rk,B,us,rkU,⟨Bd,h1,h1b,⟨(hk.block b hbl hbg).trans h1c.blk,⟨cs1,hw',by omega⟩,fun i hi=>by omega,hvg,hnb⟩⟩,fun i hi=>by omega,⟨vus,(hk.block b hbl hbg).trans h3.blk,⟨cs1,hw',by omega⟩,fun i hi=>by omega,fun i hi=>by omega,fun i hi=>by omega,fun i j hi=>by omega,hvg,hnb⟩,h4⟩
 ·obtain ⟨rk,B,us,rkU,⟨Bd,h1,h1b,h1c⟩,h2,⟨vus,h3⟩,h4⟩:=h.1
  have hge:¬ g=g':=fun x=>e x.symm
  have eg:=hk.block g hgl hge
  obtain ⟨cs',q1,q2⟩:=h3.row
  exact ⟨rk,B,us,rkU,⟨Bd,h1,h1b,h1c.kb hk (fun k (e:k=g')=>e ▸ hV) hge⟩,fun i hi=>(World.cell?_of_block eg).trans (h2 i hi),⟨vus,(hk.block b hbl hbg).trans h3.blk,⟨cs',eg.trans q1,q2⟩,fun i hi=>(World.cell?_of_block eg).trans (h3.usr i hi),fun i hi=>own_kb (h3.own i hi) hk (fun k e1 (e2:k=g')=>owner_ne (by decide) (h3.own i hi) hw (e1.trans (congrArg some e2)).symm),h3.vol,h3.apart,hvg,hnb⟩,h4⟩
theorem LS.grow {b g m cap:Nat} {W0 W:World} {r:Rho} {Vol:Nat→Prop} (h:LS b g m cap W0 W r Vol):∃ cs,W.heap[g]?=some (.cells cs 70 (0,0)):=by
 obtain ⟨rk,B,us,rkU,_,_,⟨vus,h3⟩,_⟩:=h.1
 obtain ⟨cs',q1,_⟩:=h3.row
 exact ⟨cs',q1⟩
/-- Where only tables' rows may be written, only one's is. -/
theorem KV.only {V:Nat→Prop} {g:Nat} {W W':World} (h:KV V g W W') (hV:∀ k,V k→∃ cs fz,W.heap[k]?=some (.cells cs 70 fz)):Kb (fun k=>k=g) W W' :=
 ⟨h.kb.os,h.kb.tape,h.kb.output,h.kb.size,fun k hk hn=>by
  by_cases e:V k
  ·exact h.old k hk hn (hV k e)
  ·exact h.kb.block k hk e⟩
/-- The row so far; the table's state beside it. -/
structure WasT (Vol:Nat→Prop) (b g m cap:Nat) (W0 w1 wr:World) (r:Rho) (S c:Nat) (acc:List TyT) (vs:List Value):Prop where
 own:wr.ownsRow w1.heap.size 32 4 (.slice (some ⟨S,0,none⟩) acc.length c) acc.length (vs.flatMap cellsL)
 len:vs.length=acc.length
 els:∀ (i:Nat) (h:i < acc.length) (h':i < vs.length),TyE (fun k=>Vol k ∨ k=S) acc[i] vs[i] wr
 ls:LS b g m cap W0 wr r (fun k=>Vol k ∨ k=S)
 nS:¬ Vol S
 lo:W0.heap.size≤w1.heap.size
section
variable {Vol:Nat→Prop} {b g m cap S c:Nat} {W0 w1 wr w4 Wx w6:World} {r:Rho} {acc:List TyT} {vs:List Value}
theorem WasT.start (h:LS b g m cap W0 w1 r Vol):WasT Vol b g m cap W0 w1 (w1.alloc (.cells #[] 32)) r w1.heap.size 0 [] []:=by
 have hb:=below_alloc w1 (.cells #[] 32)
 have hvg:=h.1.lows.2.2.2
 refine ⟨⟨rfl,.inr ⟨w1.heap.size,0,#[],rfl,Nat.le_refl _,heap_alloc_new _ _,Nat.le_refl _,Nat.zero_le _,rfl,rfl⟩⟩,rfl,fun i h=>by simp at h,h.go (h.1.wide hb (fun k hk e=>e.elim id (fun e=>by omega)) (fun _ e=>.inl e)) h.2.1 (Kb.of_below hb) (fun k hk e=>e.elim id (fun e=>by omega)) (fun k e=>e.elim (fun e=>Nat.lt_of_lt_of_le (h.2.2.1 k e).2 hb.size) (fun e=>by subst e;simp)),fun e=>by have:=(h.2.2.1 _ e).2;omega,h.2.2.2.size⟩
theorem WasT.blk (h:WasT Vol b g m cap W0 w1 wr r S c acc vs):∃ cur,wr.heap[S]?=some (.cells cur 32 (0,0))∧w1.heap.size≤S:=by
 rcases h.own.2 with ⟨e,_⟩ | ⟨k,cap',cur,e,hg,hb,_⟩
 ·cases e
 ·injection e with e _ _
  injection e with e
  injection e with e
  subst e
  exact ⟨cur,hb,hg⟩
theorem WasT.vol (h:WasT Vol b g m cap W0 w1 wr r S c acc vs):Vol g∧g ≠ S:=by
 obtain ⟨cur,hb,hs⟩:=h.blk
 have hne:g ≠ S:=by
  intro e
  obtain ⟨rk,B,us,rkU,_,_,⟨vus,h3⟩,_⟩:=h.ls.1
  obtain ⟨cs,q,_⟩:=h3.row
  rw [e,hb] at q
  injection q with q
  injection q with _ ht
  exact absurd ht (by decide)
 exact ⟨(h.ls.1.lows.2.2.2).elim id (fun e=>absurd e hne),hne⟩
/-- Heads' halving, new blocks. -/
theorem WasT.later (h:WasT Vol b g m cap W0 w1 wr r S c acc vs) (hL:LS b g m cap W0 w4 r (fun k=>Vol k ∨ k=S)) (hk:Kb (fun k=>k=g) wr w4):WasT Vol b g m cap W0 w1 w4 r S c acc vs:=by
 obtain ⟨hvg,hne⟩:=h.vol
 have hkv:Kb Vol wr w4:=hk.wider (fun k _ (e:k=g)=>by subst e;exact hvg)
 exact ⟨own_kb h.own hk (fun k e (e2:k=g)=>by
  have e3:S=k:=by injection e
  exact hne (e2.symm.trans e3.symm)),h.len,fun i h1 h2=>TyE.step _ _ _ _ _ _ (h.els i h1 h2) (hkv.wider (fun k _ e=>.inl e)) (fun _ _ e=>e),hL,h.nS,h.lo⟩
theorem WasT.below (h:WasT Vol b g m cap W0 w1 wr r S c acc vs) (hb:Below wr.heap.size wr w4):WasT Vol b g m cap W0 w1 w4 r S c acc vs:=h.later (h.ls.below hb) (Kb.of_below hb)
theorem WasT.snoc (h:WasT Vol b g m cap W0 w1 Wx r S c acc vs) {x2:TyT} {v2:Value} {g2 cap2:Nat} (hv2:TyE (fun k=>Vol k ∨ k=S) x2 v2 Wx)
  (hown:w6.ownsRow w1.heap.size 32 4 (.slice (some ⟨g2,0,none⟩) (acc.length+1) cap2) (acc.length+1) (vs.flatMap cellsL++cellsL v2)) (hg:Wx.grownBy w6 (some S)) (hat:some S=some g2 ∨ g2=Wx.heap.size) :
  WasT Vol b g m cap W0 w1 w6 r g2 cap2 (acc++[x2]) (vs++[v2]):=by
 obtain ⟨cur,hb,hs⟩:=h.blk
 obtain ⟨hvg,hne⟩:=h.vol
 have hlen:(acc++[x2]).length=acc.length+1:=by simp
 have k6:Kb (fun k=>k=S) Wx w6:=⟨hg.os,hg.tape,hg.output,hg.size,fun k hk hn=>hg.block k hk (fun e=>hn (by injection e))⟩
 have hsl:S < Wx.heap.size:=(Array.getElem?_eq_some_iff.1 hb).1
 have hnew:∀ k,k < Wx.heap.size→(Vol k ∨ k=g2)→(Vol k ∨ k=S):=fun k hk e=>by
  rcases e with e | e
  ·exact .inl e
  ·rcases hat with e3 | e3
   ·injection e3 with e3;exact .inr (e.trans e3.symm)
   ·omega
 have hlt2:=(hown.lt g2 rfl)
 have hkV:Kb (fun k=>Vol k ∨ k=S) Wx w6:=k6.wider (fun k _ e=>.inr e)
 have hst:=h.ls.1.swap k6 (fun k (e:k=S)=>⟨.inr e,cur,(0,0),e ▸ hb⟩) hnew (.inl hvg) (fun k e=>e.elim (fun e=>.inl (.inl e)) (fun e=>.inr ⟨cur,(0,0),e ▸ hb⟩))
 refine ⟨by rw [hlen,flat_snoc];exact hown,by simp [h.len],fun i h1 h2=>?_,?_,?_,h.lo⟩
 ·by_cases hi:i < acc.length
  ·rw [List.getElem_append_left hi,List.getElem_append_left (by rw [h.len];exact hi)]
   exact TyE.step _ _ _ _ _ _ (h.els i hi (by rw [h.len];exact hi)) hkV hnew
  ·have e:i=acc.length:=by rw [hlen] at h1;omega
   subst e
   have e1:(acc++[x2])[acc.length]'h1=x2:=by simp
   have e2:(vs++[v2])[acc.length]'h2=v2:=by
    rw [List.getElem_append_right (by rw [h.len];exact Nat.le_refl _)]
    simp [h.len]
   rw [e1,e2]
   exact TyE.step _ _ _ _ _ _ hv2 hkV hnew
 ·exact h.ls.go hst h.ls.2.1 hkV hnew (fun k e=>e.elim (fun e=>by have:=(h.ls.2.2.1 k (.inl e)).2;have:=hg.size;omega) (fun e=>by subst e;exact hlt2.2))
 ·intro e
  rcases hat with e3 | e3
  ·injection e3 with e3;exact h.nS (e3 ▸ e)
  ·have:=(h.ls.2.2.1 g2 (.inl e)).2;omega
theorem WasT.fin (h:WasT Vol b g m cap W0 w1 wr r S c acc vs):RowW 4 TyE Vol acc (.slice (some ⟨S,0,none⟩) acc.length c) wr∧LS b g m cap W0 wr r Vol:=by
 obtain ⟨cur,hb,hs⟩:=h.blk
 obtain ⟨hvg,hne⟩:=h.vol
 have hst:=h.ls.1.narrow (Vol:=Vol) (fun k e=>.inl e) hvg (fun k e=>e.elim .inl (fun e=>.inr ⟨cur,(0,0),e ▸ hb⟩))
 refine ⟨?_,hst,h.ls.2.1,fun k e=>h.ls.2.2.1 k (.inl e),h.ls.2.2.2⟩
 have hcc:acc.length≤c∧c≤maxLen:=by
  rcases h.own.2 with ⟨e,_⟩ | ⟨g',cap',cur,e,_,_,h1,h2,_⟩
  ·cases e
  ·injection e with _ _ e3
   omega
 refine ⟨_,c,rfl,hcc.1,hcc.2,fun i hi=>?_⟩
 have hi2:i < vs.length:=by rw [h.len];exact hi
 have hel:=h.els i hi hi2
 refine ⟨S,0,vs[i],rfl,(Array.getElem?_eq_some_iff.1 hb).1,h.nS,TyE.step _ _ _ _ _ _ hel (Kb.refl _ _) (fun k _ e=>.inl e),fun j hj=>?_⟩
 rw [Nat.zero_add,h.own.cellAt _ (by omega)]
 refine flat_at 4 vs (fun v hvm=>?_) i j hi2 hj
 obtain ⟨n,hn,rfl⟩:=List.getElem_of_mem hvm
 exact tyECells _ _ _ _ (h.els n (by rw [← h.len];exact hn) hn)
/-- Another table's row or table changes. -/
theorem WasT.aside {S2:Nat} (h:WasT Vol b g m cap W0 w1 wr r S c acc vs) (hL:LS b g m cap W0 w4 r (fun k=>Vol k ∨ k=S)) (hk:Kb (fun k=>k=S2) wr w4) (h2:Vol S2):WasT Vol b g m cap W0 w1 w4 r S c acc vs :=
 ⟨own_kb h.own hk (fun k e (e2:k=S2)=>by
  have e3:S=k:=by injection e
  exact h.nS (e3.trans e2 ▸ h2)),h.len,fun i h1 h2'=>TyE.step _ _ _ _ _ _ (h.els i h1 h2') (hk.wider (fun k _ (e:k=S2)=>.inl (e ▸ h2))) (fun _ _ e=>e),hL,h.nS,h.lo⟩
end
end Lx
end Go.Proofs.YtiamniljgdjakaaDoor
