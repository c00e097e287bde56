/- The reference's table while unknowns are made. Conditions: as each states. -/
/- The reference's table: Fresh. Conditions: as it states. -/
/- The program's table and the reference's beside one another; what Unify and Resolve answer, by the error's number. Conditions: as each states. -/
import Derived.Test.YtdegmeoapgibiaaDoorYxC
import Derived.Deep.RegionLaw
namespace Go.Proofs.YtdegmeoapgibiaaDoor
set_option linter.unusedSimpArgs false
set_option linter.unusedVariables false
namespace Lx
open Go Go.RowKit
/-- The cells of unknowns that are what they were made as. -/
def frC:Nat→List Value
 | 0=>[]
 | n+1=>frC n++[.int .i64 4,.string ⟨#[]⟩,.int .i64 (n:Int),.slice none 0 0]
theorem frC_length:∀ n,(frC n).length=n * 4
 | 0=>rfl
 | n+1=>by rw [frC,List.length_append,frC_length n];simp;omega
theorem frC_at:∀ (n i j:Nat),i < n→j < 4→(frC n)[i * 4+j]?=(cellsL (.agg #[.int .i64 4,.string ⟨#[]⟩,.int .i64 (i:Int),.slice none 0 0]))[j]?
 | 0,i,j,h,_=>by omega
 | n+1,i,j,h,hj=>by
  rw [frC]
  by_cases e:i < n
  ·rw [List.getElem?_append_left (by rw [frC_length];omega)]
   exact frC_at n i j e hj
  ·obtain rfl:i=n:=by omega
   rw [List.getElem?_append_right (by rw [frC_length];omega),frC_length,show i * 4+j - i * 4=j by omega]
   rfl
/-- The reference's table while unknowns are made. -/
structure TabQ (B b n:Nat) (A:Option Addr) (c:Nat) (w:World):Prop where
 lo:B≤b
 blk:w.heap[b]?=some (.cells #[.slice A n c] 29 (0,0))
 own:w.ownsRow B 32 4 (.slice A n c) n (frC n)
theorem TabQ.below {B b n c:Nat} {A:Option Addr} {w w':World} (h:TabQ B b n A c w) (hb:Below w.heap.size w w'):TabQ B b n A c w' :=
 ⟨h.lo,(hb.block b (Array.getElem?_eq_some_iff.1 h.blk).1).trans h.blk,own_belowN h.own hb⟩
theorem TabQ.aside {B b n c:Nat} {A:Option Addr} {w w':World} {S:Nat→Prop} (h:TabQ B b n A c w) (hk:Kb S w w') (hb:¬ S b) (hA:∀ k,(Value.slice A n c).ownBlock=some k→¬ S k):TabQ B b n A c w' :=
 ⟨h.lo,(hk.block b (Array.getElem?_eq_some_iff.1 h.blk).1 hb).trans h.blk,own_kb h.own hk hA⟩
theorem TabQ.tab {B b m c:Nat} {A:Option Addr} {w:World} (h:TabQ B b m A c w) {Vol:Nat→Prop} (hA:∀ k,(Value.slice A m c).ownBlock=some k→¬ Vol k):RTab Vol b m fr w:=by
 refine ⟨_,h.blk,?_⟩
 have hcc:m≤c∧c≤maxLen:=by
  rcases h.own.2 with ⟨e,e2⟩ | ⟨g',cap',cur,e,_,_,h1,h2,_⟩
  ·injection e with _ e2 e3
   omega
  ·injection e with _ _ e3
   omega
 have hl:((List.range m).map fr).length=m:=by simp
 refine ⟨A,c,by rw [hl],by rw [hl];exact hcc.1,hcc.2,fun i hi=>?_⟩
 have hi:i < m:=by rw [hl] at hi;exact hi
 have ho:=h.own
 rcases h.own.2 with ⟨_,e⟩ | ⟨g,cap',cur,e,hg,hb,h1,h2,h5,h6⟩
 ·omega
 ·injection e with e _ _
  subst e
  refine ⟨g,0,.agg #[.int .i64 4,.string ⟨#[]⟩,.int .i64 (i:Int),.slice none 0 0],rfl,(Array.getElem?_eq_some_iff.1 hb).1,hA g rfl,?_,fun j hj=>?_⟩
  ·rw [List.getElem_map,List.getElem_range]
   exact leafE
  ·rw [Nat.zero_add,ho.cellAt _ (by omega),frC_at m i j hi hj]
theorem frC_end (n j:Nat) (hj:j < 4):(frC n++[Value.int .i64 0,Value.string ⟨#[]⟩,Value.int .i64 0,Value.slice none 0 0])[n * 4+j]?=[Value.int .i64 0,Value.string ⟨#[]⟩,Value.int .i64 0,Value.slice none 0 0][j]?:=by
 rw [List.getElem?_append_right (by rw [frC_length];omega),frC_length,show n * 4+j - n * 4=j by omega]
theorem own_fill {w:World} {B g n c:Nat} {xs:List Value} {z0 z1 z2 z3:Value} (a b d e:Value) (h:w.ownsRow B 32 4 (.slice (some ⟨g,0,none⟩) (n+1) c) (n+1) (xs++[z0,z1,z2,z3])) (hx:xs.length=n * 4) :
  ((((w.setCell ⟨g,n * 4,none⟩ a).setCell ⟨g,n * 4+1,none⟩ b).setCell ⟨g,n * 4+2,none⟩ d).setCell ⟨g,n * 4+3,none⟩ e).ownsRow B 32 4 (.slice (some ⟨g,0,none⟩) (n+1) c) (n+1) (xs++[a,b,d,e]):=by
 have h4:=((((((h.stored (n * 4) a).1).stored (n * 4+1) b).1).stored (n * 4+2) d).1.stored (n * 4+3) e).1
 have hq:((((xs++[z0,z1,z2,z3]).set (n * 4) a).set (n * 4+1) b).set (n * 4+2) d).set (n * 4+3) e=xs++[a,b,d,e]:=by
  rw [← hx]
  simp [List.set_append]
 rwa [hq] at h4
/-- Behind Fresh's append. -/
structure FrA (B b n:Nat) (A:Option Addr) (c:Nat) (w:World) (g2 c2:Nat) (W:World):Prop where
 own:W.ownsRow B 32 4 (.slice (some ⟨g2,0,none⟩) (n+1) c2) (n+1) (frC n++[.int .i64 0,.string ⟨#[]⟩,.int .i64 0,.slice none 0 0])
 blk:W.heap[b]?=some (.cells #[.slice A n c] 29 (0,0))
 res:W.heap[w.heap.size]?=some (.cells #[.int .i64 0,.string ⟨#[]⟩,.int .i64 0,.slice none 0 0] 32 (0,0))
 kb:Kb (fun k=>k=b ∨ (Value.slice A n c).ownBlock=some k) w W
 new:(Value.slice A n c).ownBlock=some g2 ∨ w.heap.size < g2
 ns:¬ w.heap.size=g2
 lo:B≤b
 nb:b < w.heap.size
section
variable {B b n c g2 c2:Nat} {A:Option Addr} {w W W':World}
theorem FrA.below (h:FrA B b n A c w g2 c2 W) (hb:Below W.heap.size W W'):FrA B b n A c w g2 c2 W' :=
 ⟨own_belowN h.own hb,(hb.block _ (Array.getElem?_eq_some_iff.1 h.blk).1).trans h.blk,(hb.block _ (Array.getElem?_eq_some_iff.1 h.res).1).trans h.res,h.kb.trans (Kb.of_below hb),h.new,h.ns,h.lo,h.nb⟩
theorem FrA.at (h:FrA B b n A c w g2 c2 W) (j:Nat) (hj:j < 4):W.cell? ⟨g2,n * 4+j,none⟩=[Value.int .i64 0,Value.string ⟨#[]⟩,Value.int .i64 0,Value.slice none 0 0][j]?:=(h.own.cellAt (n * 4+j) (by omega)).trans (frC_end n j hj)
theorem FrA.ne (h:FrA B b n A c w g2 c2 W):¬ b=g2:=fun e=>owner_ne (by decide) h.own h.blk (congrArg some e)
theorem FrA.make {w6:World} (hQ:TabQ B b n A c W) (hz:W.heap[w.heap.size]?=some (.cells #[.int .i64 0,.string ⟨#[]⟩,.int .i64 0,.slice none 0 0] 32 (0,0))) (hb:Below w.heap.size w W) (hs:(Value.slice A n c).ownBlock ≠ some w.heap.size) (ho:w6.ownsRow B 32 4 (.slice (some ⟨g2,0,none⟩) (n+1) c2) (n+1) (frC n++[.int .i64 0,.string ⟨#[]⟩,.int .i64 0,.slice none 0 0])) (hg:W.grownBy w6 (Value.slice A n c).ownBlock) (hat:(Value.slice A n c).ownBlock=some g2 ∨ g2=W.heap.size) (hn:b < w.heap.size):FrA B b n A c w g2 c2 w6 :=
 ⟨ho,(hg.block b (Array.getElem?_eq_some_iff.1 hQ.blk).1 (owner_ne (by decide) hQ.own hQ.blk)).trans hQ.blk,(hg.block _ (Array.getElem?_eq_some_iff.1 hz).1 (fun e=>hs e.symm)).trans hz,(Kb.of_below hb).grown hg (fun k e=>.inr e),hat.imp id (fun e=>by have:=(Array.getElem?_eq_some_iff.1 hz).1;omega),fun e=>hat.elim (fun e2=>hs (e ▸ e2)) (fun e2=>by have:=(Array.getElem?_eq_some_iff.1 hz).1;omega),hQ.lo,hn⟩
/-- What Fresh's statement leaves, in whichever order its two stores come. -/
def FrE (B b n:Nat) (A:Option Addr) (c:Nat) (w:World) (g2 c2:Nat) (W:World):Prop:=TabQ B b (n+1) (some ⟨g2,0,none⟩) c2 W∧W.heap[w.heap.size]?=some (.cells #[.int .i64 0,.string ⟨#[]⟩,.int .i64 0,.slice none 0 0] 32 (0,0))∧Kb (fun k=>k=b ∨ (Value.slice A n c).ownBlock=some k) w W∧¬ w.heap.size=g2
theorem FrA.join (h:FrA B b n A c w g2 c2 W) {X:World} (hk:Kb (fun k=>k=g2 ∨ k=b) W X):Kb (fun k=>k=b ∨ (Value.slice A n c).ownBlock=some k) w X∧X.heap[w.heap.size]?=some (.cells #[.int .i64 0,.string ⟨#[]⟩,.int .i64 0,.slice none 0 0] 32 (0,0)) :=
 ⟨h.kb.join hk (fun j hj e=>by
  rcases e with e | e
  ·rcases h.new with e2 | e2
   ·exact .inr (e ▸ e2)
   ·omega
  ·exact .inl e),(hk.block _ (Array.getElem?_eq_some_iff.1 h.res).1 (fun e=>e.elim h.ns (fun e=>by have:=h.nb;omega))).trans h.res⟩
theorem FrA.end1 (h:FrA B b n A c w g2 c2 W):FrE B b n A c w g2 c2 (((((W.setCell ⟨g2,n * 4,none⟩ (.int .i64 4)).setCell ⟨g2,n * 4+1,none⟩ (.string ⟨#[]⟩)).setCell ⟨g2,n * 4+2,none⟩ (.int .i64 (n:Int))).setCell ⟨g2,n * 4+3,none⟩ (.slice none 0 0)).setCell ⟨b,0,none⟩ (.slice (some ⟨g2,0,none⟩) (n+1) c2)):=by
 have k1:Kb (fun k=>k=g2) W ((((W.setCell ⟨g2,n * 4,none⟩ (.int .i64 4)).setCell ⟨g2,n * 4+1,none⟩ (.string ⟨#[]⟩)).setCell ⟨g2,n * 4+2,none⟩ (.int .i64 (n:Int))).setCell ⟨g2,n * 4+3,none⟩ (.slice none 0 0)):=((((Kb.refl (fun k=>k=g2) W).put (p:=⟨g2,n * 4,none⟩) rfl _).put (p:=⟨g2,n * 4+1,none⟩) rfl _).put (p:=⟨g2,n * 4+2,none⟩) rfl _).put (p:=⟨g2,n * 4+3,none⟩) rfl _
 have o1:=own_fill (.int .i64 4) (.string ⟨#[]⟩) (.int .i64 (n:Int)) (.slice none 0 0) h.own (frC_length n)
 have b1:=(k1.block b (Array.getElem?_eq_some_iff.1 h.blk).1 h.ne).trans h.blk
 generalize ((((W.setCell ⟨g2,n * 4,none⟩ (.int .i64 4)).setCell ⟨g2,n * 4+1,none⟩ (.string ⟨#[]⟩)).setCell ⟨g2,n * 4+2,none⟩ (.int .i64 (n:Int))).setCell ⟨g2,n * 4+3,none⟩ (.slice none 0 0))=X at k1 o1 b1 ⊢
 have k2:Kb (fun k=>k=b) X (X.setCell ⟨b,0,none⟩ (.slice (some ⟨g2,0,none⟩) (n+1) c2)):=(Kb.refl (fun k=>k=b) X).put (p:=⟨b,0,none⟩) rfl _
 obtain ⟨q1,q2⟩:=h.join ((k1.wider (fun k _ e=>.inl e)).trans (k2.wider (fun k _ e=>.inr e)))
 exact ⟨⟨h.lo,blk_put X b 0 _ b1 (by show 0 < 1;decide),own_kb o1 k2 (fun k e e2=>by
  have e3:g2=k:=by injection e
  exact h.ne (e2.symm.trans e3.symm))⟩,q2,q1,h.ns⟩
theorem FrA.end2 (h:FrA B b n A c w g2 c2 W):FrE B b n A c w g2 c2 (((((W.setCell ⟨b,0,none⟩ (.slice (some ⟨g2,0,none⟩) (n+1) c2)).setCell ⟨g2,n * 4,none⟩ (.int .i64 4)).setCell ⟨g2,n * 4+1,none⟩ (.string ⟨#[]⟩)).setCell ⟨g2,n * 4+2,none⟩ (.int .i64 (n:Int))).setCell ⟨g2,n * 4+3,none⟩ (.slice none 0 0)):=by
 have k2:Kb (fun k=>k=b) W (W.setCell ⟨b,0,none⟩ (.slice (some ⟨g2,0,none⟩) (n+1) c2)):=(Kb.refl (fun k=>k=b) W).put (p:=⟨b,0,none⟩) rfl _
 have b1:=blk_put W b 0 (.slice (some ⟨g2,0,none⟩) (n+1) c2) h.blk (by show 0 < 1;decide)
 have o1:=own_kb h.own k2 (fun k e e2=>by
  have e3:g2=k:=by injection e
  exact h.ne (e2.symm.trans e3.symm))
 generalize (W.setCell ⟨b,0,none⟩ (.slice (some ⟨g2,0,none⟩) (n+1) c2))=X at k2 o1 b1 ⊢
 have k1:Kb (fun k=>k=g2) X ((((X.setCell ⟨g2,n * 4,none⟩ (.int .i64 4)).setCell ⟨g2,n * 4+1,none⟩ (.string ⟨#[]⟩)).setCell ⟨g2,n * 4+2,none⟩ (.int .i64 (n:Int))).setCell ⟨g2,n * 4+3,none⟩ (.slice none 0 0)):=((((Kb.refl (fun k=>k=g2) X).put (p:=⟨g2,n * 4,none⟩) rfl _).put (p:=⟨g2,n * 4+1,none⟩) rfl _).put (p:=⟨g2,n * 4+2,none⟩) rfl _).put (p:=⟨g2,n * 4+3,none⟩) rfl _
 have o2:=own_fill (.int .i64 4) (.string ⟨#[]⟩) (.int .i64 (n:Int)) (.slice none 0 0) o1 (frC_length n)
 obtain ⟨q1,q2⟩:=h.join ((k2.wider (fun k _ e=>.inr e)).trans (k1.wider (fun k _ e=>.inl e)))
 exact ⟨⟨h.lo,(k1.block b (Array.getElem?_eq_some_iff.1 b1).1 h.ne).trans b1,o2⟩,q2,q1,h.ns⟩
end
end Lx
end Go.Proofs.YtdegmeoapgibiaaDoor
namespace Go.Proofs.YtdegmeoapgibiaaDoor
set_option linter.unusedSimpArgs false
set_option linter.unusedVariables false
namespace Lx
open Go Go.RowKit
set_option maxRecDepth 100000 in
set_option maxHeartbeats 4000000 in
theorem rFresh_any (B b n:Nat) (A:Option Addr) (c:Nat) (w:World) (h:TabQ B b n A c w) (hn:n≤1000000) (hB:B≤w.heap.size) :
  Calls Tryd.prog 12 #[.pointer (some ⟨b,0,none⟩)] w fun e w'=>e=.returned (.agg #[.int .i64 4,.string ⟨#[]⟩,.int .i64 (n:Int),.slice none 0 0])∧(∃ g' c',TabQ B b (n+1) (some ⟨g',0,none⟩) c' w')∧Below B w w'∧Kb (fun k=>k=b ∨ (Value.slice A n c).ownBlock=some k) w w':=by
 have hb:b < w.heap.size:=(Array.getElem?_eq_some_iff.1 h.blk).1
 have hbz:=below_alloc w (.cells #[.int .i64 0,.string ⟨#[]⟩,.int .i64 0,.slice none 0 0] 32)
 have HQ:=Lib.hid (h.below hbz)
 have HBZ:=Lib.hid hbz
 have HZB:=Lib.hid (heap_alloc_new w (.cells #[.int .i64 0,.string ⟨#[]⟩,.int .i64 0,.slice none 0 0] 32))
 have HH:=Lib.hid h
 clear h hbz
 go_enter Tryd.func12,Tryd.ntmps12
 go_upto_region 1 with fail
 generalize (w.alloc (.cells #[.int .i64 0,.string ⟨#[]⟩,.int .i64 0,.slice none 0 0] 32))=Y at HQ HBZ HZB ⊢
 go_cut [] from 19 (fun wc=>∃ (g2 c2:Nat),Hid (FrE B b n A c w g2 c2 wc))
 case first =>
  have hdr:=below_drw (Below.refl Y.heap.size Y)
  have HQ:=Lib.hid (HQ.out.below hdr)
  have HBY:=Lib.hid (below_drw HBZ.out)
  have HZY:Hid (Y.drew.heap[w.heap.size]?=_):=HZB
  clear hdr HBZ HZB
  have HFR:Hid (∀ (z:Int) (W:World),Calls Tryd.prog 17 #[.int .i64 z] W fun e w'=>e=.returned (.agg #[.int .i64 4,.string ⟨#[]⟩,.int .i64 z,.slice none 0 0])∧Below W.heap.size W w'):=Lib.hid (fun z W=>free_any z W)
  have t0:Y.cell? ⟨b,0,none⟩=some (.slice A n c):=(cellH HQ.out.blk 0).trans rfl
  have ta:(Y.alloc (.cells #[.int .i64 0,.string ⟨#[]⟩,.int .i64 0,.slice none 0 0] 32)).cell? ⟨b,0,none⟩=some (.slice A n c):=(cellH ((Below.heap_alloc Y _ b (Array.getElem?_eq_some_iff.1 HQ.out.blk).1).trans HQ.out.blk) 0).trans rfl
  have HSO:Hid ((Value.slice A n c).ownBlock ≠ some w.heap.size):=Lib.hid (fun e=>by have:=(HH.out.own.lt _ e).2;omega)
  have hk0:(0:Int)≤(n:Int):=by omega
  have hk1:(n:Int) < (n:Int)+1:=by omega
  have hyb:Y.drew.heap.size=Y.heap.size:=rfl
  have HBL:=Lib.hid (show b < Y.drew.heap.size from (Array.getElem?_eq_some_iff.1 HQ.out.blk).1)
  go_region_law (first
   | (go_simp;go_at_call 17;refine (HFR.out _ _).mono ?_;rintro e w3 ⟨rfl,hb3⟩;have hY3:Below Y.drew.heap.size Y.drew w3:=(by first | with_reducible exact hb3 | exact (below_alloc Y.drew _).trans (hb3.mono (below_alloc Y.drew _).size));have HQ3:=Lib.hid (HQ.out.below hY3);have t3:=(cellH HQ3.out.blk 0).trans rfl;have t3a:(w3.alloc (.cells #[.int .i64 0,.string ⟨#[]⟩,.int .i64 0,.slice none 0 0] 32)).cell? ⟨b,0,none⟩=some (.slice A n c):=(cellH ((Below.heap_alloc w3 _ b (Array.getElem?_eq_some_iff.1 HQ3.out.blk).1).trans HQ3.out.blk) 0).trans rfl;have HZ3:=Lib.hid ((hY3.block w.heap.size (Array.getElem?_eq_some_iff.1 HZY.out).1).trans HZY.out);have HB3:=Lib.hid (HBY.out.trans (hY3.mono HBY.out.size));try have HN3:=Lib.hid ((hb3.block Y.drew.heap.size (by simp)).trans (heap_newA rfl)))
   | (refine step_tyL rfl (.tmp 6) (.tmp 14) rfl B (.slice A n c) n (frC n) (by kernel_rfl) (HQ3.out.own.alloc _) w3.heap.size 0 0 ⟨#[]⟩ none 0 0 (by kernel_rfl) (heap_newA rfl) (by omega) (by have:=HB3.out.size;simp;omega) ?_;intro g2 c2 w6 hown6 hg6 hat6;have HFA:=Lib.hid (FrA.make (HQ3.out.below (below_alloc w3 _)) ((Below.heap_alloc w3 _ _ (Array.getElem?_eq_some_iff.1 HZ3.out).1).trans HZ3.out) (HB3.out.trans ((below_alloc w3 _).mono HB3.out.size)) HSO.out hown6 hg6 hat6 hb);have t6:=(cellH HFA.out.blk 0).trans rfl;have q0:=HFA.out.at 0 (by decide);have q1:=HFA.out.at 1 (by decide);have q2:=HFA.out.at 2 (by decide);have q3:=HFA.out.at 3 (by decide);simp only [List.getElem?_cons_zero,List.getElem?_cons_succ,Nat.add_zero] at q0 q1 q2 q3;have p0:=HFA.out.own.frozenAt (n * 4);have p1:=HFA.out.own.frozenAt (n * 4+1);have p2:=HFA.out.own.frozenAt (n * 4+2);have p3:=HFA.out.own.frozenAt (n * 4+3);have p6:=frozenH HFA.out.blk 0;have hbg:=HFA.out.ne;have hgb:¬ g2=b:=fun e=>hbg e.symm)
   | (refine step_tyL rfl (.tmp 6) (.tmp 14) rfl B (.slice A n c) n (frC n) (by kernel_rfl) HQ3.out.own Y.drew.heap.size 0 0 ⟨#[]⟩ none 0 0 (by kernel_rfl) HN3.out (by omega) (by have:=HB3.out.size;omega) ?_;intro g2 c2 w6 hown6 hg6 hat6;have HFA:=Lib.hid (FrA.make HQ3.out HZ3.out HB3.out HSO.out hown6 hg6 hat6 hb);have t6:=(cellH HFA.out.blk 0).trans rfl;have q0:=HFA.out.at 0 (by decide);have q1:=HFA.out.at 1 (by decide);have q2:=HFA.out.at 2 (by decide);have q3:=HFA.out.at 3 (by decide);simp only [List.getElem?_cons_zero,List.getElem?_cons_succ,Nat.add_zero] at q0 q1 q2 q3;have p0:=HFA.out.own.frozenAt (n * 4);have p1:=HFA.out.own.frozenAt (n * 4+1);have p2:=HFA.out.own.frozenAt (n * 4+2);have p3:=HFA.out.own.frozenAt (n * 4+3);have p6:=frozenH HFA.out.blk 0;have hbg:=HFA.out.ne;have hgb:¬ g2=b:=fun e=>hbg e.symm))
  all_goals
   have HE1:=Lib.hid HFA.out.end1
   have HE2:=Lib.hid HFA.out.end2
   clear t6 q0 q1 q2 q3 p0 p1 p2 p3 p6 hbg hgb t0 ta
   go_wp2_with fail
   go_meet
   first | with_reducible exact ⟨g2,c2,HE1⟩ | with_reducible exact ⟨g2,c2,HE2⟩
 case rest =>
  obtain ⟨g2,c2,HE⟩:=hcut
  clear HQ HBZ HZB
  have t0:=(cellH HE.out.1.blk 0).trans rfl
  have HFR:Hid (∀ (z:Int) (W:World),Calls Tryd.prog 17 #[.int .i64 z] W fun e w'=>e=.returned (.agg #[.int .i64 4,.string ⟨#[]⟩,.int .i64 z,.slice none 0 0])∧Below W.heap.size W w'):=Lib.hid (fun z W=>free_any z W)
  go_wp2_with (go_at_call 17;refine (HFR.out _ _).mono ?_;rintro e w3 ⟨rfl,hb3⟩;have HR3:=Lib.hid ((hb3.block _ (Array.getElem?_eq_some_iff.1 HE.out.2.1).1).trans HE.out.2.1);have HQ3:=Lib.hid (HE.out.1.below hb3);have HK3:=Lib.hid (HE.out.2.2.1.trans (Kb.of_below hb3));clear hb3;have r0:=(cellH HR3.out 0).trans rfl;have r1:=(cellH HR3.out 1).trans rfl;have r2:=(cellH HR3.out 2).trans rfl;have r3:=(cellH HR3.out 3).trans rfl;have fr0:=frozenH HR3.out 0;have fr1:=frozenH HR3.out 1;have fr2:=frozenH HR3.out 2;have fr3:=frozenH HR3.out 3)
  clear r0 r1 r2 r3 fr0 fr1 fr2 fr3 t0
  have hk:=kput4 w3 w.heap.size (.int .i64 4) (.string ⟨#[]⟩) (.int .i64 (n:Int)) (.slice none 0 0)
  have hq:=put4 (.int .i64 4) (.string ⟨#[]⟩) (.int .i64 (n:Int)) (.slice none 0 0) HR3.out
  have hT:=HQ3.out.aside hk (fun e=>by omega) (fun k e e2=>HE.out.2.2.2 (by
   have e3:g2=k:=by injection e
   exact e2.symm.trans e3.symm))
  have hkk:=HK3.out.join hk (fun j hj e=>by omega)
  generalize ((((w3.setCell ⟨w.heap.size,0,none⟩ (.int .i64 4)).setCell ⟨w.heap.size,1,none⟩ (.string ⟨#[]⟩)).setCell ⟨w.heap.size,2,none⟩ (.int .i64 (n:Int))).setCell ⟨w.heap.size,3,none⟩ (.slice none 0 0))=X at hk hq hT hkk ⊢
  have c0:=(cellH hq 0).trans rfl
  have c1:=(cellH hq 1).trans rfl
  have c2:=(cellH hq 2).trans rfl
  have c3:=(cellH hq 3).trans rfl
  exact bodyPost_ret (v:=.agg #[.int .i64 4,.string ⟨#[]⟩,.int .i64 (n:Int),.slice none 0 0]) (by simp [results,Tryd.results12,go_sem,c0,c1,c2,c3]) rfl ⟨rfl,⟨_,_,hT⟩,hkk.below hB (fun k e=>e.elim (fun e=>e ▸ HH.out.lo) (fun e=>(HH.out.own.lt k e).1)),hkk⟩
end Lx
end Go.Proofs.YtdegmeoapgibiaaDoor
namespace Go.Proofs.YtdegmeoapgibiaaDoor
set_option linter.unusedSimpArgs false
set_option linter.unusedVariables false
namespace Lx
open Go Go.RowKit
/-- An error by its number. -/
def errN (f:Nat→Addr) (n:Int):Value:=if n=0 then .nilIface else if n=16 then errP (f 15) else if n=4 then errP (f 3) else errP (f 5)
/-- The numbers that both tables answer. -/
def OkN (n:Int):Prop:=n=0 ∨ n=4 ∨ n=6 ∨ n=16
theorem errN_numC (f:Nat→Addr) {c:Nat} (h:c=0 ∨ c=1 ∨ c=2):errC (three f) c=errN f (numC c)∧OkN (numC c):=by
 rcases h with rfl | rfl | rfl
 ·exact ⟨rfl,.inl rfl⟩
 ·exact ⟨rfl,.inr (.inr (.inl rfl))⟩
 ·exact ⟨rfl,.inr (.inl rfl)⟩
theorem num_okN (f:Nat→Addr) {n:Int} (hn:OkN n) (w:World) (hS:Sents w f):Calls Tryd.prog 13 #[errN f n] w fun e w'=>e=.returned (.int .i64 n)∧Below w.heap.size w w':=by
 rcases hn with rfl | rfl | rfl | rfl
 ·refine (num_nil w).mono ?_
  rintro e w' ⟨rfl,rfl⟩
  exact ⟨rfl,Below.refl _ _⟩
 ·exact num_at f 3 (by decide) w hS
 ·exact num_at f 5 (by decide) w hS
 ·exact num_at f 15 (by decide) w hS
/-- Both tables: the unknowns are the same in both. -/
structure Two (b g m cap b2:Nat) (W0 W:World) (r:Rho) (Vol:Nat→Prop):Prop where
 ls:LS b g m cap W0 W r Vol
 tab:RTab Vol b2 m r W
 vol:Vol b2
section
variable {f:Nat→Addr} {b g m cap b2:Nat} {W0 W W':World} {r r':Rho} {Vol Vol':Nat→Prop} {x y:TyT}
theorem RTab.here {Vol:Nat→Prop} {b m:Nat} {r:Rho} {w:World} (h:RTab Vol b m r w):∃ cs,w.heap[b]?=some (.cells cs 29 (0,0)):=by
 obtain ⟨val,h1,_⟩:=h.row
 exact ⟨_,h1⟩
theorem Two.below (h:Two b g m cap b2 W0 W r Vol) (hb:Below W.heap.size W W'):Two b g m cap b2 W0 W' r Vol:=⟨h.ls.below hb,h.tab.below hb,h.vol⟩
theorem Two.lt (h:Two b g m cap b2 W0 W r Vol):∀ k,Vol k→k < W.heap.size:=fun k e=>(h.ls.2.2.1 k e).2
/-- The program's table stays while the reference's changes. -/
theorem LS.apart (h:LS b g m cap W0 W r Vol) (hk:Kb (fun k=>k=b2) W W') (hV:Vol b2) (hw:∃ cs,W.heap[b2]?=some (.cells cs 29 (0,0))):LS b g m cap W0 W' r Vol:=by
 have hkv:Kb Vol W W':=hk.wider (fun k _ (e:k=b2)=>by subst e;exact hV)
 refine h.go ?_ h.2.1 hkv (fun _ _ e=>e) (fun k e=>Nat.lt_of_lt_of_le (h.2.2.1 k e).2 hk.size)
 obtain ⟨hbl,hgl,hnb,hvg⟩:=h.1.lows
 obtain ⟨cs0,hw⟩:=hw
 have hbg:¬ b=b2:=fun e=>hnb (e ▸ hV)
 obtain ⟨csg,hgr⟩:=h.grow
 have hge:¬ g=b2:=fun e=>by
  rw [e,hw] at hgr
  injection hgr with hgr
  injection hgr with _ ht
  exact absurd ht (by decide)
 obtain ⟨rk,B,us,rkU,⟨Bd,h1,h1b,h1c⟩,h2,⟨vus,h3⟩,h4⟩:=h.1
 have eg:=hk.block g hgl hge
 obtain ⟨cs',q1,q2⟩:=h3.row
 exact ⟨rk,B,us,rkU,⟨Bd,h1,h1b,h1c.kb hk (fun k (e:k=b2)=>e ▸ hV) hge⟩,fun i hi=>(World.cell?_of_block eg).trans (h2 i hi),⟨vus,(hk.block b hbl hbg).trans h3.blk,⟨cs',eg.trans q1,q2⟩,fun i hi=>(World.cell?_of_block eg).trans (h3.usr i hi),fun i hi=>own_kb (h3.own i hi) hk (fun k e1 (e2:k=b2)=>owner_ne (by decide) (h3.own i hi) hw (e1.trans (congrArg some e2)).symm),h3.vol,h3.apart,hvg,hnb⟩,h4⟩
/-- The reference's table stays while the program's changes. -/
theorem RTab.apart (h:RTab Vol b2 m r W) (hk:KV Vol g W W') (hg:¬ b2=g) (hv:∀ k,k < W.heap.size→Vol' k→Vol k):RTab Vol' b2 m r W':=by
 obtain ⟨cs,hw⟩:=h.here
 have hs:Kb (fun k=>Vol k∧k ≠ b2) W W':=⟨hk.kb.os,hk.kb.tape,hk.kb.output,hk.kb.size,fun k hk1 hn=>by
  by_cases e:k=b2
  ·subst e
   exact hk.old k hk1 hg ⟨_,_,_,hw,by decide⟩
  ·exact hk.kb.block k hk1 (fun e2=>hn ⟨e2,e⟩)⟩
 exact h.step hs (fun k _ e=>e.1) (fun e=>e.2 rfl) hv
theorem Two.apart (h:Two b g m cap b2 W0 W r Vol):¬ b2=g:=by
 obtain ⟨cs,hw⟩:=h.tab.here
 obtain ⟨csg,hgr⟩:=h.ls.grow
 intro e
 rw [← e,hw] at hgr
 injection hgr with hgr
 injection hgr with _ ht
 exact absurd ht (by decide)
theorem ResN.ok {n:Int} {z:TyT} (h:ResN m r x n z):OkN n:=by
 rcases h with ⟨rfl,_⟩ | ⟨rfl,_⟩ | ⟨rfl,_⟩
 ·exact .inl rfl
 ·exact .inr (.inl rfl)
 ·exact .inr (.inr (.inr rfl))
theorem two_resolve (hE:ErrU (three f) W0) (h:Two b g m cap b2 W0 W r Vol) {d:Nat} {v:Value} (hx:TyW d Vol x v W) (hfx:fewT x) (hsx:smallT x) :
  Calls Tryd.prog 16 #[.pointer (some ⟨b,0,none⟩),v] W fun e w'=>∃ v' n z,e=.returned (.tuple #[v',errN f n])∧ResN m r x n z∧TyE Vol z v' w'∧Two b g m cap b2 W0 w' r Vol∧Kb (fun k=>k=g) W w':=by
 have hvg:=h.ls.1.lows.2.2.2
 refine (ls_resolve hE h.ls hx hfx hsx).mono ?_
 rintro e w' ⟨v',er,rfl,hL,hk,hz⟩
 have hT:Two b g m cap b2 W0 w' r Vol:=⟨hL,h.tab.apart (KV.of_g hk hvg) h.apart (fun _ _ e=>e),h.vol⟩
 rcases hz with ⟨rfl,q1,q2,q3⟩ | ⟨rfl,rfl,q1,q2⟩ | ⟨rfl,rfl,q1⟩
 ·exact ⟨v',0,_,rfl,.inl ⟨rfl,q1,q2,rfl⟩,q3,hT,hk⟩
 ·exact ⟨_,4,_,rfl,.inr (.inl ⟨rfl,q1,q2,rfl⟩),leafE,hT,hk⟩
 ·exact ⟨_,16,_,rfl,.inr (.inr ⟨rfl,q1,rfl⟩),leafE,hT,hk⟩
theorem UniN.ok {n:Int} (h:UniN m r x y n r'):OkN n:=by
 rcases h with ⟨rfl,_⟩ | ⟨rfl,_⟩ | ⟨_,_,_,_,code,hu,rfl⟩
 ·exact .inr (.inr (.inr rfl))
 ·exact .inr (.inl rfl)
 ·exact (errN_numC (fun _=>⟨0,0,none⟩) hu.code).2
/-- The program has unified, the reference has not yet. -/
structure Half (b g m cap b2:Nat) (W0 W:World) (r r':Rho) (Vol:Nat→Prop):Prop where
 ls:LS b g m cap W0 W r' Vol
 tab:RTab Vol b2 m r W
 vol:Vol b2
theorem Half.below (h:Half b g m cap b2 W0 W r r' Vol) (hb:Below W.heap.size W W'):Half b g m cap b2 W0 W' r r' Vol:=⟨h.ls.below hb,h.tab.below hb,h.vol⟩
theorem Half.lt (h:Half b g m cap b2 W0 W r r' Vol):∀ k,Vol k→k < W.heap.size:=fun k e=>(h.ls.2.2.1 k e).2
theorem Half.two (h:Half b g m cap b2 W0 W r r' Vol) (hT:RTab Vol b2 m r' W') (hk:Kb (fun k=>k=b2) W W'):Two b g m cap b2 W0 W' r' Vol:=⟨h.ls.apart hk h.vol h.tab.here,hT,h.vol⟩
theorem two_unify (hE:ErrU (three f) W0) (hms:m≤1000000000) (h:Two b g m cap b2 W0 W r Vol) {d:Nat} {v1 v2:Value} (hx:TyW d Vol x v1 W) (hy:TyW d Vol y v2 W) (hfx:fewT x) (hfy:fewT y) (hsx:smallT x) (hsy:smallT y) :
  Calls Tryd.prog 14 #[.pointer (some ⟨b,0,none⟩),v1,v2] W fun e w'=>∃ n r' Vol',e=.returned (errN f n)∧UniN m r x y n r'∧Half b g m cap b2 W0 w' r r' Vol'∧Kb Vol W w'∧(∀ k,k < W.heap.size→Vol' k→Vol k):=by
 have hR:=h.ls.1.res
 refine (Unify_any (three f) b g m cap d hms Vol r x y v1 v2 W hx hy hfx hfy hsx hsy h.ls.1 h.ls.2.1 (h.ls.err hE) h.lt).mono ?_
 rintro e w' (⟨rfl,hs,hb⟩ | ⟨rfl,s1,s2,hz,hb⟩ | ⟨s1,s2,z1,z2,code,r',Vol',hu,rfl,p3,p4,p5,p6,p7⟩)
 ·exact ⟨16,r,Vol,rfl,.inl ⟨rfl,hs,rfl⟩,⟨h.ls.below hb,h.tab.below hb,h.vol⟩,Kb.of_below hb,fun _ _ e=>e⟩
 ·exact ⟨4,r,Vol,rfl,.inr (.inl ⟨rfl,s1,s2,hz,rfl⟩),⟨h.ls.below hb,h.tab.below hb,h.vol⟩,Kb.of_below hb,fun _ _ e=>e⟩
 ·have g1:=good_clean m x s1
  have g2:=good_clean m y s2
  obtain ⟨hn,_⟩:=hu.next hR (good_sub hR.good _ g1) (good_sub hR.good _ g2) ((Ext.refl hR).sub g1) ((Ext.refl hR).sub g2)
  have hc:=errN_numC f hu.code
  exact ⟨numC code,r',Vol',by rw [hc.1],.inr (.inr ⟨s1,s2,z1,z2,code,hu,rfl⟩),⟨h.ls.go p6 (hn.few h.ls.2.1) p7.kb p3 p5,h.tab.apart p7 h.apart p3,p4 _ h.vol⟩,p7.kb,p3⟩
end
theorem own_blk {w:World} {base sz n k:Nat} {e:TypeId} {v:Value} {xs:List Value} (h:w.ownsRow base e sz v n xs) (hk:v.ownBlock=some k):∃ cur,w.heap[k]?=some (.cells cur e (0,0)):=by
 rcases h.2 with ⟨rfl,_⟩ | ⟨g,cap,cur,rfl,_,hg,_⟩
 ·cases hk
 ·injection hk with hk
  exact ⟨cur,hk ▸ hg⟩
theorem blk_ne {w:World} {k k':Nat} {cs cs':Array Value} {t t':TypeId} {fz fz':Nat × Nat} (h:w.heap[k]?=some (.cells cs t fz)) (h':w.heap[k']?=some (.cells cs' t' fz')) (ht:t ≠ t'):¬ k=k':=by
 intro e
 subst e
 rw [h] at h'
 injection h' with h'
 injection h' with _ h'
 exact ht h'
section
variable {B1 B2 b1 b2 n c c2:Nat} {A A2:Option Addr} {w w':World}
/-- The reference's table stays while the program makes an unknown. -/
theorem TabQ.beside (h:TabQ B2 b2 n A2 c2 w) (g:TabF B1 b1 n A c w) (hk:Kb (fun k=>k=b1 ∨ (Value.slice A n c).ownBlock=some k) w w'):TabQ B2 b2 n A2 c2 w':=by
 refine h.aside hk (fun e=>?_) (fun k e e2=>?_)
 ·rcases e with e | e
  ·exact blk_ne h.blk g.blk (by decide) e
  ·obtain ⟨cur,q⟩:=own_blk g.own e
   exact blk_ne h.blk q (by decide) rfl
 ·obtain ⟨cur,q⟩:=own_blk h.own e
  rcases e2 with e2 | e2
  ·exact blk_ne q g.blk (by decide) e2
  ·obtain ⟨cur2,q2⟩:=own_blk g.own e2
   exact blk_ne q q2 (by decide) rfl
/-- The program's table stays while the reference makes an unknown. -/
theorem TabF.beside {n1:Nat} (g:TabF B1 b1 n1 A c w) (h:TabQ B2 b2 n A2 c2 w) (hk:Kb (fun k=>k=b2 ∨ (Value.slice A2 n c2).ownBlock=some k) w w'):TabF B1 b1 n1 A c w':=by
 refine g.aside hk (fun e=>?_) (fun k e e2=>?_)
 ·rcases e with e | e
  ·exact blk_ne g.blk h.blk (by decide) e
  ·obtain ⟨cur,q⟩:=own_blk h.own e
   exact blk_ne g.blk q (by decide) rfl
 ·obtain ⟨cur,q⟩:=own_blk g.own e
  rcases e2 with e2 | e2
  ·exact blk_ne q h.blk (by decide) e2
  ·obtain ⟨cur2,q2⟩:=own_blk h.own e2
   exact blk_ne q q2 (by decide) rfl
/-- Both tables at the start of the unifications. -/
theorem two_start {W0:World} {m g0:Nat} {cs0:Array Value} (hT:TabF B1 b1 m A c w) (h0:m=0→A=none) (hQ:TabQ B2 b2 m A2 c2 w) (hg:w.heap[g0]?=some (.cells cs0 70 (0,0))) (hg0:W0.heap.size≤g0) (hB:W0.heap.size≤B1) (hb2:W0.heap.size≤b2) (hw:Below W0.heap.size W0 w):∃ g Vol,Two b1 g m c b2 W0 w fr Vol:=by
 obtain ⟨g,q1,q2,⟨cs,q3⟩,q4⟩:=st_startV (B0:=W0.heap.size) hT h0 hg hg0 hB
 have hbb:¬ b1=b2:=blk_ne hT.blk hQ.blk (by decide)
 have hbg:¬ b1=g:=blk_ne hT.blk q3 (by decide)
 refine ⟨g,fun k=>k=g ∨ k=b2,⟨q4 _ (.inl rfl) (fun e=>e.elim hbg hbb),fun x _=>by rw [size_fr];decide,fun k e=>?_,hw⟩,hQ.tab (fun k e e2=>?_),.inr rfl⟩
 ·rcases e with rfl | rfl
  ·exact ⟨q1,(Array.getElem?_eq_some_iff.1 q3).1⟩
  ·exact ⟨hb2,(Array.getElem?_eq_some_iff.1 hQ.blk).1⟩
 ·obtain ⟨cur,q⟩:=own_blk hQ.own e
  rcases e2 with e2 | e2
  ·exact blk_ne q q3 (by decide) e2
  ·exact blk_ne q hQ.blk (by decide) e2
end
end Lx
end Go.Proofs.YtdegmeoapgibiaaDoor
