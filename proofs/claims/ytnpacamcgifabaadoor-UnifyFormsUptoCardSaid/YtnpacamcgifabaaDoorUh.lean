/- Package unify: a table in the making: New, Fresh, Len; refuse. Conditions: as each states. -/
import Derived.Test.YtnpacamcgifabaaDoorUg
namespace Go.Proofs.YtnpacamcgifabaaDoor
set_option linter.unusedSimpArgs false
set_option linter.unusedVariables false
namespace Lx
open Go Go.RowKit
theorem own_kb {S:Nat→Prop} {x y:World} {base sz n:Nat} {e:TypeId} {v:Value} {xs:List Value} (h:x.ownsRow base e sz v n xs) (hk:Kb S x y) (hn:∀ k,v.ownBlock=some k→¬ S k):y.ownsRow base e sz v n xs:=by
 refine ⟨h.1,?_⟩
 rcases h.2 with h1 | ⟨g,c,cur,e1,e2,e3,e4⟩
 ·exact .inl h1
 ·refine .inr ⟨g,c,cur,e1,e2,?_,e4⟩
  have hlt:g < x.heap.size:=(Array.getElem?_eq_some_iff.1 e3).1
  rw [hk.block g hlt (hn g (by rw [e1];rfl))]
  exact e3
def freeCells:Nat→List Value
 | 0=>[]
 | n+1=>freeCells n++[.int .i64 0,.string ⟨#[]⟩,.int .i64 0,.slice none 0 0,.int .i64 1,.slice none 0 0]
structure TabF (B:Nat) (b n:Nat) (A:Option Addr) (c:Nat) (w:World):Prop where
 lo:B≤b
 blk:w.heap[b]?=some (.cells #[.slice A n c] 86 (0,0))
 own:w.ownsRow B 89 6 (.slice A n c) n (freeCells n)
theorem infoBind:(Tryd.prog.info? 89).map (fun i=>(i.zero,i.size,i.bytes))=some (some (.agg #[.int .i64 0,.string ⟨#[]⟩,.int .i64 0,.slice none 0 0,.int .i64 0,.slice none 0 0]),6,88):=by kernel_rfl
theorem new_any (w:World):Calls Tryd.prog 13 #[] w fun e w'=>e=.returned (.pointer (some ⟨w.heap.size,0,none⟩))∧TabF w.heap.size w.heap.size 0 none 0 w'∧Below w.heap.size w w':=by
 go_enter Tryd.func13,Tryd.ntmps13
 go_wp2_with fail
 go_ret
 exact ⟨rfl,⟨Nat.le_refl _,heap_alloc_new _ _,World.ownsRow_nil _ _ _ _⟩,below_alloc _ _⟩
set_option maxRecDepth 100000 in
set_option maxHeartbeats 2000000 in
theorem fresh_any (B b n:Nat) (A:Option Addr) (c:Nat) (w:World) (h:TabF B b n A c w) (hn:n≤1000000) (hB:B≤w.heap.size) :
  Calls Tryd.prog 15 #[.pointer (some ⟨b,0,none⟩)] w fun e w'=>e=.returned (.agg #[.int .i64 4,.string ⟨#[]⟩,.int .i64 n,.slice none 0 0])∧(∃ A' c',TabF B b (n+1) A' c' w')∧Below B w w':=by
 obtain ⟨i0,hi0,hz0,hz1,hz2⟩:=info_parts infoBind
 have HI0:=Lib.hid hi0
 have HI1:=Lib.hid hz0
 have HI2:=Lib.hid hz1
 have HI3:=Lib.hid hz2
 clear hi0 hz0 hz1 hz2
 have hb:b < w.heap.size:=(Array.getElem?_eq_some_iff.1 h.blk).1
 have a0:=(cellH ((Below.heap_alloc w (.cells #[.int .i64 0,.string ⟨#[]⟩,.int .i64 0,.slice none 0 0] 32) b hb).trans h.blk) 0).trans rfl
 have HB1:=Lib.hid (below_alloc w (.cells #[.int .i64 0,.string ⟨#[]⟩,.int .i64 0,.slice none 0 0] 32))
 have HO:=Lib.hid (own_belowN h.own HB1.out)
 have HBLK:=Lib.hid ((HB1.out.block b hb).trans h.blk)
 have HZB:=Lib.hid (heap_alloc_new w (.cells #[.int .i64 0,.string ⟨#[]⟩,.int .i64 0,.slice none 0 0] 32))
 have hne:¬ b=w.heap.size:=by omega
 have HH:=Lib.hid h
 have hs1:(w.alloc (.cells #[.int .i64 0,.string ⟨#[]⟩,.int .i64 0,.slice none 0 0] 32)).heap.size=w.heap.size+1:=by simp
 clear h
 go_enter Tryd.func15,Tryd.ntmps15
 go_wp2_with (at_builtin;refine wpList_append_lies _ rfl _ _ 84 rfl B 89 i0 (.agg #[.int .i64 0,.string ⟨#[]⟩,.int .i64 0,.slice none 0 0,.int .i64 0,.slice none 0 0]) 6 88 Tryd.underlying84 HI0.out HI1.out HI2.out HI3.out rfl (by decide) _ _ _ rfl (HO.out.alloc _) ⟨w.heap.size+1,0,none⟩ 1 1 [.int .i64 0,.string ⟨#[]⟩,.int .i64 0,.slice none 0 0,.int .i64 1,.slice none 0 0] rfl rfl (cells_new _ #[.int .i64 0,.string ⟨#[]⟩,.int .i64 0,.slice none 0 0,.int .i64 1,.slice none 0 0] _ _ (by rw [hs1])) (by simp [Value.oneCell']) (by decide) (by unfold maxLen;omega) (by omega) (by simp;omega) _ rfl ?_;intro g2 cap2 w6 hown6 hg6 hat6 _;have HO6:=Lib.hid hown6;have HG6:=Lib.hid hg6;have HA6:=Lib.hid hat6;have HT6:=Lib.hid ((hg6.block b (by simp;omega) (owner_ne (by decide) (HO.out.alloc (.cells #[.int .i64 0,.string ⟨#[]⟩,.int .i64 0,.slice none 0 0,.int .i64 1,.slice none 0 0] 89)) ((Below.heap_alloc _ _ b (by simp;omega)).trans HBLK.out))).trans ((Below.heap_alloc _ _ b (by simp;omega)).trans HBLK.out));have HZ6:=Lib.hid ((hg6.block w.heap.size (by simp;omega) (owner_ne (by decide) (HO.out.alloc (.cells #[.int .i64 0,.string ⟨#[]⟩,.int .i64 0,.slice none 0 0,.int .i64 1,.slice none 0 0] 89)) ((Below.heap_alloc _ _ w.heap.size (by simp)).trans HZB.out))).trans ((Below.heap_alloc _ _ w.heap.size (by simp)).trans HZB.out));have t0:=(cellH HT6.out 0).trans rfl;have f0:=frozenH HT6.out 0;have z0:=(cellH HZ6.out 0).trans rfl;have z1:=(cellH HZ6.out 1).trans rfl;have z2:=(cellH HZ6.out 2).trans rfl;have z3:=(cellH HZ6.out 3).trans rfl;have y0:=frozenH HZ6.out 0;have y1:=frozenH HZ6.out 1;have y2:=frozenH HZ6.out 2;have y3:=frozenH HZ6.out 3;clear hown6 hg6 hat6)
 clear t0 f0 z0 z1 z2 z3 y0 y1 y2 y3 a0
 have k1:Kb (fun k=>B≤k) w w6:=(((Kb.refl _ w).alloc _).alloc _).grown HG6.out (fun k e=>(HO.out.lt k e).1)
 have k2:=k1.put (p:=⟨b,0,none⟩) HH.out.lo (.slice (some ⟨g2,0,none⟩) (n+1) cap2)
 have ks:Kb (fun k=>k=b ∨ k=w.heap.size) w6 (((((w6.setCell ⟨b,0,none⟩ (.slice (some ⟨g2,0,none⟩) (n+1) cap2)).setCell ⟨w.heap.size,0,none⟩ (.int .i64 4)).setCell ⟨w.heap.size,1,none⟩ (.string ⟨#[]⟩)).setCell ⟨w.heap.size,2,none⟩ (.int .i64 n)).setCell ⟨w.heap.size,3,none⟩ (.slice none 0 0)):=((Kb.refl (fun k=>k=b ∨ k=w.heap.size) w6).put (p:=⟨b,0,none⟩) (.inl rfl) _).trans ((kput4 _ w.heap.size _ _ _ _).wider (fun k _ e=>.inr e))
 have kB:Kb (fun k=>B≤k) w (((((w6.setCell ⟨b,0,none⟩ (.slice (some ⟨g2,0,none⟩) (n+1) cap2)).setCell ⟨w.heap.size,0,none⟩ (.int .i64 4)).setCell ⟨w.heap.size,1,none⟩ (.string ⟨#[]⟩)).setCell ⟨w.heap.size,2,none⟩ (.int .i64 n)).setCell ⟨w.heap.size,3,none⟩ (.slice none 0 0)):=k2.trans ((kput4 _ w.heap.size _ _ _ _).wider (fun k _ (e:k=w.heap.size)=>by subst e;exact hB))
 have hq:=put4 (.int .i64 4) (.string ⟨#[]⟩) (.int .i64 n) (.slice none 0 0) ((Below.heap_setCell w6 ⟨b,0,none⟩ (.slice (some ⟨g2,0,none⟩) (n+1) cap2) w.heap.size (fun e=>hne e.symm)).trans HZ6.out)
 have ht:(((((w6.setCell ⟨b,0,none⟩ (.slice (some ⟨g2,0,none⟩) (n+1) cap2)).setCell ⟨w.heap.size,0,none⟩ (.int .i64 4)).setCell ⟨w.heap.size,1,none⟩ (.string ⟨#[]⟩)).setCell ⟨w.heap.size,2,none⟩ (.int .i64 n)).setCell ⟨w.heap.size,3,none⟩ (.slice none 0 0)).heap[b]?=some (.cells #[.slice (some ⟨g2,0,none⟩) (n+1) cap2] 86 (0,0)) :=
  ((kput4 (w6.setCell ⟨b,0,none⟩ (.slice (some ⟨g2,0,none⟩) (n+1) cap2)) w.heap.size (.int .i64 4) (.string ⟨#[]⟩) (.int .i64 n) (.slice none 0 0)).block b (by have:=k2.size;omega) hne).trans (blk_put _ _ 0 _ HT6.out (by show 0 < 1;decide))
 have ho:=own_kb HO6.out ks (fun k e=>by
  rintro (rfl | rfl)
  ·exact owner_ne (by decide) HO6.out HT6.out e.symm
  ·exact owner_ne (by decide) HO6.out HZ6.out e.symm)
 generalize (((((w6.setCell ⟨b,0,none⟩ (.slice (some ⟨g2,0,none⟩) (n+1) cap2)).setCell ⟨w.heap.size,0,none⟩ (.int .i64 4)).setCell ⟨w.heap.size,1,none⟩ (.string ⟨#[]⟩)).setCell ⟨w.heap.size,2,none⟩ (.int .i64 n)).setCell ⟨w.heap.size,3,none⟩ (.slice none 0 0))=X at kB hq ht ho ⊢
 have c0:=(cellH hq 0).trans rfl
 have c1:=(cellH hq 1).trans rfl
 have c2:=(cellH hq 2).trans rfl
 have c3:=(cellH hq 3).trans rfl
 exact bodyPost_ret (v:=.agg #[.int .i64 4,.string ⟨#[]⟩,.int .i64 n,.slice none 0 0]) (by simp [results,Tryd.results15,go_sem,c0,c1,c2,c3]) rfl ⟨rfl,⟨_,_,⟨HH.out.lo,ht,by rw [freeCells];exact ho⟩⟩,kB.below hB (fun k e=>e)⟩
end Lx
end Go.Proofs.YtnpacamcgifabaaDoor
