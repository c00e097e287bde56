/- The reference's get, given what it is one level down: refusals, numbers. Conditions: as each states. -/
import Derived.Test.YtnpacamcgifabaaDoorDz
import Derived.Test.YtnpacamcgifabaaDoorDr
import Derived.Test.YtnpacamcgifabaaDoorDv
namespace Go.Proofs.YtnpacamcgifabaaDoor
set_option linter.unusedSimpArgs false
set_option linter.unusedVariables false
namespace Lx
open Go Go.RowKit
/-- What get leaves: nothing, or data and the place behind. -/
def GetR (o:Option (DaT × List UInt8)) (n:Nat) (w:World):Ending→World→Prop:=fun e w'=>Below w.heap.size w w' ∧
 ((o=none∧e=.returned (.tuple #[zeroD,.int .i64 (-1)])) ∨
  (∃ x r v,o=some (x,r)∧r.length≤n∧e=.returned (.tuple #[v,.int .i64 ((n - r.length:Nat):Int)])∧DaE (fun j=>j < w.heap.size) x v w'))
def GetC (k:Nat):Prop:=∀ (B:Nat) (l:List UInt8) (v:Value) (w:World) (at' dp:Nat),RowW 1 ByH (fun j=>B≤j) l v w→B≤w.heap.size→l.length≤1000000000000→at'≤l.length→dp+k=201→Calls Tryd.prog 73 #[v,.int .i64 at',.int .i64 dp] w (GetR (getP k (l.drop at')) l.length w)
theorem drop_behind {l a r:List UInt8} {i:Nat} (h:l.drop i=a++r):l.drop (l.length - r.length)=r:=by
 have h1:l.take i++(a++r)=l:=by rw [← h,List.take_append_drop]
 have h2:=congrArg List.length h1
 rw [List.length_append,List.length_append] at h2
 have h3:l.length - r.length=(l.take i++a).length:=by rw [List.length_append];omega
 rw [h3]
 have h4:(l.take i++a++r).drop (l.take i++a).length=r:=List.drop_left
 rw [List.append_assoc,h1] at h4
 exact h4
theorem decI {a b:Int} (h:a < b):decide (a < b)=true:=by simpa using h
theorem decN {a b:Int} (h:¬ a < b):decide (a < b)=false:=by simpa using h
theorem decL {a b:Int} (h:a≤b):decide (a≤b)=true:=by simpa using h
theorem decM {a b:Int} (h:¬ a≤b):decide (a≤b)=false:=by simpa using h
theorem low_step (l:List UInt8) (i j:Nat) (h0:i+8 < l.length) (h1:1≤j) (h8:j≤8):lowN ((l.drop (i+j)).take (8 - (j - 1)))=lowN ((l.drop (i+1+j)).take (8 - j)) * 256+(l[i+j]'(by omega)).toNat∧lowN ((l.drop (i+1+j)).take (8 - j)) * 256+(l[i+j]'(by omega)).toNat < 18446744073709551616:=by
 have hd:l.drop (i+j)=l[i+j]'(by omega) :: l.drop (i+1+j):=by rw [List.drop_eq_getElem_cons (by omega),show i+j+1=i+1+j by omega]
 have hb:=byte_lt (l[i+j]'(by omega))
 have hlen:((l.drop (i+1+j)).take (8 - j)).length=8 - j:=by rw [List.length_take,List.length_drop];omega
 have hn:=lowN_lt ((l.drop (i+1+j)).take (8 - j))
 rw [hlen] at hn
 have hp:(256:Nat) ^ (8 - j)≤256 ^ 7:=Nat.pow_le_pow_right (by decide) (by omega)
 refine ⟨?_,by omega⟩
 rw [hd,show 8 - (j - 1)=(8 - j)+1 by omega,List.take_succ_cons,lowN]
 omega
set_option maxRecDepth 100000 in
set_option maxHeartbeats 4000000 in
theorem get_low (B:Nat) (l:List UInt8) (v:Value) (w:World) (i dp:Nat) (h:RowW 1 ByH (fun j=>B≤j) l v w) (hB:B≤w.heap.size) (hl:l.length≤1000000000000) (hi:i≤l.length) (hdp:dp=201 ∨ (dp≤200∧i=l.length)) :
  Calls Tryd.prog 73 #[v,.int .i64 i,.int .i64 dp] w (GetR none l.length w):=by
 obtain ⟨A,c,rfl⟩:=h.slice
 have HNEW:=Lib.hid (heap_alloc_new w (.cells #[.bool false,.int .i64 0,.string ⟨#[]⟩,.slice none 0 0] 68))
 have HBL:=Lib.hid (below_alloc w (.cells #[.bool false,.int .i64 0,.string ⟨#[]⟩,.slice none 0 0] 68))
 have HDP:=Lib.hid hdp
 have hd:decide ((200:Int) < (dp:Int))=true ∨ (decide ((200:Int) < (dp:Int))=false∧decide (l.length≤i)=true):=by
  rcases hdp with h | ⟨h,h2⟩
  ·left;simp;omega
  ·right;exact ⟨decN (by omega),by simpa using (by omega:l.length≤i)⟩
 clear h hdp
 have d0:=(cellH HNEW.out 0).trans rfl
 have d1:=(cellH HNEW.out 1).trans rfl
 have d2:=(cellH HNEW.out 2).trans rfl
 have d3:=(cellH HNEW.out 3).trans rfl
 rcases hd with hd | ⟨hd,hd2⟩
 all_goals
  go_enter Tryd.func73,Tryd.ntmps73
  go_wp2_with fail
  exact bodyPost_ret (v:=.tuple #[zeroD,.int .i64 (-1)]) (by simp [results,Tryd.results73,go_sem,d0,d1,d2,d3,zeroD]) rfl (by unfold GetR;exact ⟨HBL.out,.inl ⟨rfl,rfl⟩⟩)
set_option maxRecDepth 100000 in
set_option maxHeartbeats 4000000 in
/-- A number. -/
theorem get_num (B:Nat) (l:List UInt8) (v:Value) (w:World) (i dp:Nat) (h:RowW 1 ByH (fun j=>B≤j) l v w) (hB:B≤w.heap.size) (hl:l.length≤1000000000000) (hi:i+8 < l.length) (hdp:dp≤200) (h0:l[i]'(by omega)=0) :
  Calls Tryd.prog 73 #[v,.int .i64 i,.int .i64 dp] w (GetR (some (.mk false (wrap64 ((lowN ((l.drop (i+1)).take 8):Nat):Int)) ⟨#[]⟩ [],l.drop (i+9))) l.length w):=by
 obtain ⟨A,c,rfl⟩:=h.slice
 have hnew:=(heap_alloc_new w (.cells #[.bool false,.int .i64 0,.string ⟨#[]⟩,.slice none 0 0] 68))
 have hbl:=(below_alloc w (.cells #[.bool false,.int .i64 0,.string ⟨#[]⟩,.slice none 0 0] 68))
 have HNEW:=Lib.hid hnew
 have HBL:=Lib.hid hbl
 have HROW:Hid (RowW 1 ByH (fun j=>B≤j) l (.slice A l.length c) (w.alloc (.cells #[.bool false,.int .i64 0,.string ⟨#[]⟩,.slice none 0 0] 68))):=Lib.hid (RowW.step ByH.step _ _ _ _ _ _ h (Kb.of_below (S:=fun j=>B≤j) hbl) (fun _ _ e=>e))
 have HI:=Lib.hid hi
 have HL:=Lib.hid hl
 have hd1:decide ((200:Int) < (dp:Int))=false:=decN (by omega)
 have hd2:decide (l.length≤i)=false:=by simpa using (by omega:i < l.length)
 have hd3:decide ((9:Int)≤(l.length:Int) - (i:Int))=true:=decL (by omega)
 have hilt:i < l.length:=by omega
 have hat:=By.at HROW.out i hilt
 rw [h0] at hat
 obtain ⟨g,o,rfl,hg,_,hc⟩:=hat
 clear hilt h0
 clear hnew hbl h
 go_enter Tryd.func73,Tryd.ntmps73
 go_wp2_with fail
 go_loopw [8,9] (fun u t wr=>∃ j:Nat,j≤8∧t=.int .i64 j∧u=.int .u64 ((lowN ((l.drop (i+1+j)).take (8 - j)):Nat):Int)∧wr=w.alloc (.cells #[.bool false,.int .i64 0,.string ⟨#[]⟩,.slice none 0 0] 68)) (fun _ t _=>(intOf t).toNat)
 case atStart=>exact ⟨8,Nat.le_refl _,rfl,by simp [lowN],rfl⟩
 case round =>
  obtain ⟨j,hj,rfl,rfl,rfl⟩:=hrel
  by_cases h1:1≤j
  ·have hlt2:i+j < l.length:=by omega
   obtain ⟨g2,o2,e2,_,_,hc2⟩:=By.at HROW.out (i+j) hlt2
   obtain ⟨hs1,hs2⟩:=low_step l i j hi h1 hj
   injection e2 with e2
   injection e2 with e3 e4
   subst e3 e4
   have HS1:=Lib.hid hs1
   clear hs1
   generalize hq:lowN ((l.drop (i+1+j)).take (8 - j))=q at hs2 HS1 ⊢
   generalize hy:l[i+j]'hlt2=y at hs2 HS1 hc2 ⊢
   clear hq hy
   have hw1:IntKind.u64.wrap ((q:Int) * 256)=((q * 256:Nat):Int):=by rw [IntKind.wrap_u64];omega
   have hw2:IntKind.u64.wrap (((q * 256:Nat):Int)+(y.toNat:Int))=((q * 256+y.toNat:Nat):Int):=by rw [IntKind.wrap_u64];omega
   have hdj:decide ((1:Int)≤(j:Int))=true:=decL (by omega)
   go_wp2_with fail
   refine ⟨⟨j - 1,by omega,by rw [show ((j - 1:Nat):Int)=(j:Int) - 1 by omega],?_,trivial⟩,by simp [intOf];omega⟩
   rw [show i+1+(j - 1)=i+j by omega,HS1.out]
   rfl
  ·obtain rfl:j=0:=by omega
   go_wp2_with fail
   generalize hq:wrap64 ((lowN ((l.drop (i+1)).take 8):Nat):Int)=q
   have hq2:wrap64 ((lowN ((l.drop (i+1+0)).take (8 - 0)):Nat):Int)=q:=hq
   have hN:=heap_alloc_new w (.cells #[.bool false,.int .i64 q,.string ⟨#[]⟩,.slice none 0 0] 68)
   have hbl:=below_alloc w (.cells #[.bool false,.int .i64 q,.string ⟨#[]⟩,.slice none 0 0] 68)
   have d0:=(cellH hN 0).trans rfl
   have d1:=(cellH hN 1).trans rfl
   have d2:=(cellH hN 2).trans rfl
   have d3:=(cellH hN 3).trans rfl
   have hlen:(l.drop (i+9)).length=l.length - (i+9):=List.length_drop
   exact bodyPost_ret (v:=.tuple #[.agg #[.bool false,.int .i64 q,.string ⟨#[]⟩,.slice none 0 0],.int .i64 ((i:Int)+9)]) (by simp [results,Tryd.results73,go_sem,d0,d1,d2,d3]) rfl (by unfold GetR;exact ⟨hbl,.inr ⟨_,_,_,rfl,by omega,by rw [hlen,show ((l.length - (l.length - (i+9)):Nat):Int)=(i:Int)+9 by omega],daE_row (RowW.nil _ _)⟩⟩)
end Lx
end Go.Proofs.YtnpacamcgifabaaDoor
