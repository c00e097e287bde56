/- The reference's get: what it refuses by its bytes. Conditions: as each states. -/
import Derived.Test.YtnpacamcgifabaaDoorEa
namespace Go.Proofs.YtnpacamcgifabaaDoor
set_option linter.unusedSimpArgs false
set_option linter.unusedVariables false
namespace Lx
open Go Go.RowKit
set_option maxRecDepth 100000 in
set_option maxHeartbeats 4000000 in
theorem get_no (B:Nat) (l:List UInt8) (v:Value) (w:World) (i dp:Nat) (h:RowW 1 ByH (fun j=>B≤j) l v w) (hB:B≤w.heap.size) (hl:l.length≤1000000000000) (hi:i < l.length) (hdp:dp≤200)
  (h0:(l[i]=0∧l.length < i+9) ∨ (l[i] ≠ 0∧l[i] ≠ 1) ∨ (l[i]=1∧l.length < i+2) ∨ (l[i]=1∧∃ h1:i+1 < l.length,(l[i+1].toNat < 1 ∨ (1≤l[i+1].toNat∧32 < l[i+1].toNat) ∨
   (1≤l[i+1].toNat∧l[i+1].toNat≤32∧l.length < i+l[i+1].toNat+3) ∨ (1≤l[i+1].toNat∧l[i+1].toNat≤32∧∃ h2:i+2+l[i+1].toNat < l.length,8 < l[i+2+l[i+1].toNat].toNat)))) :
  Calls Tryd.prog 73 #[v,.int .i64 i,.int .i64 dp] w (GetR none l.length w):=by
 obtain ⟨A,c,rfl⟩:=h.slice
 have hnew:=(heap_alloc_new w (.cells #[.bool false,.int .i64 0,.string ⟨#[]⟩,.slice none 0 0] 68))
 have hbl:=(below_alloc w (.cells #[.bool false,.int .i64 0,.string ⟨#[]⟩,.slice none 0 0] 68))
 have HNEW:=Lib.hid hnew
 have HBL:=Lib.hid hbl
 have HROW:Hid (RowW 1 ByH (fun j=>B≤j) l (.slice A l.length c) (w.alloc (.cells #[.bool false,.int .i64 0,.string ⟨#[]⟩,.slice none 0 0] 68))):=Lib.hid (RowW.step ByH.step _ _ _ _ _ _ h (Kb.of_below (S:=fun j=>B≤j) hbl) (fun _ _ e=>e))
 have hd1:decide ((200:Int) < (dp:Int))=false:=decN (by omega)
 have hd2:decide (l.length≤i)=false:=by simpa using hi
 have d0:=(cellH hnew 0).trans rfl
 have d1:=(cellH hnew 1).trans rfl
 have d2:=(cellH hnew 2).trans rfl
 have d3:=(cellH hnew 3).trans rfl
 obtain ⟨g,o,rfl,hg,_,hc⟩:=By.at HROW.out i hi
 clear hnew hbl h
 rcases h0 with ⟨ht,hs⟩ | ⟨ht,ht2⟩ | ⟨ht,hs⟩ | ⟨ht,h1,hr⟩
 ·rw [ht] at hc
  have hd3:decide ((9:Int)≤(l.length:Int) - (i:Int))=false:=decM (by omega)
  clear ht
  go_enter Tryd.func73,Tryd.ntmps73
  go_wp2_with fail
  all_goals first
   | (exfalso;omega)
   | exact bodyPost_ret (v:=.tuple #[zeroD,.int .i64 (-1)]) (by simp [results,Tryd.results73,go_sem,d0,d1,d2,d3,zeroD]) rfl (by unfold GetR;exact ⟨HBL.out,.inl ⟨rfl,rfl⟩⟩)
 ·have hz0:¬ l[i].toNat=0:=fun e=>ht (UInt8.toNat.inj e)
  have hz1:¬ l[i].toNat=1:=fun e=>ht2 (UInt8.toNat.inj e)
  generalize l[i]=t at hc hz0 hz1
  clear ht ht2
  generalize t.toNat=tn at hc hz0 hz1
  have hb0:((tn:Int) == 0)=false:=by rw [beq_eq_false_iff_ne];omega
  have hb1:((tn:Int) == 1)=false:=by rw [beq_eq_false_iff_ne];omega
  go_enter Tryd.func73,Tryd.ntmps73
  go_wp2_with fail
  all_goals first
   | (exfalso;omega)
   | exact bodyPost_ret (v:=.tuple #[zeroD,.int .i64 (-1)]) (by simp [results,Tryd.results73,go_sem,d0,d1,d2,d3,zeroD]) rfl (by unfold GetR;exact ⟨HBL.out,.inl ⟨rfl,rfl⟩⟩)
 ·rw [ht] at hc
  have hd3:decide ((l.length:Int) - (i:Int) < (2:Int))=true:=decI (by omega)
  clear ht
  go_enter Tryd.func73,Tryd.ntmps73
  go_wp2_with fail
  all_goals first
   | (exfalso;omega)
   | exact bodyPost_ret (v:=.tuple #[zeroD,.int .i64 (-1)]) (by simp [results,Tryd.results73,go_sem,d0,d1,d2,d3,zeroD]) rfl (by unfold GetR;exact ⟨HBL.out,.inl ⟨rfl,rfl⟩⟩)
 ·rw [ht] at hc
  have hd3:decide ((l.length:Int) - (i:Int) < (2:Int))=false:=decN (by omega)
  clear ht
  obtain ⟨g2,o2,e2,_,_,hc2⟩:=By.at HROW.out (i+1) h1
  injection e2 with e2
  injection e2 with e3 e4
  subst e3 e4
  have hy:=byte_lt l[i+1]
  rcases hr with hr | ⟨hr1,hr2⟩ | ⟨hr1,hr2,hr3⟩ | ⟨hr1,hr2,h2,hr3⟩
  ·generalize l[i+1].toNat=y at hc2 hr hy
   go_enter Tryd.func73,Tryd.ntmps73
   go_wp2_with fail
   all_goals first
    | (exfalso;omega)
    | exact bodyPost_ret (v:=.tuple #[zeroD,.int .i64 (-1)]) (by simp [results,Tryd.results73,go_sem,d0,d1,d2,d3,zeroD]) rfl (by unfold GetR;exact ⟨HBL.out,.inl ⟨rfl,rfl⟩⟩)
  ·generalize l[i+1].toNat=y at hc2 hr1 hr2 hy
   go_enter Tryd.func73,Tryd.ntmps73
   go_wp2_with fail
   all_goals first
    | (exfalso;omega)
    | exact bodyPost_ret (v:=.tuple #[zeroD,.int .i64 (-1)]) (by simp [results,Tryd.results73,go_sem,d0,d1,d2,d3,zeroD]) rfl (by unfold GetR;exact ⟨HBL.out,.inl ⟨rfl,rfl⟩⟩)
  ·generalize l[i+1].toNat=y at hc2 hr1 hr2 hr3 hy
   go_enter Tryd.func73,Tryd.ntmps73
   go_wp2_with fail
   all_goals first
    | (exfalso;omega)
    | exact bodyPost_ret (v:=.tuple #[zeroD,.int .i64 (-1)]) (by simp [results,Tryd.results73,go_sem,d0,d1,d2,d3,zeroD]) rfl (by unfold GetR;exact ⟨HBL.out,.inl ⟨rfl,rfl⟩⟩)
  ·obtain ⟨g3,o3,e3,_,_,hc3⟩:=By.at HROW.out (i+2+l[i+1].toNat) h2
   injection e3 with e3
   injection e3 with e4 e5
   subst e4 e5
   have hz:=byte_lt l[i+2+l[i+1].toNat]
   generalize l[i+2+l[i+1].toNat].toNat=z at hc3 hr3 hz
   generalize l[i+1].toNat=y at hc2 hr1 hr2 hr3 hy hc3 h2
   go_enter Tryd.func73,Tryd.ntmps73
   go_wp2_with fail
   all_goals first
    | (exfalso;omega)
    | exact bodyPost_ret (v:=.tuple #[zeroD,.int .i64 (-1)]) (by simp [results,Tryd.results73,go_sem,d0,d1,d2,d3,zeroD]) rfl (by unfold GetR;exact ⟨HBL.out,.inl ⟨rfl,rfl⟩⟩)
end Lx
end Go.Proofs.YtnpacamcgifabaaDoor
