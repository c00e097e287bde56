/- The reference's table: clean, has: what they give. Conditions: as each states. -/
/- The reference's table: put, a type with one unknown replaced: what it gives. Conditions: as each states. -/
/- The reference's table: has, whether an unknown stands in a type: what it gives. Conditions: as each states. -/
import Derived.Test.YtdegmeoapgibiaaDoorXbA
import Derived.Deep.RegionHeld3
import Derived.Deep.Cut
namespace Go.Proofs.YtdegmeoapgibiaaDoor
set_option linter.unusedSimpArgs false
set_option linter.unusedVariables false
namespace Lx
open Go Go.RowKit
section
variable {Vol:Nat→Prop} {g:Nat} {w wr:World} {s:Option Addr} {cap:Nat} {acc:List TyT} {vs:List Value}
theorem RowQ.put (h:RowQ Vol g w wr s cap acc vs) (hvg:Vol g) (hgw:g < w.heap.size) (i:Nat) (v:Value):RowQ Vol g w (wr.setCell ⟨g,i,none⟩ v) s cap acc vs:=by
 have hk:Kb (fun k=>k=g) wr (wr.setCell ⟨g,i,none⟩ v):=(Kb.refl (fun k=>k=g) wr).put (p:=⟨g,i,none⟩) rfl v
 exact ⟨h.val,own_kb h.own hk (fun k e (e2:k=g)=>by have:=(h.own.lt k e).1;omega),h.len,fun j h1 h2=>TyE.step _ _ _ _ _ _ (h.els j h1 h2) (hk.wider (fun k _ (e:k=g)=>.inl (e ▸ hvg))) (fun _ _ e=>e),h.keep.put (p:=⟨g,i,none⟩) rfl v⟩
end
theorem tyE_row {Vol:Nat→Prop} {k n:Int} {s:ByteArray} {l:List TyT} {va:Value} {w:World} (h:RowW 4 TyE Vol l va w):TyE Vol (.mk k s n l) (.agg #[.int .i64 k,.string s,.int .i64 n,va]) w:=by
 obtain ⟨D,hD⟩:=rowE h
 exact ⟨D+1,va,rfl,hD⟩
set_option maxRecDepth 100000 in
theorem step_tyL {ops:Array Oper} {o:Oper} {a:Act} {W:World} {K:Act→World→Prop} {Q:Exit→Act→World→Prop} {E:Prop} (hgd:o.guard=none) (s x:Operand)
  (ho:o.op=.call { callee:=.builtin .append,args:=#[s,x],argTypes:=#[27,27] })
  (base:Nat) (v:Value) (n:Nat) (xs:List Value) (hs:a.eval s=v) (hown:W.ownsRow base 32 4 v n xs) (B:Nat) (k z:Int) (y:ByteArray) (A:Option Addr) (l c:Nat) (hx:a.eval x=.slice (some ⟨B,0,none⟩) 1 1) (hB:W.heap[B]?=some (.cells #[.int .i64 k,.string y,.int .i64 z,.slice A l c] 32 (0,0))) (hn:(n+1) * 56≤140737488355328) (hbase:base≤W.heap.size)
  (h:∀ g c' w',w'.ownsRow base 32 4 (.slice (some ⟨g,0,none⟩) (n+1) c') (n+1) (xs++[.int .i64 k,.string y,.int .i64 z,.slice A l c])→W.grownBy w' v.ownBlock→(v.ownBlock=some g ∨ g=W.heap.size)→K (a.put o.dst (.slice (some ⟨g,0,none⟩) (n+1) c')) w') :
  if Region.wanted o (yielded ops a.tmps)=true then Oper.wp Tryd.prog o a W K Q else E:=by
 obtain ⟨i0,hi,hz0,hz1,hz2⟩:=info_parts infoTy
 exact step_append_lies W hgd s x _ ho base _ i0 _ 4 56 Tryd.underlying27 hi hz0 hz1 hz2 rfl (by decide) v n xs hs hown ⟨B,0,none⟩ 1 1 [.int .i64 k,.string y,.int .i64 z,.slice A l c] hx rfl (World.news_of_block (cs:=#[.int .i64 k,.string y,.int .i64 z,.slice A l c]) hB) (by simp [Value.oneCell'])
  (by omega) (by unfold maxLen;omega) (by omega) hbase _ rfl (fun g cap w' h2 h3 h4 _=>h g cap w' h2 h3 h4)
theorem leafE {Vol:Nat→Prop} {k n:Int} {s:ByteArray} {w:World}:TyE Vol (.mk k s n []) (.agg #[.int .i64 k,.string s,.int .i64 n,.slice none 0 0]) w:=⟨1,.slice none 0 0,rfl,RowW.nil _ _⟩
theorem fewT_here {k n:Int} {s:ByteArray} {l:List TyT} (h:fewT (.mk k s n l)):l.length * 56≤140737488355328:=by
 rw [fewT] at h
 exact h.1
theorem fewT_args {k n:Int} {s:ByteArray} {l:List TyT} (h:fewT (.mk k s n l)):fewTs l:=by
 rw [fewT] at h
 exact h.2
theorem strange_args {m k n:Int} {s:ByteArray} {l:List TyT} (h:strange m (.mk k s n l)=false) (hk:k=2):∀ (i:Nat) (hi:i < l.length),strange m l[i]=false:=by
 subst hk
 intro i hi
 have h:stranges m l=false:=by simpa [strange] using h
 rw [stranges_any,List.any_eq_false] at h
 have:=h l[i] (List.getElem_mem _)
 simpa using this
theorem cleanTs_snoc:∀ (a:List TyT) (x:TyT),cleanTs (a++[x])=cleanTs a++[cleanT x]
 | [],x=>by simp [cleanTs]
 | y :: a,x=>by simp [cleanTs,cleanTs_snoc a x]
theorem cleanTs_length (l:List TyT):(cleanTs l).length=l.length:=by rw [cleanTs_map,List.length_map]
def CleanC (m d:Nat):Prop:=∀ (Vol:Nat→Prop) (x:TyT) (v:Value) (w:World),TyW d Vol x v w→strange (m:Int) x=false→fewT x→(∀ k,Vol k→k < w.heap.size) →
 Calls Tryd.prog 38 #[v] w fun e w'=>∃ v',e=.returned v'∧TyE Vol (cleanT x) v' w'∧Below w.heap.size w w'
set_option maxRecDepth 100000 in
set_option maxHeartbeats 4000000 in
theorem clean_step (m d:Nat) (HC:Hid (CleanC m d)):CleanC m (d+1):=by
 rintro Vol ⟨k,s,n,l⟩ v w ⟨va,rfl,hr⟩ hst hfew hvl
 obtain ⟨A1,c1,rfl⟩:=hr.slice
 by_cases k1:k=1
 ·subst k1
  clear hr
  go_enter Tryd.func38,Tryd.ntmps38
  go_wp2_with fail
  exact bodyPost_ret (v:=.agg #[.int .i64 1,.string ⟨#[]⟩,.int .i64 0,.slice none 0 0]) (by simp [results,Tryd.results38,go_sem]) rfl ⟨_,rfl,by rw [cleanT];exact leafE,(below_alloc _ _).alloc (by simp) _⟩
 ·by_cases k3:k=3
  ·subst k3
   clear hr
   go_enter Tryd.func38,Tryd.ntmps38
   go_wp2_with fail
   exact bodyPost_ret (v:=.agg #[.int .i64 3,.string s,.int .i64 0,.slice none 0 0]) (by simp [results,Tryd.results38,go_sem]) rfl ⟨_,rfl,by rw [cleanT];exact leafE,(below_alloc _ _).alloc (by simp) _⟩
  ·by_cases k4:k=4
   ·subst k4
    clear hr
    have hB:Below w.heap.size w ((w.alloc (.cells #[.int .i64 4,.string s,.int .i64 n,.slice A1 l.length c1] 32)).alloc (.cells #[.int .i64 0,.string ⟨#[]⟩,.int .i64 0,.slice none 0 0] 32)):=(below_alloc _ _).alloc (by simp) _
    have h1:((w.alloc (.cells #[.int .i64 4,.string s,.int .i64 n,.slice A1 l.length c1] 32)).alloc (.cells #[.int .i64 0,.string ⟨#[]⟩,.int .i64 0,.slice none 0 0] 32)).heap[w.heap.size+1]?=some (.cells #[.int .i64 0,.string ⟨#[]⟩,.int .i64 0,.slice none 0 0] 32):=by
     have:=heap_alloc_new (w.alloc (.cells #[.int .i64 4,.string s,.int .i64 n,.slice A1 l.length c1] 32)) (.cells #[.int .i64 0,.string ⟨#[]⟩,.int .i64 0,.slice none 0 0] 32)
     simpa using this
    go_enter Tryd.func38,Tryd.ntmps38
    go_upto_region 7 with fail
    have a2:((w.alloc (.cells #[.int .i64 4,.string s,.int .i64 n,.slice A1 l.length c1] 32)).alloc (.cells #[.int .i64 0,.string ⟨#[]⟩,.int .i64 0,.slice none 0 0] 32)).cell? ⟨w.heap.size,2,none⟩=some (.int .i64 n):=by
     have e1:((w.alloc (.cells #[.int .i64 4,.string s,.int .i64 n,.slice A1 l.length c1] 32)).alloc (.cells #[.int .i64 0,.string ⟨#[]⟩,.int .i64 0,.slice none 0 0] 32)).heap[w.heap.size]?=some (.cells #[.int .i64 4,.string s,.int .i64 n,.slice A1 l.length c1] 32):=(Below.heap_alloc _ _ _ (by simp)).trans (heap_alloc_new w _)
     exact (cellH e1 2).trans rfl
    have HB:=Lib.hid hB
    have H1:=Lib.hid h1
    clear hB h1
    generalize ((w.alloc (.cells #[.int .i64 4,.string s,.int .i64 n,.slice A1 l.length c1] 32)).alloc (.cells #[.int .i64 0,.string ⟨#[]⟩,.int .i64 0,.slice none 0 0] 32))=W at HB H1 a2 ⊢
    go_wp2_with (go_at_call 17;refine (free_any _ _).mono ?_;rintro e w3 ⟨rfl,hb3⟩;have H3:=Lib.hid ((hb3.block _ (Array.getElem?_eq_some_iff.1 H1.out).1).trans H1.out);have HB3:=Lib.hid (HB.out.trans (hb3.mono HB.out.size));clear hb3;have fr0:=frozenH H3.out 0;have fr1:=frozenH H3.out 1;have fr2:=frozenH H3.out 2;have fr3:=frozenH H3.out 3;have r0:=(cellH H3.out 0).trans rfl;have r1:=(cellH H3.out 1).trans rfl;have r2:=(cellH H3.out 2).trans rfl;have r3:=(cellH H3.out 3).trans rfl)
    clear r0 r1 r2 r3 fr0 fr1 fr2 fr3
    have hk:=kput4 w3 (w.heap.size+1) (.int .i64 4) (.string ⟨#[]⟩) (.int .i64 n) (.slice none 0 0)
    have hq:=put4 (.int .i64 4) (.string ⟨#[]⟩) (.int .i64 n) (.slice none 0 0) H3.out
    generalize ((((w3.setCell ⟨w.heap.size+1,0,none⟩ (.int .i64 4)).setCell ⟨w.heap.size+1,1,none⟩ (.string ⟨#[]⟩)).setCell ⟨w.heap.size+1,2,none⟩ (.int .i64 n)).setCell ⟨w.heap.size+1,3,none⟩ (.slice none 0 0))=W5 at hk hq ⊢
    have c0:=(cellH hq 0).trans rfl
    have c1:=(cellH hq 1).trans rfl
    have c2:=(cellH hq 2).trans rfl
    have c3:=(cellH hq 3).trans rfl
    exact bodyPost_ret (v:=.agg #[.int .i64 4,.string ⟨#[]⟩,.int .i64 n,.slice none 0 0]) (by simp [results,Tryd.results38,go_sem,c0,c1,c2,c3]) rfl ⟨_,rfl,by rw [cleanT];exact leafE,HB3.out.trans (hk.below HB3.out.size (fun k e=>by omega))⟩
   ·have k2:k=2:=by
     by_cases k2:k=2
     ·exact k2
     ·simp [strange,k1,k2,k3,k4] at hst
    subst k2
    clear k1 k3 k4
    have HST:=Lib.hid (strange_args hst rfl)
    have hl56:=fewT_here hfew
    have HFW:=Lib.hid (fewT_args hfew)
    have HV:=Lib.hid hr
    have HVL:=Lib.hid hvl
    obtain ⟨i0,hi0,hz0,hz1,hz2⟩:=info_parts infoTy
    have HI0:=Lib.hid hi0
    have HI1:=Lib.hid hz0
    have HI2:=Lib.hid hz1
    have HI3:=Lib.hid hz2
    clear hi0 hz0 hz1 hz2 hst hfew hr hvl
    have hBB:Below w.heap.size w (((w.alloc (.cells #[.int .i64 2,.string s,.int .i64 n,.slice A1 l.length c1] 32)).alloc (.cells #[.int .i64 0,.string ⟨#[]⟩,.int .i64 0,.slice none 0 0] 32)).alloc (.cells #[.int .i64 2,.string s,.int .i64 0,.slice none 0 0] 32)):=((below_alloc _ _).alloc (by simp) _).alloc (by simp;omega) _
    have hOB:(((w.alloc (.cells #[.int .i64 2,.string s,.int .i64 n,.slice A1 l.length c1] 32)).alloc (.cells #[.int .i64 0,.string ⟨#[]⟩,.int .i64 0,.slice none 0 0] 32)).alloc (.cells #[.int .i64 2,.string s,.int .i64 0,.slice none 0 0] 32)).heap[w.heap.size+1+1]?=some (.cells #[.int .i64 2,.string s,.int .i64 0,.slice none 0 0] 32):=by
     have:=heap_alloc_new ((w.alloc (.cells #[.int .i64 2,.string s,.int .i64 n,.slice A1 l.length c1] 32)).alloc (.cells #[.int .i64 0,.string ⟨#[]⟩,.int .i64 0,.slice none 0 0] 32)) (.cells #[.int .i64 2,.string s,.int .i64 0,.slice none 0 0] 32)
     simpa using this
    have hRB:(((w.alloc (.cells #[.int .i64 2,.string s,.int .i64 n,.slice A1 l.length c1] 32)).alloc (.cells #[.int .i64 0,.string ⟨#[]⟩,.int .i64 0,.slice none 0 0] 32)).alloc (.cells #[.int .i64 2,.string s,.int .i64 0,.slice none 0 0] 32)).heap[w.heap.size+1]?=some (.cells #[.int .i64 0,.string ⟨#[]⟩,.int .i64 0,.slice none 0 0] 32):=by
     refine (Below.heap_alloc _ _ _ (by simp)).trans ?_
     have:=heap_alloc_new (w.alloc (.cells #[.int .i64 2,.string s,.int .i64 n,.slice A1 l.length c1] 32)) (.cells #[.int .i64 0,.string ⟨#[]⟩,.int .i64 0,.slice none 0 0] 32)
     simpa using this
    have hSZ:(((w.alloc (.cells #[.int .i64 2,.string s,.int .i64 n,.slice A1 l.length c1] 32)).alloc (.cells #[.int .i64 0,.string ⟨#[]⟩,.int .i64 0,.slice none 0 0] 32)).alloc (.cells #[.int .i64 2,.string s,.int .i64 0,.slice none 0 0] 32)).heap.size=w.heap.size+3:=by simp
    go_enter Tryd.func38,Tryd.ntmps38
    go_wp2_with fail
    have HBB0:=Lib.hid hBB
    have HOB:=Lib.hid hOB
    have HRB:=Lib.hid hRB
    have HSZ:=Lib.hid hSZ
    clear hBB hOB hRB hSZ
    generalize (((w.alloc (.cells #[.int .i64 2,.string s,.int .i64 n,.slice A1 l.length c1] 32)).alloc (.cells #[.int .i64 0,.string ⟨#[]⟩,.int .i64 0,.slice none 0 0] 32)).alloc (.cells #[.int .i64 2,.string s,.int .i64 0,.slice none 0 0] 32))=WB at HBB0 HOB HRB HSZ ⊢
    generalize hBn:w.heap.size+1+1=B at HOB ⊢
    have HBN:=Lib.hid hBn
    clear hBn
    have HBW:Hid (B < WB.heap.size):=Lib.hid (Array.getElem?_eq_some_iff.1 HOB.out).1
    have HVB:Hid (RowW 4 (TyW d) (fun j=>(Vol j ∨ j=w.heap.size+1) ∨ j=B) l (.slice A1 l.length c1) WB):=Lib.hid (RowW.step (TyW.step d) Vol (fun j=>(Vol j ∨ j=w.heap.size+1) ∨ j=B) _ _ _ _ HV.out (Kb.of_below HBB0.out) (fun j hj e=>e.elim (fun e=>e.elim id (fun e=>by omega)) (fun e=>by have:=HBN.out;omega)))
    have HVLB:Hid (∀ j,((Vol j ∨ j=w.heap.size+1) ∨ j=B)→j < WB.heap.size):=Lib.hid (fun j e=>by
     have h1:=HSZ.out
     have h2:=HBN.out
     rcases e with (e | e) | e
     ·have:=HVL.out j e;omega
     ·omega
     ·omega)
    go_loopw [27] (fun t wr=>∃ (k:Nat) (s':Option Addr) (cap':Nat) (vs:List Value),k≤l.length∧t=.int .i64 k∧Hid (RowQ (fun j=>(Vol j ∨ j=w.heap.size+1) ∨ j=B) B WB wr s' cap' (cleanTs (l.take k)) vs)∧Hid (wr.heap[B]?=some (.cells #[.int .i64 2,.string s,.int .i64 0,.slice s' k cap'] 32 (0,0)))) (fun t _=>l.length - (intOf t).toNat)
    case atStart=>exact ⟨0,none,0,[],Nat.zero_le _,rfl,Lib.hid (by rw [List.take_zero,cleanTs];exact RowQ.start _ _ _),HOB⟩
    case round =>
     obtain ⟨k,s',cap',vs,hk,rfl,HR,HBR⟩:=hrel
     have hlk:(cleanTs (l.take k)).length=k:=by rw [cleanTs_length,List.length_take];omega
     have HLK:=Lib.hid hlk
     by_cases hlt:k < l.length
     ·have hsl:∀ j,j < WB.heap.size→s' ≠ some ⟨j,0,none⟩:=fun j hj e=>by have:=(HR.out.own.lt j (by rw [e];rfl)).1;omega
      obtain ⟨gg,o,vi,rfl,hg,_,hvi,hc⟩:=RowW.at (RowW.step (TyW.step d) (fun j=>(Vol j ∨ j=w.heap.size+1) ∨ j=B) (fun j=>((Vol j ∨ j=w.heap.size+1) ∨ j=B) ∨ s'=some ⟨j,0,none⟩) _ _ _ _ HVB.out (HR.out.keep.wider (fun j _ (e:j=B)=>.inr e)) (fun j hj e=>e.elim id (fun e=>absurd e (hsl j hj)))) k hlt
      obtain ⟨B1,n1,c2,rfl⟩:=hvi.this
      have a0:=(hc 0 (by decide)).trans rfl
      have a1:=(hc 1 (by decide)).trans rfl
      have a2:=(hc 2 (by decide)).trans rfl
      have a3:=(hc 3 (by decide)).trans rfl
      simp only [cellsL,Value.cells,List.getElem?_cons_zero,List.getElem?_cons_succ,Nat.add_zero] at a0 a1 a2 a3
      have hk0:(0:Int)≤(k:Int):=by omega
      have hk1:(k:Int) < (l.length:Int):=by omega
      have hdc:decide (k < l.length)=true:=by simpa using hlt
      have HMN:=Lib.hid (HR.out.mine HVLB.out)
      have hbz:=below_alloc wr (.cells #[.int .i64 l[k].kind,.string l[k].name,.int .i64 l[k].var,.slice B1 n1 c2] 32)
      have HBZ:=Lib.hid hbz
      have HSTK:=Lib.hid (HST.out k hlt)
      have HFWK:=Lib.hid (fewTs_mem HFW.out hlt)
      have HVI:=Lib.hid ((TyW.step d).below hvi hbz)
      have HNY:=Lib.hid (heap_alloc_new wr (.cells #[.int .i64 l[k].kind,.string l[k].name,.int .i64 l[k].var,.slice B1 n1 c2] 32))
      have HBY:=Lib.hid ((Below.heap_alloc wr (.cells #[.int .i64 l[k].kind,.string l[k].name,.int .i64 l[k].var,.slice B1 n1 c2] 32) B (Array.getElem?_eq_some_iff.1 HBR.out).1).trans HBR.out)
      have HSN:Hid ((Value.slice s' k cap').ownBlock ≠ some wr.heap.size):=Lib.hid (fun e=>by have:=(HR.out.own.lt _ (by rw [HLK.out];exact e)).2;omega)
      have HSB:Hid ((Value.slice s' k cap').ownBlock ≠ some B):=Lib.hid (fun e=>by have:=(HR.out.own.lt _ (by rw [HLK.out];exact e)).1;have:=HBW.out;omega)
      have HNB:Hid (wr.heap.size ≠ B):=Lib.hid (fun e=>by have:=(Array.getElem?_eq_some_iff.1 HBR.out).1;omega)
      have HWR:=Lib.hid HR.out.keep.size
      have hoy:=own_kb HR.out.own (Kb.of_below (S:=fun _=>False) hbz) (fun _ _ e=>e)
      rw [HLK.out] at hoy
      have HOY:=Lib.hid hoy
      clear hc hvi hlk hsl hbz hoy
      go_upto_region 12 with fail
      clear a0 a1 a2 a3
      generalize hxx:l[k]=x at HVI HNY HBY HSTK HFWK HBZ HOY ⊢
      generalize (wr.alloc (.cells #[.int .i64 x.kind,.string x.name,.int .i64 x.var,.slice B1 n1 c2] 32))=Y at HVI HNY HBY HBZ HOY ⊢
      generalize wr.heap.size=N5 at HNY HSN HNB ⊢
      have b3:Y.cell? ⟨B,3,none⟩=some (.slice s' k cap'):=(cellH HBY.out 3).trans rfl
      have HSX:Hid (∀ X:World,Below Y.heap.size Y X→X.cell? ⟨N5,0,none⟩=some (.int .i64 x.kind)∧X.cell? ⟨N5,1,none⟩=some (.string x.name)∧X.cell? ⟨N5,2,none⟩=some (.int .i64 x.var)∧X.cell? ⟨N5,3,none⟩=some (.slice B1 n1 c2)):=Lib.hid (fun X hb=>by
       have e1:=(hb.block N5 (Array.getElem?_eq_some_iff.1 HNY.out).1).trans HNY.out
       exact ⟨(cellH e1 0).trans rfl,(cellH e1 1).trans rfl,(cellH e1 2).trans rfl,(cellH e1 3).trans rfl⟩)
      have HXC:Hid (∀ X:World,Below Y.heap.size Y X→Calls Tryd.prog 38 #[.agg #[.int .i64 x.kind,.string x.name,.int .i64 x.var,.slice B1 n1 c2]] X fun e w'=>∃ v',e=.returned v'∧TyE (fun j=>((Vol j ∨ j=w.heap.size+1) ∨ j=B) ∨ s'=some ⟨j,0,none⟩) (cleanT x) v' w'∧Below Y.heap.size Y w'):=Lib.hid (fun X hb=>(HC.out _ x _ X ((TyW.step d).below HVI.out hb) HSTK.out HFWK.out (fun j e=>Nat.lt_of_lt_of_le (HMN.out j e) (Nat.le_trans HBZ.out.size hb.size))).mono (fun e w' ⟨v',h1,h2,h3⟩=>⟨v',h1,h2,hb.trans (h3.mono hb.size)⟩))
      have HBD:Hid (Below Y.heap.size Y Y.drew):=Lib.hid (below_drw (Below.refl _ _))
      have HSZ4:Hid (∀ X:World,Below Y.heap.size Y X→WB.heap.size≤X.heap.size+1):=Lib.hid (fun X hb=>by have h1:=HWR.out;have h2:=hb.size;have h3:=HBZ.out.size;omega)
      have HN5:Hid (∀ X:World,Below Y.heap.size Y X→N5 < X.heap.size):=Lib.hid (fun X hb=>Nat.lt_of_lt_of_le (Array.getElem?_eq_some_iff.1 HNY.out).1 hb.size)
      have HB5:Hid (∀ X:World,Below Y.heap.size Y X→B < X.heap.size):=Lib.hid (fun X hb=>Nat.lt_of_lt_of_le (Array.getElem?_eq_some_iff.1 HBY.out).1 hb.size)
      refine wp_region_held_drew (S:=fun W=>W.cell? ⟨N5,0,none⟩=some (.int .i64 x.kind)∧W.cell? ⟨N5,1,none⟩=some (.string x.name)∧W.cell? ⟨N5,2,none⟩=some (.int .i64 x.var)∧W.cell? ⟨N5,3,none⟩=some (.slice B1 n1 c2)) (by kernel_rfl) (HSX.out Y (Below.refl _ _)) (fun hHeld=>?_)
      (refine wpAnyH_take (i:=0) (oi:=_) (v:=?_) rfl (by kernel_rfl) (by kernel_rfl) (by kernel_rfl) (fun _ _ _ h=>h) (Or.inl ⟨by rfl,?_⟩) (by assumption) ?_;rotate_left;(focus (intro w hSw;(try dsimp only at hSw);go_simp;(try with_reducible rfl);done));(try simp only [Act.put,List.setIfInBounds_toArray,List.set_cons_zero,List.set_cons_succ]))
      (refine wpAnyH_take (i:=2) (oi:=_) (v:=?_) rfl (by kernel_rfl) (by kernel_rfl) (by kernel_rfl) (fun _ _ _ h=>h) (Or.inl ⟨by rfl,?_⟩) (by assumption) ?_;rotate_left;(focus (intro w hSw;(try dsimp only at hSw);go_simp;(try with_reducible rfl);done));(try simp only [Act.put,List.setIfInBounds_toArray,List.set_cons_zero,List.set_cons_succ]))
      refine wpAnyH_ready (rs:=[1,3]) (by kernel_rfl) (by simp) ?_
      refine AllReadyH.cons (o:=_) rfl (fun K hK=>?_) (AllReadyH.cons (o:=_) rfl (fun K hK=>?_) AllReadyH.nil)
      ·go_simp
       refine hK.out _ _ (HSX.out _ HBD.out) (fun hHeld=>?_)
       clear hK K
       try simp only [Act.put,List.setIfInBounds_toArray,List.set_cons_zero,List.set_cons_succ]
       refine wpAnyH_ready (rs:=[3]) (by kernel_rfl) (by simp) ?_
       refine AllReadyH.cons (o:=_) rfl (fun K hK=>?_) AllReadyH.nil
       go_simp
       refine (HXC.out _ HBD.out).mono ?_
       rintro e w4 ⟨v4,rfl,hv4,hb4⟩
       obtain ⟨y5,y6,y7,hv4e⟩:=hv4.this
       subst hv4e
       have HV4:=Lib.hid hv4
       have HB4:=Lib.hid (hb4)
       have b3:w4.cell? ⟨B,3,none⟩=some (.slice s' k cap'):=(cellH ((HB4.out.block B (Array.getElem?_eq_some_iff.1 HBY.out).1).trans HBY.out) 3).trans rfl
       clear hv4 hb4
       refine hK.out _ _ (HSX.out _ HB4.out) (fun hHeld=>?_)
       clear hK K
       try simp only [Act.put,List.setIfInBounds_toArray,List.set_cons_zero,List.set_cons_succ]
       refine wpAnyH_ready (rs:=[4]) (by kernel_rfl) (by simp) ?_
       refine AllReadyH.cons (o:=_) rfl (fun K hK=>?_) AllReadyH.nil
       go_simp
       refine hK.out _ _ (HSX.out _ (HB4.out.trans ((below_alloc w4 _).mono HB4.out.size))) (fun hHeld=>?_)
       clear hK K
       try simp only [Act.put,List.setIfInBounds_toArray,List.set_cons_zero,List.set_cons_succ]
       refine wpAnyH_ready (rs:=[5]) (by kernel_rfl) (by simp) ?_
       refine AllReadyH.cons (o:=_) rfl (fun K hK=>?_) AllReadyH.nil
       refine step_tyL rfl (.tmp 32) (.tmp 35) rfl WB.heap.size (.slice s' k cap') k (vs.flatMap cellsL) (by kernel_rfl) (own_kb HOY.out (Kb.of_below (S:=fun _=>False) (HB4.out.trans ((below_alloc w4 (.cells #[.int .i64 (cleanT x).kind,.string (cleanT x).name,.int .i64 (cleanT x).var,.slice y5 y6 y7] 32)).mono HB4.out.size))) (fun _ _ e=>e)) w4.heap.size (cleanT x).kind (cleanT x).var (cleanT x).name y5 y6 y7 (by kernel_rfl) (heap_newA rfl) (by omega) (by have:=HSZ4.out _ HB4.out;simp;omega) ?_
       intro g2 cap2 w6 hown6 hg6 hat6
       have hn5:w6.heap[N5]?=some (.cells #[.int .i64 x.kind,.string x.name,.int .i64 x.var,.slice B1 n1 c2] 32):=(hg6.block N5 (Nat.lt_of_lt_of_le (HN5.out _ HB4.out) (by simp)) (fun e=>HSN.out e.symm)).trans ((Below.heap_alloc w4 _ N5 (HN5.out _ HB4.out)).trans ((HB4.out.block N5 (Array.getElem?_eq_some_iff.1 HNY.out).1).trans HNY.out))
       have hbb:w6.heap[B]?=some (.cells #[.int .i64 2,.string s,.int .i64 0,.slice s' k cap'] 32 (0,0)):=(hg6.block B (Nat.lt_of_lt_of_le (HB5.out _ HB4.out) (by simp)) (fun e=>HSB.out e.symm)).trans ((Below.heap_alloc w4 _ B (HB5.out _ HB4.out)).trans ((HB4.out.block B (Array.getElem?_eq_some_iff.1 HBY.out).1).trans HBY.out))
       have HQ6:=Lib.hid (HR.out.snoc (.inr rfl) (Kb.of_below (S:=fun j=>j=B) (HBZ.out.trans (HB4.out.mono HBZ.out.size))) HV4.out (by rw [HLK.out];exact hown6) (by rw [HLK.out];exact hg6) (by rw [HLK.out];exact hat6))
       have HN6:=Lib.hid hn5
       have HBB:=Lib.hid hbb
       clear hown6 hg6 hat6 hn5 hbb
       refine hK.out _ _ (⟨(cellH HN6.out 0).trans rfl,(cellH HN6.out 1).trans rfl,(cellH HN6.out 2).trans rfl,(cellH HN6.out 3).trans rfl⟩) (fun hHeld=>?_)
       clear hK K
       try simp only [Act.put,List.setIfInBounds_toArray,List.set_cons_zero,List.set_cons_succ]
       refine wpAnyH_ready (rs:=[6]) (by kernel_rfl) (by simp) ?_
       refine AllReadyH.cons (o:=_) rfl (fun K hK=>?_) AllReadyH.nil
       go_simp
       refine hK.out _ _ (⟨(cellH HN6.out 0).trans rfl,(cellH HN6.out 1).trans rfl,(cellH HN6.out 2).trans rfl,(cellH HN6.out 3).trans rfl⟩) (fun hHeld=>?_)
       clear hK K
       try simp only [Act.put,List.setIfInBounds_toArray,List.set_cons_zero,List.set_cons_succ]
       refine wpAnyH_ready (rs:=[7]) (by kernel_rfl) (by simp) ?_
       refine AllReadyH.cons (o:=_) rfl (fun K hK=>?_) AllReadyH.nil
       have fb3:=frozenH HBB.out 3
       have cb3:=(cellH HBB.out 3).trans rfl
       go_simp
       have hn7:=(Below.heap_setCell w6 ⟨B,3,none⟩ (.slice (some ⟨g2,0,none⟩) (k+1) cap2) N5 HNB.out).trans HN6.out
       refine hK.out _ _ (⟨(cellH hn7 0).trans rfl,(cellH hn7 1).trans rfl,(cellH hn7 2).trans rfl,(cellH hn7 3).trans rfl⟩) (fun hHeld=>?_)
       clear hK K
       try simp only [Act.put,List.setIfInBounds_toArray,List.set_cons_zero,List.set_cons_succ]
       refine wpAnyH_done (by kernel_rfl) ?_ _
       have HQ7:=Lib.hid (HQ6.out.put (.inr rfl) HBW.out 3 (.slice (some ⟨g2,0,none⟩) (k+1) cap2))
       have HB7:Hid ((w6.setCell ⟨B,3,none⟩ (.slice (some ⟨g2,0,none⟩) (k+1) cap2)).heap[B]?=some (.cells #[.int .i64 2,.string s,.int .i64 0,.slice (some ⟨g2,0,none⟩) (k+1) cap2] 32 (0,0))):=Lib.hid (blk_put w6 B 3 _ HBB.out (by simp))
       generalize (w6.setCell ⟨B,3,none⟩ (.slice (some ⟨g2,0,none⟩) (k+1) cap2))=W7 at HQ7 HB7 ⊢
       clear fb3 cb3 hn7
       go_wp2_with fail
       go_roundw
       case rel=>exact ⟨k+1,some ⟨g2,0,none⟩,cap2,_,by omega,by go_num,Lib.hid (by rw [List.take_succ_eq_append_getElem hlt,cleanTs_snoc,hxx];exact HQ7.out),HB7⟩
       case measure=>simp [intOf];omega
      ·go_simp
       refine (HXC.out _ HBD.out).mono ?_
       rintro e w4 ⟨v4,rfl,hv4,hb4⟩
       obtain ⟨y5,y6,y7,hv4e⟩:=hv4.this
       subst hv4e
       have HV4:=Lib.hid hv4
       have HB4:=Lib.hid (hb4)
       have b3:w4.cell? ⟨B,3,none⟩=some (.slice s' k cap'):=(cellH ((HB4.out.block B (Array.getElem?_eq_some_iff.1 HBY.out).1).trans HBY.out) 3).trans rfl
       clear hv4 hb4
       refine hK.out _ _ (HSX.out _ HB4.out) (fun hHeld=>?_)
       clear hK K
       try simp only [Act.put,List.setIfInBounds_toArray,List.set_cons_zero,List.set_cons_succ]
       refine wpAnyH_ready (rs:=[1,4]) (by kernel_rfl) (by simp) ?_
       refine AllReadyH.cons (o:=_) rfl (fun K hK=>?_) (AllReadyH.cons (o:=_) rfl (fun K hK=>?_) AllReadyH.nil)
       ·go_simp
        refine hK.out _ _ (HSX.out _ HB4.out) (fun hHeld=>?_)
        clear hK K
        try simp only [Act.put,List.setIfInBounds_toArray,List.set_cons_zero,List.set_cons_succ]
        refine wpAnyH_ready (rs:=[4]) (by kernel_rfl) (by simp) ?_
        refine AllReadyH.cons (o:=_) rfl (fun K hK=>?_) AllReadyH.nil
        go_simp
        refine hK.out _ _ (HSX.out _ (HB4.out.trans ((below_alloc w4 _).mono HB4.out.size))) (fun hHeld=>?_)
        clear hK K
        try simp only [Act.put,List.setIfInBounds_toArray,List.set_cons_zero,List.set_cons_succ]
        refine wpAnyH_ready (rs:=[5]) (by kernel_rfl) (by simp) ?_
        refine AllReadyH.cons (o:=_) rfl (fun K hK=>?_) AllReadyH.nil
        refine step_tyL rfl (.tmp 32) (.tmp 35) rfl WB.heap.size (.slice s' k cap') k (vs.flatMap cellsL) (by kernel_rfl) (own_kb HOY.out (Kb.of_below (S:=fun _=>False) (HB4.out.trans ((below_alloc w4 (.cells #[.int .i64 (cleanT x).kind,.string (cleanT x).name,.int .i64 (cleanT x).var,.slice y5 y6 y7] 32)).mono HB4.out.size))) (fun _ _ e=>e)) w4.heap.size (cleanT x).kind (cleanT x).var (cleanT x).name y5 y6 y7 (by kernel_rfl) (heap_newA rfl) (by omega) (by have:=HSZ4.out _ HB4.out;simp;omega) ?_
        intro g2 cap2 w6 hown6 hg6 hat6
        have hn5:w6.heap[N5]?=some (.cells #[.int .i64 x.kind,.string x.name,.int .i64 x.var,.slice B1 n1 c2] 32):=(hg6.block N5 (Nat.lt_of_lt_of_le (HN5.out _ HB4.out) (by simp)) (fun e=>HSN.out e.symm)).trans ((Below.heap_alloc w4 _ N5 (HN5.out _ HB4.out)).trans ((HB4.out.block N5 (Array.getElem?_eq_some_iff.1 HNY.out).1).trans HNY.out))
        have hbb:w6.heap[B]?=some (.cells #[.int .i64 2,.string s,.int .i64 0,.slice s' k cap'] 32 (0,0)):=(hg6.block B (Nat.lt_of_lt_of_le (HB5.out _ HB4.out) (by simp)) (fun e=>HSB.out e.symm)).trans ((Below.heap_alloc w4 _ B (HB5.out _ HB4.out)).trans ((HB4.out.block B (Array.getElem?_eq_some_iff.1 HBY.out).1).trans HBY.out))
        have HQ6:=Lib.hid (HR.out.snoc (.inr rfl) (Kb.of_below (S:=fun j=>j=B) (HBZ.out.trans (HB4.out.mono HBZ.out.size))) HV4.out (by rw [HLK.out];exact hown6) (by rw [HLK.out];exact hg6) (by rw [HLK.out];exact hat6))
        have HN6:=Lib.hid hn5
        have HBB:=Lib.hid hbb
        clear hown6 hg6 hat6 hn5 hbb
        refine hK.out _ _ (⟨(cellH HN6.out 0).trans rfl,(cellH HN6.out 1).trans rfl,(cellH HN6.out 2).trans rfl,(cellH HN6.out 3).trans rfl⟩) (fun hHeld=>?_)
        clear hK K
        try simp only [Act.put,List.setIfInBounds_toArray,List.set_cons_zero,List.set_cons_succ]
        refine wpAnyH_ready (rs:=[6]) (by kernel_rfl) (by simp) ?_
        refine AllReadyH.cons (o:=_) rfl (fun K hK=>?_) AllReadyH.nil
        go_simp
        refine hK.out _ _ (⟨(cellH HN6.out 0).trans rfl,(cellH HN6.out 1).trans rfl,(cellH HN6.out 2).trans rfl,(cellH HN6.out 3).trans rfl⟩) (fun hHeld=>?_)
        clear hK K
        try simp only [Act.put,List.setIfInBounds_toArray,List.set_cons_zero,List.set_cons_succ]
        refine wpAnyH_ready (rs:=[7]) (by kernel_rfl) (by simp) ?_
        refine AllReadyH.cons (o:=_) rfl (fun K hK=>?_) AllReadyH.nil
        have fb3:=frozenH HBB.out 3
        have cb3:=(cellH HBB.out 3).trans rfl
        go_simp
        have hn7:=(Below.heap_setCell w6 ⟨B,3,none⟩ (.slice (some ⟨g2,0,none⟩) (k+1) cap2) N5 HNB.out).trans HN6.out
        refine hK.out _ _ (⟨(cellH hn7 0).trans rfl,(cellH hn7 1).trans rfl,(cellH hn7 2).trans rfl,(cellH hn7 3).trans rfl⟩) (fun hHeld=>?_)
        clear hK K
        try simp only [Act.put,List.setIfInBounds_toArray,List.set_cons_zero,List.set_cons_succ]
        refine wpAnyH_done (by kernel_rfl) ?_ _
        have HQ7:=Lib.hid (HQ6.out.put (.inr rfl) HBW.out 3 (.slice (some ⟨g2,0,none⟩) (k+1) cap2))
        have HB7:Hid ((w6.setCell ⟨B,3,none⟩ (.slice (some ⟨g2,0,none⟩) (k+1) cap2)).heap[B]?=some (.cells #[.int .i64 2,.string s,.int .i64 0,.slice (some ⟨g2,0,none⟩) (k+1) cap2] 32 (0,0))):=Lib.hid (blk_put w6 B 3 _ HBB.out (by simp))
        generalize (w6.setCell ⟨B,3,none⟩ (.slice (some ⟨g2,0,none⟩) (k+1) cap2))=W7 at HQ7 HB7 ⊢
        clear fb3 cb3 hn7
        go_wp2_with fail
        go_roundw
        case rel=>exact ⟨k+1,some ⟨g2,0,none⟩,cap2,_,by omega,by go_num,Lib.hid (by rw [List.take_succ_eq_append_getElem hlt,cleanTs_snoc,hxx];exact HQ7.out),HB7⟩
        case measure=>simp [intOf];omega
       ·go_simp
        have b4:(w4.alloc (.cells #[.int .i64 (cleanT x).kind,.string (cleanT x).name,.int .i64 (cleanT x).var,.slice y5 y6 y7] 32)).cell? ⟨B,3,none⟩=some (.slice s' k cap'):=(World.cell?_of_block (Below.heap_alloc w4 _ B (Nat.lt_of_lt_of_le (Array.getElem?_eq_some_iff.1 HBY.out).1 HB4.out.size))).trans b3
        refine hK.out _ _ (HSX.out _ (HB4.out.trans ((below_alloc w4 _).mono HB4.out.size))) (fun hHeld=>?_)
        clear hK K
        try simp only [Act.put,List.setIfInBounds_toArray,List.set_cons_zero,List.set_cons_succ]
        refine wpAnyH_ready (rs:=[1]) (by kernel_rfl) (by simp) ?_
        refine AllReadyH.cons (o:=_) rfl (fun K hK=>?_) AllReadyH.nil
        go_simp
        refine hK.out _ _ (HSX.out _ (HB4.out.trans ((below_alloc w4 _).mono HB4.out.size))) (fun hHeld=>?_)
        clear hK K
        try simp only [Act.put,List.setIfInBounds_toArray,List.set_cons_zero,List.set_cons_succ]
        refine wpAnyH_ready (rs:=[5]) (by kernel_rfl) (by simp) ?_
        refine AllReadyH.cons (o:=_) rfl (fun K hK=>?_) AllReadyH.nil
        refine step_tyL rfl (.tmp 32) (.tmp 35) rfl WB.heap.size (.slice s' k cap') k (vs.flatMap cellsL) (by kernel_rfl) (own_kb HOY.out (Kb.of_below (S:=fun _=>False) (HB4.out.trans ((below_alloc w4 (.cells #[.int .i64 (cleanT x).kind,.string (cleanT x).name,.int .i64 (cleanT x).var,.slice y5 y6 y7] 32)).mono HB4.out.size))) (fun _ _ e=>e)) w4.heap.size (cleanT x).kind (cleanT x).var (cleanT x).name y5 y6 y7 (by kernel_rfl) (heap_newA rfl) (by omega) (by have:=HSZ4.out _ HB4.out;simp;omega) ?_
        intro g2 cap2 w6 hown6 hg6 hat6
        have hn5:w6.heap[N5]?=some (.cells #[.int .i64 x.kind,.string x.name,.int .i64 x.var,.slice B1 n1 c2] 32):=(hg6.block N5 (Nat.lt_of_lt_of_le (HN5.out _ HB4.out) (by simp)) (fun e=>HSN.out e.symm)).trans ((Below.heap_alloc w4 _ N5 (HN5.out _ HB4.out)).trans ((HB4.out.block N5 (Array.getElem?_eq_some_iff.1 HNY.out).1).trans HNY.out))
        have hbb:w6.heap[B]?=some (.cells #[.int .i64 2,.string s,.int .i64 0,.slice s' k cap'] 32 (0,0)):=(hg6.block B (Nat.lt_of_lt_of_le (HB5.out _ HB4.out) (by simp)) (fun e=>HSB.out e.symm)).trans ((Below.heap_alloc w4 _ B (HB5.out _ HB4.out)).trans ((HB4.out.block B (Array.getElem?_eq_some_iff.1 HBY.out).1).trans HBY.out))
        have HQ6:=Lib.hid (HR.out.snoc (.inr rfl) (Kb.of_below (S:=fun j=>j=B) (HBZ.out.trans (HB4.out.mono HBZ.out.size))) HV4.out (by rw [HLK.out];exact hown6) (by rw [HLK.out];exact hg6) (by rw [HLK.out];exact hat6))
        have HN6:=Lib.hid hn5
        have HBB:=Lib.hid hbb
        clear hown6 hg6 hat6 hn5 hbb
        refine hK.out _ _ (⟨(cellH HN6.out 0).trans rfl,(cellH HN6.out 1).trans rfl,(cellH HN6.out 2).trans rfl,(cellH HN6.out 3).trans rfl⟩) (fun hHeld=>?_)
        clear hK K
        try simp only [Act.put,List.setIfInBounds_toArray,List.set_cons_zero,List.set_cons_succ]
        refine wpAnyH_ready (rs:=[6]) (by kernel_rfl) (by simp) ?_
        refine AllReadyH.cons (o:=_) rfl (fun K hK=>?_) AllReadyH.nil
        go_simp
        refine hK.out _ _ (⟨(cellH HN6.out 0).trans rfl,(cellH HN6.out 1).trans rfl,(cellH HN6.out 2).trans rfl,(cellH HN6.out 3).trans rfl⟩) (fun hHeld=>?_)
        clear hK K
        try simp only [Act.put,List.setIfInBounds_toArray,List.set_cons_zero,List.set_cons_succ]
        refine wpAnyH_ready (rs:=[7]) (by kernel_rfl) (by simp) ?_
        refine AllReadyH.cons (o:=_) rfl (fun K hK=>?_) AllReadyH.nil
        have fb3:=frozenH HBB.out 3
        have cb3:=(cellH HBB.out 3).trans rfl
        go_simp
        have hn7:=(Below.heap_setCell w6 ⟨B,3,none⟩ (.slice (some ⟨g2,0,none⟩) (k+1) cap2) N5 HNB.out).trans HN6.out
        refine hK.out _ _ (⟨(cellH hn7 0).trans rfl,(cellH hn7 1).trans rfl,(cellH hn7 2).trans rfl,(cellH hn7 3).trans rfl⟩) (fun hHeld=>?_)
        clear hK K
        try simp only [Act.put,List.setIfInBounds_toArray,List.set_cons_zero,List.set_cons_succ]
        refine wpAnyH_done (by kernel_rfl) ?_ _
        have HQ7:=Lib.hid (HQ6.out.put (.inr rfl) HBW.out 3 (.slice (some ⟨g2,0,none⟩) (k+1) cap2))
        have HB7:Hid ((w6.setCell ⟨B,3,none⟩ (.slice (some ⟨g2,0,none⟩) (k+1) cap2)).heap[B]?=some (.cells #[.int .i64 2,.string s,.int .i64 0,.slice (some ⟨g2,0,none⟩) (k+1) cap2] 32 (0,0))):=Lib.hid (blk_put w6 B 3 _ HBB.out (by simp))
        generalize (w6.setCell ⟨B,3,none⟩ (.slice (some ⟨g2,0,none⟩) (k+1) cap2))=W7 at HQ7 HB7 ⊢
        clear fb3 cb3 hn7
        go_wp2_with fail
        go_roundw
        case rel=>exact ⟨k+1,some ⟨g2,0,none⟩,cap2,_,by omega,by go_num,Lib.hid (by rw [List.take_succ_eq_append_getElem hlt,cleanTs_snoc,hxx];exact HQ7.out),HB7⟩
        case measure=>simp [intOf];omega
     ·obtain rfl:k=l.length:=by omega
      have hdc:decide (l.length < l.length)=false:=by simp
      rw [List.take_length] at HR
      have hq:=HR.out.held HVLB.out
      rw [cleanTs_length] at hq
      have HH:=Lib.hid hq
      have e1:wr.heap[w.heap.size+1]?=some (.cells #[.int .i64 0,.string ⟨#[]⟩,.int .i64 0,.slice none 0 0] 32):=(HR.out.keep.block _ (Array.getElem?_eq_some_iff.1 HRB.out).1 (fun e=>by have:=HBN.out;omega)).trans HRB.out
      have b0:=(cellH HBR.out 0).trans rfl
      have b1:=(cellH HBR.out 1).trans rfl
      have b2:=(cellH HBR.out 2).trans rfl
      have b3:=(cellH HBR.out 3).trans rfl
      have fr0:=frozenH e1 0
      have fr1:=frozenH e1 1
      have fr2:=frozenH e1 2
      have fr3:=frozenH e1 3
      have r0:=(cellH e1 0).trans rfl
      have r1:=(cellH e1 1).trans rfl
      have r2:=(cellH e1 2).trans rfl
      have r3:=(cellH e1 3).trans rfl
      have HE1:=Lib.hid e1
      have HKP:=Lib.hid (HBB0.out.trans (HR.out.keep.below HBB0.out.size (fun k e=>by have:=HBN.out;omega)))
      clear hq hlk e1 hk
      go_wp2_with fail
      clear b0 b1 b2 b3 r0 r1 r2 r3 fr0 fr1 fr2 fr3
      have hk:=kput4 wr (w.heap.size+1) (.int .i64 2) (.string s) (.int .i64 0) (.slice s' l.length cap')
      have hq:=put4 (.int .i64 2) (.string s) (.int .i64 0) (.slice s' l.length cap') HE1.out
      generalize ((((wr.setCell ⟨w.heap.size+1,0,none⟩ (.int .i64 2)).setCell ⟨w.heap.size+1,1,none⟩ (.string s)).setCell ⟨w.heap.size+1,2,none⟩ (.int .i64 0)).setCell ⟨w.heap.size+1,3,none⟩ (.slice s' l.length cap'))=W5 at hk hq ⊢
      have c0:=(cellH hq 0).trans rfl
      have c1:=(cellH hq 1).trans rfl
      have c2:=(cellH hq 2).trans rfl
      have c3:=(cellH hq 3).trans rfl
      exact bodyPost_ret (v:=.agg #[.int .i64 2,.string s,.int .i64 0,.slice s' l.length cap']) (by simp [results,Tryd.results38,go_sem,c0,c1,c2,c3]) rfl ⟨_,rfl,by
       rw [cleanT]
       exact tyE_row ((RowW.step TyE.step) _ _ _ _ _ _ HH.out (hk.wider (fun k _ e=>.inl (.inr e))) (fun k _ e=>.inl (.inl e))),HKP.out.trans (hk.below HKP.out.size (fun k e=>by omega))⟩
theorem clean_any (m:Nat):∀ d,CleanC m d
 | 0=>fun _ _ _ _ h=>h.elim
 | d+1=>clean_step m d (Lib.hid (clean_any m d))
end Lx
end Go.Proofs.YtdegmeoapgibiaaDoor
namespace Go.Proofs.YtdegmeoapgibiaaDoor
set_option linter.unusedSimpArgs false
set_option linter.unusedVariables false
namespace Lx
open Go Go.RowKit
/-- One unknown replaced. -/
def pr (v:Nat) (bt:TyT):Rho:=fun u=>if u=v then bt else fr u
theorem TyE.held {Vol:Nat→Prop} {x:TyT} {v:Value} {w:World} {d:Nat} (h:TyW d Vol x v w):TyE Vol x v w:=⟨d,h⟩
theorem pr_leaf {m v:Nat} {bt:TyT} {k n:Int} {s:ByteArray} {l:List TyT} (gt:goodT m (.mk k s n l)) (h2:k ≠ 2) (hn:¬ (k=4∧n=(v:Int))):sub (pr v bt) (.mk k s n l)=.mk k s n l:=by
 rw [goodT] at gt
 rcases gt with ⟨rfl,rfl,rfl,rfl⟩ | ⟨rfl,rfl,rfl⟩ | ⟨rfl,rfl,rfl,i,hi,rfl⟩ | ⟨e,_⟩
 ·simp [sub,subs]
 ·simp [sub,subs]
 ·have hiv:i ≠ v:=fun e=>hn ⟨rfl,by rw [e]⟩
  simp [sub,pr,fr,hiv]
 ·exact absurd e h2
theorem pr_here {v:Nat} {bt:TyT} {s:ByteArray} {l:List TyT}:sub (pr v bt) (.mk 4 s (v:Int) l)=bt:=by simp [sub,pr]
theorem good_two {m:Nat} {k n:Int} {s:ByteArray} {l:List TyT} (gt:goodT m (.mk k s n l)) (hk:k=2):n=0∧goodTs m l:=by
 subst hk
 rw [goodT] at gt
 rcases gt with ⟨e,_⟩ | ⟨e,_⟩ | ⟨e,_⟩ | ⟨_,e,h⟩
 ·cases e
 ·cases e
 ·cases e
 ·exact ⟨e,h⟩
theorem subs_snocV {r:Rho}:∀ (a:List TyT) (x:TyT),subs r (a++[x])=subs r a++[sub r x]
 | [],x=>by simp [subs]
 | y :: a,x=>by simp [subs,subs_snocV a x]
theorem sub_two {r:Rho} {s:ByteArray} {n:Int} {l:List TyT}:sub r (.mk 2 s n l)=.mk 2 s n (subs r l):=by simp [sub]
def PutC (m d v:Nat) (bt:TyT):Prop:=∀ (Vol:Nat→Prop) (x:TyT) (xv bv:Value) (w:World),TyW d Vol x xv w→TyE Vol bt bv w→goodT m x→fewT x→(∀ k,Vol k→k < w.heap.size) →
 Calls Tryd.prog 73 #[xv,.int .i64 (v:Int),bv] w fun e w'=>∃ v',e=.returned v'∧TyE Vol (sub (pr v bt) x) v' w'∧Below w.heap.size w w'
set_option maxRecDepth 100000 in
set_option maxHeartbeats 4000000 in
theorem put_step (m d v:Nat) (bt:TyT) (HC:Hid (PutC m d v bt)):PutC m (d+1) v bt:=by
 rintro Vol ⟨k,s,n,l⟩ xv bv w ⟨va,rfl,hr⟩ hbv gt hfew hvl
 obtain ⟨A1,c1,rfl⟩:=hr.slice
 obtain ⟨Ab,lb,cb,rfl⟩:=hbv.this
 by_cases hkv:k=4∧n=(v:Int)
 ·obtain ⟨rfl,rfl⟩:=hkv
  clear hr
  have HBV:=Lib.hid hbv
  clear hbv
  go_enter Tryd.func73,Tryd.ntmps73
  go_wp2_with fail
  exact bodyPost_ret (v:=.agg #[.int .i64 bt.kind,.string bt.name,.int .i64 bt.var,.slice Ab lb cb]) (by simp [results,Tryd.results73,go_sem]) rfl ⟨_,rfl,by rw [pr_here];exact TyE.step.below HBV.out (((below_alloc _ _).alloc (by simp) _).alloc (by simp;omega) _),((below_alloc _ _).alloc (by simp) _).alloc (by simp;omega) _⟩
 ·by_cases k2:k=2
  ·subst k2
   obtain ⟨rfl,hgs⟩:=good_two gt rfl
   have HST:=Lib.hid hgs
   have hl56:=fewT_here hfew
   have HFW:=Lib.hid (fewT_args hfew)
   have HV:=Lib.hid hr
   have HBV:=Lib.hid hbv
   have HVL:=Lib.hid hvl
   have hd2:decide ((2:Int)=4)=false:=by decide
   clear hgs gt hfew hr hbv hvl hkv
   have hBB:Below w.heap.size w ((((w.alloc (.cells #[.int .i64 2,.string s,.int .i64 0,.slice A1 l.length c1] 32)).alloc (.cells #[.int .i64 bt.kind,.string bt.name,.int .i64 bt.var,.slice Ab lb cb] 32)).alloc (.cells #[.int .i64 0,.string ⟨#[]⟩,.int .i64 0,.slice none 0 0] 32)).alloc (.cells #[.int .i64 2,.string s,.int .i64 0,.slice none 0 0] 32)):=(((below_alloc _ _).alloc (by simp) _).alloc (by simp;omega) _).alloc (by simp;omega) _
   have hOB:((((w.alloc (.cells #[.int .i64 2,.string s,.int .i64 0,.slice A1 l.length c1] 32)).alloc (.cells #[.int .i64 bt.kind,.string bt.name,.int .i64 bt.var,.slice Ab lb cb] 32)).alloc (.cells #[.int .i64 0,.string ⟨#[]⟩,.int .i64 0,.slice none 0 0] 32)).alloc (.cells #[.int .i64 2,.string s,.int .i64 0,.slice none 0 0] 32)).heap[w.heap.size+1+1+1]?=some (.cells #[.int .i64 2,.string s,.int .i64 0,.slice none 0 0] 32):=by
    have:=heap_alloc_new (((w.alloc (.cells #[.int .i64 2,.string s,.int .i64 0,.slice A1 l.length c1] 32)).alloc (.cells #[.int .i64 bt.kind,.string bt.name,.int .i64 bt.var,.slice Ab lb cb] 32)).alloc (.cells #[.int .i64 0,.string ⟨#[]⟩,.int .i64 0,.slice none 0 0] 32)) (.cells #[.int .i64 2,.string s,.int .i64 0,.slice none 0 0] 32)
    simpa using this
   have hRB:((((w.alloc (.cells #[.int .i64 2,.string s,.int .i64 0,.slice A1 l.length c1] 32)).alloc (.cells #[.int .i64 bt.kind,.string bt.name,.int .i64 bt.var,.slice Ab lb cb] 32)).alloc (.cells #[.int .i64 0,.string ⟨#[]⟩,.int .i64 0,.slice none 0 0] 32)).alloc (.cells #[.int .i64 2,.string s,.int .i64 0,.slice none 0 0] 32)).heap[w.heap.size+1+1]?=some (.cells #[.int .i64 0,.string ⟨#[]⟩,.int .i64 0,.slice none 0 0] 32):=by
    refine (Below.heap_alloc _ _ _ (by simp)).trans ?_
    have:=heap_alloc_new ((w.alloc (.cells #[.int .i64 2,.string s,.int .i64 0,.slice A1 l.length c1] 32)).alloc (.cells #[.int .i64 bt.kind,.string bt.name,.int .i64 bt.var,.slice Ab lb cb] 32)) (.cells #[.int .i64 0,.string ⟨#[]⟩,.int .i64 0,.slice none 0 0] 32)
    simpa using this
   have hYB:((((w.alloc (.cells #[.int .i64 2,.string s,.int .i64 0,.slice A1 l.length c1] 32)).alloc (.cells #[.int .i64 bt.kind,.string bt.name,.int .i64 bt.var,.slice Ab lb cb] 32)).alloc (.cells #[.int .i64 0,.string ⟨#[]⟩,.int .i64 0,.slice none 0 0] 32)).alloc (.cells #[.int .i64 2,.string s,.int .i64 0,.slice none 0 0] 32)).heap[w.heap.size+1]?=some (.cells #[.int .i64 bt.kind,.string bt.name,.int .i64 bt.var,.slice Ab lb cb] 32):=by
    refine (Below.heap_alloc _ _ _ (by simp)).trans ((Below.heap_alloc _ _ _ (by simp)).trans ?_)
    have:=heap_alloc_new (w.alloc (.cells #[.int .i64 2,.string s,.int .i64 0,.slice A1 l.length c1] 32)) (.cells #[.int .i64 bt.kind,.string bt.name,.int .i64 bt.var,.slice Ab lb cb] 32)
    simpa using this
   have hSZ:((((w.alloc (.cells #[.int .i64 2,.string s,.int .i64 0,.slice A1 l.length c1] 32)).alloc (.cells #[.int .i64 bt.kind,.string bt.name,.int .i64 bt.var,.slice Ab lb cb] 32)).alloc (.cells #[.int .i64 0,.string ⟨#[]⟩,.int .i64 0,.slice none 0 0] 32)).alloc (.cells #[.int .i64 2,.string s,.int .i64 0,.slice none 0 0] 32)).heap.size=w.heap.size+4:=by simp
   go_enter Tryd.func73,Tryd.ntmps73
   go_wp2_with fail
   have HBB0:=Lib.hid hBB
   have HOB:=Lib.hid hOB
   have HRB:=Lib.hid hRB
   have HYB:=Lib.hid hYB
   have HSZ:=Lib.hid hSZ
   clear hBB hOB hRB hYB hSZ
   generalize ((((w.alloc (.cells #[.int .i64 2,.string s,.int .i64 0,.slice A1 l.length c1] 32)).alloc (.cells #[.int .i64 bt.kind,.string bt.name,.int .i64 bt.var,.slice Ab lb cb] 32)).alloc (.cells #[.int .i64 0,.string ⟨#[]⟩,.int .i64 0,.slice none 0 0] 32)).alloc (.cells #[.int .i64 2,.string s,.int .i64 0,.slice none 0 0] 32))=WB at HBB0 HOB HRB HYB HSZ ⊢
   generalize hBn:w.heap.size+1+1+1=B at HOB ⊢
   have HBN:=Lib.hid hBn
   clear hBn
   have HBW:Hid (B < WB.heap.size):=Lib.hid (Array.getElem?_eq_some_iff.1 HOB.out).1
   have HVB:Hid (RowW 4 (TyW d) (fun j=>(Vol j ∨ j=w.heap.size+1+1) ∨ j=B) l (.slice A1 l.length c1) WB):=Lib.hid (RowW.step (TyW.step d) Vol (fun j=>(Vol j ∨ j=w.heap.size+1+1) ∨ j=B) _ _ _ _ HV.out (Kb.of_below HBB0.out) (fun j hj e=>e.elim (fun e=>e.elim id (fun e=>by omega)) (fun e=>by have:=HBN.out;omega)))
   have HVLB:Hid (∀ j,((Vol j ∨ j=w.heap.size+1+1) ∨ j=B)→j < WB.heap.size):=Lib.hid (fun j e=>by
    have h1:=HSZ.out
    have h2:=HBN.out
    rcases e with (e | e) | e
    ·have:=HVL.out j e;omega
    ·omega
    ·omega)
   have HBVB:Hid (TyE (fun j=>(Vol j ∨ j=w.heap.size+1+1) ∨ j=B) bt _ WB):=Lib.hid (TyE.step Vol _ _ _ _ _ HBV.out (Kb.of_below HBB0.out) (fun j hj e=>e.elim (fun e=>e.elim id (fun e=>by omega)) (fun e=>by have:=HBN.out;omega)))
   go_loopw [30] (fun t wr=>∃ (k:Nat) (s':Option Addr) (cap':Nat) (vs:List Value),k≤l.length∧t=.int .i64 k∧Hid (RowQ (fun j=>(Vol j ∨ j=w.heap.size+1+1) ∨ j=B) B WB wr s' cap' (subs (pr v bt) (l.take k)) vs)∧Hid (wr.heap[B]?=some (.cells #[.int .i64 2,.string s,.int .i64 0,.slice s' k cap'] 32 (0,0)))) (fun t _=>l.length - (intOf t).toNat)
   case atStart=>exact ⟨0,none,0,[],Nat.zero_le _,rfl,Lib.hid (by rw [List.take_zero,subs];exact RowQ.start _ _ _),HOB⟩
   case round =>
    obtain ⟨k,s',cap',vs,hk,rfl,HR,HBR⟩:=hrel
    have hlk:(subs (pr v bt) (l.take k)).length=k:=by rw [subs_length,List.length_take];omega
    have HLK:=Lib.hid hlk
    by_cases hlt:k < l.length
    ·have hsl:∀ j,j < WB.heap.size→s' ≠ some ⟨j,0,none⟩:=fun j hj e=>by have:=(HR.out.own.lt j (by rw [e];rfl)).1;omega
     obtain ⟨gg,o,vi,rfl,hg,_,hvi,hc⟩:=RowW.at (RowW.step (TyW.step d) (fun j=>(Vol j ∨ j=w.heap.size+1+1) ∨ j=B) (fun j=>((Vol j ∨ j=w.heap.size+1+1) ∨ j=B) ∨ s'=some ⟨j,0,none⟩) _ _ _ _ HVB.out (HR.out.keep.wider (fun j _ (e:j=B)=>.inr e)) (fun j hj e=>e.elim id (fun e=>absurd e (hsl j hj)))) k hlt
     obtain ⟨B1,n1,c2,rfl⟩:=hvi.this
     have a0:=(hc 0 (by decide)).trans rfl
     have a1:=(hc 1 (by decide)).trans rfl
     have a2:=(hc 2 (by decide)).trans rfl
     have a3:=(hc 3 (by decide)).trans rfl
     simp only [cellsL,Value.cells,List.getElem?_cons_zero,List.getElem?_cons_succ,Nat.add_zero] at a0 a1 a2 a3
     have hk0:(0:Int)≤(k:Int):=by omega
     have hk1:(k:Int) < (l.length:Int):=by omega
     have hdc:decide (k < l.length)=true:=by simpa using hlt
     have HMN:=Lib.hid (HR.out.mine HVLB.out)
     have hbz:=below_alloc wr (.cells #[.int .i64 l[k].kind,.string l[k].name,.int .i64 l[k].var,.slice B1 n1 c2] 32)
     have HBZ:=Lib.hid hbz
     have HSTK:=Lib.hid (goodTs_mem HST.out hlt)
     have HFWK:=Lib.hid (fewTs_mem HFW.out hlt)
     have HVI:=Lib.hid ((TyW.step d).below hvi hbz)
     have HNY:=Lib.hid (heap_alloc_new wr (.cells #[.int .i64 l[k].kind,.string l[k].name,.int .i64 l[k].var,.slice B1 n1 c2] 32))
     have HBY:=Lib.hid ((Below.heap_alloc wr (.cells #[.int .i64 l[k].kind,.string l[k].name,.int .i64 l[k].var,.slice B1 n1 c2] 32) B (Array.getElem?_eq_some_iff.1 HBR.out).1).trans HBR.out)
     have hyr:=(HR.out.keep.block _ (Array.getElem?_eq_some_iff.1 HYB.out).1 (fun e=>by have:=HBN.out;have e:w.heap.size+1=B:=e;omega)).trans HYB.out
     have HYY:=Lib.hid ((Below.heap_alloc wr (.cells #[.int .i64 l[k].kind,.string l[k].name,.int .i64 l[k].var,.slice B1 n1 c2] 32) _ (Array.getElem?_eq_some_iff.1 hyr).1).trans hyr)
     have HSY:Hid ((Value.slice s' k cap').ownBlock ≠ some (w.heap.size+1)):=Lib.hid (fun e=>by have:=(HR.out.own.lt _ (by rw [HLK.out];exact e)).1;have:=(Array.getElem?_eq_some_iff.1 HYB.out).1;omega)
     have HBVY:=Lib.hid (TyE.step.below (TyE.step _ (fun j=>((Vol j ∨ j=w.heap.size+1+1) ∨ j=B) ∨ s'=some ⟨j,0,none⟩) _ _ _ _ HBVB.out (HR.out.keep.wider (fun j _ (e:j=B)=>.inr e)) (fun j hj e=>e.elim id (fun e=>absurd e (hsl j hj)))) hbz)
     clear hyr
     have HSN:Hid ((Value.slice s' k cap').ownBlock ≠ some wr.heap.size):=Lib.hid (fun e=>by have:=(HR.out.own.lt _ (by rw [HLK.out];exact e)).2;omega)
     have HSB:Hid ((Value.slice s' k cap').ownBlock ≠ some B):=Lib.hid (fun e=>by have:=(HR.out.own.lt _ (by rw [HLK.out];exact e)).1;have:=HBW.out;omega)
     have HNB:Hid (wr.heap.size ≠ B):=Lib.hid (fun e=>by have:=(Array.getElem?_eq_some_iff.1 HBR.out).1;omega)
     have HWR:=Lib.hid HR.out.keep.size
     have hoy:=own_kb HR.out.own (Kb.of_below (S:=fun _=>False) hbz) (fun _ _ e=>e)
     rw [HLK.out] at hoy
     have HOY:=Lib.hid hoy
     clear hc hvi hlk hsl hbz hoy
     go_upto_region 9 with fail
     clear a0 a1 a2 a3
     generalize hxx:l[k]=x at HVI HNY HBY HYY HSTK HFWK HBZ HOY HBVY ⊢
     generalize (wr.alloc (.cells #[.int .i64 x.kind,.string x.name,.int .i64 x.var,.slice B1 n1 c2] 32))=Y at HVI HNY HBY HYY HBVY HBZ HOY ⊢
     generalize wr.heap.size=N5 at HNY HSN HNB ⊢
     have b3:Y.cell? ⟨B,3,none⟩=some (.slice s' k cap'):=(cellH HBY.out 3).trans rfl
     have HSX:Hid (∀ X:World,Below Y.heap.size Y X→X.cell? ⟨w.heap.size+1,0,none⟩=some (.int .i64 bt.kind)∧X.cell? ⟨w.heap.size+1,1,none⟩=some (.string bt.name)∧X.cell? ⟨w.heap.size+1,2,none⟩=some (.int .i64 bt.var)∧X.cell? ⟨w.heap.size+1,3,none⟩=some (.slice Ab lb cb)∧X.cell? ⟨N5,0,none⟩=some (.int .i64 x.kind)∧X.cell? ⟨N5,1,none⟩=some (.string x.name)∧X.cell? ⟨N5,2,none⟩=some (.int .i64 x.var)∧X.cell? ⟨N5,3,none⟩=some (.slice B1 n1 c2)):=Lib.hid (fun X hb=>by
      have e1:=(hb.block N5 (Array.getElem?_eq_some_iff.1 HNY.out).1).trans HNY.out
      have e2:=(hb.block _ (Array.getElem?_eq_some_iff.1 HYY.out).1).trans HYY.out
      exact ⟨(cellH e2 0).trans rfl,(cellH e2 1).trans rfl,(cellH e2 2).trans rfl,(cellH e2 3).trans rfl,(cellH e1 0).trans rfl,(cellH e1 1).trans rfl,(cellH e1 2).trans rfl,(cellH e1 3).trans rfl⟩)
     have HXC:Hid (∀ X:World,Below Y.heap.size Y X→Calls Tryd.prog 73 #[.agg #[.int .i64 x.kind,.string x.name,.int .i64 x.var,.slice B1 n1 c2],.int .i64 (v:Int),.agg #[.int .i64 bt.kind,.string bt.name,.int .i64 bt.var,.slice Ab lb cb]] X fun e w'=>∃ v',e=.returned v'∧TyE (fun j=>((Vol j ∨ j=w.heap.size+1+1) ∨ j=B) ∨ s'=some ⟨j,0,none⟩) (sub (pr v bt) x) v' w'∧Below Y.heap.size Y w'):=Lib.hid (fun X hb=>(HC.out _ x _ _ X ((TyW.step d).below HVI.out hb) (TyE.step.below HBVY.out hb) HSTK.out HFWK.out (fun j e=>Nat.lt_of_lt_of_le (HMN.out j e) (Nat.le_trans HBZ.out.size hb.size))).mono (fun e w' ⟨v',h1,h2,h3⟩=>⟨v',h1,h2,hb.trans (h3.mono hb.size)⟩))
     have HBD:Hid (Below Y.heap.size Y Y.drew):=Lib.hid (below_drw (Below.refl _ _))
     have HSZ4:Hid (∀ X:World,Below Y.heap.size Y X→WB.heap.size≤X.heap.size+1):=Lib.hid (fun X hb=>by have h1:=HWR.out;have h2:=hb.size;have h3:=HBZ.out.size;simp;omega)
     have HY5:Hid (∀ X:World,Below Y.heap.size Y X→w.heap.size+1 < X.heap.size):=Lib.hid (fun X hb=>Nat.lt_of_lt_of_le (Array.getElem?_eq_some_iff.1 HYY.out).1 hb.size)
     have HN5:Hid (∀ X:World,Below Y.heap.size Y X→N5 < X.heap.size):=Lib.hid (fun X hb=>Nat.lt_of_lt_of_le (Array.getElem?_eq_some_iff.1 HNY.out).1 hb.size)
     have HB5:Hid (∀ X:World,Below Y.heap.size Y X→B < X.heap.size):=Lib.hid (fun X hb=>Nat.lt_of_lt_of_le (Array.getElem?_eq_some_iff.1 HBY.out).1 hb.size)
     refine wp_region_held_drew (S:=fun W=>W.cell? ⟨w.heap.size+1,0,none⟩=some (.int .i64 bt.kind)∧W.cell? ⟨w.heap.size+1,1,none⟩=some (.string bt.name)∧W.cell? ⟨w.heap.size+1,2,none⟩=some (.int .i64 bt.var)∧W.cell? ⟨w.heap.size+1,3,none⟩=some (.slice Ab lb cb)∧W.cell? ⟨N5,0,none⟩=some (.int .i64 x.kind)∧W.cell? ⟨N5,1,none⟩=some (.string x.name)∧W.cell? ⟨N5,2,none⟩=some (.int .i64 x.var)∧W.cell? ⟨N5,3,none⟩=some (.slice B1 n1 c2)) (by kernel_rfl) (HSX.out Y (Below.refl _ _)) (fun hHeld=>?_)
     (refine wpAnyH_take (i:=0) (oi:=_) (v:=?_) rfl (by kernel_rfl) (by kernel_rfl) (by kernel_rfl) (fun _ _ _ h=>h) (Or.inl ⟨by rfl,?_⟩) (by assumption) ?_;rotate_left;(focus (intro w hSw;(try dsimp only at hSw);go_simp;(try with_reducible rfl);done));(try simp only [Act.put,List.setIfInBounds_toArray,List.set_cons_zero,List.set_cons_succ]))
     (refine wpAnyH_take (i:=2) (oi:=_) (v:=?_) rfl (by kernel_rfl) (by kernel_rfl) (by kernel_rfl) (fun _ _ _ h=>h) (Or.inl ⟨by rfl,?_⟩) (by assumption) ?_;rotate_left;(focus (intro w hSw;(try dsimp only at hSw);go_simp;(try with_reducible rfl);done));(try simp only [Act.put,List.setIfInBounds_toArray,List.set_cons_zero,List.set_cons_succ]))
     (refine wpAnyH_take (i:=3) (oi:=_) (v:=?_) rfl (by kernel_rfl) (by kernel_rfl) (by kernel_rfl) (fun _ _ _ h=>h) (Or.inl ⟨by rfl,?_⟩) (by assumption) ?_;rotate_left;(focus (intro w hSw;(try dsimp only at hSw);go_simp;(try with_reducible rfl);done));(try simp only [Act.put,List.setIfInBounds_toArray,List.set_cons_zero,List.set_cons_succ]))
     (refine wpAnyH_take (i:=4) (oi:=_) (v:=?_) rfl (by kernel_rfl) (by kernel_rfl) (by kernel_rfl) (fun _ _ _ h=>h) (Or.inl ⟨by rfl,?_⟩) (by assumption) ?_;rotate_left;(focus (intro w hSw;(try dsimp only at hSw);go_simp;(try with_reducible rfl);done));(try simp only [Act.put,List.setIfInBounds_toArray,List.set_cons_zero,List.set_cons_succ]))
     refine wpAnyH_ready (rs:=[1,5]) (by kernel_rfl) (by simp) ?_
     refine AllReadyH.cons (o:=_) rfl (fun K hK=>?_) (AllReadyH.cons (o:=_) rfl (fun K hK=>?_) AllReadyH.nil)
     ·go_simp
      refine hK.out _ _ (HSX.out _ HBD.out) (fun hHeld=>?_)
      clear hK K
      try simp only [Act.put,List.setIfInBounds_toArray,List.set_cons_zero,List.set_cons_succ]
      refine wpAnyH_ready (rs:=[5]) (by kernel_rfl) (by simp) ?_
      refine AllReadyH.cons (o:=_) rfl (fun K hK=>?_) AllReadyH.nil
      go_simp
      refine (HXC.out _ HBD.out).mono ?_
      rintro e w4 ⟨v4,rfl,hv4,hb4⟩
      obtain ⟨y5,y6,y7,hv4e⟩:=hv4.this
      subst hv4e
      have HV4:=Lib.hid hv4
      have HB4:=Lib.hid (hb4)
      have b3:w4.cell? ⟨B,3,none⟩=some (.slice s' k cap'):=(cellH ((HB4.out.block B (Array.getElem?_eq_some_iff.1 HBY.out).1).trans HBY.out) 3).trans rfl
      clear hv4 hb4
      refine hK.out _ _ (HSX.out _ HB4.out) (fun hHeld=>?_)
      clear hK K
      try simp only [Act.put,List.setIfInBounds_toArray,List.set_cons_zero,List.set_cons_succ]
      refine wpAnyH_ready (rs:=[6]) (by kernel_rfl) (by simp) ?_
      refine AllReadyH.cons (o:=_) rfl (fun K hK=>?_) AllReadyH.nil
      go_simp
      refine hK.out _ _ (HSX.out _ (HB4.out.trans ((below_alloc w4 _).mono HB4.out.size))) (fun hHeld=>?_)
      clear hK K
      try simp only [Act.put,List.setIfInBounds_toArray,List.set_cons_zero,List.set_cons_succ]
      refine wpAnyH_ready (rs:=[7]) (by kernel_rfl) (by simp) ?_
      refine AllReadyH.cons (o:=_) rfl (fun K hK=>?_) AllReadyH.nil
      refine step_tyL rfl (.tmp 35) (.tmp 40) rfl WB.heap.size (.slice s' k cap') k (vs.flatMap cellsL) (by kernel_rfl) (own_kb HOY.out (Kb.of_below (S:=fun _=>False) (HB4.out.trans ((below_alloc w4 (.cells #[.int .i64 (sub (pr v bt) x).kind,.string (sub (pr v bt) x).name,.int .i64 (sub (pr v bt) x).var,.slice y5 y6 y7] 32)).mono HB4.out.size))) (fun _ _ e=>e)) w4.heap.size (sub (pr v bt) x).kind (sub (pr v bt) x).var (sub (pr v bt) x).name y5 y6 y7 (by kernel_rfl) (heap_newA rfl) (by omega) (by have:=HSZ4.out _ HB4.out;simp;omega) ?_
      intro g2 cap2 w6 hown6 hg6 hat6
      have hn5:w6.heap[N5]?=some (.cells #[.int .i64 x.kind,.string x.name,.int .i64 x.var,.slice B1 n1 c2] 32):=(hg6.block N5 (Nat.lt_of_lt_of_le (HN5.out _ HB4.out) (by simp)) (fun e=>HSN.out e.symm)).trans ((Below.heap_alloc w4 _ N5 (HN5.out _ HB4.out)).trans ((HB4.out.block N5 (Array.getElem?_eq_some_iff.1 HNY.out).1).trans HNY.out))
      have hbb:w6.heap[B]?=some (.cells #[.int .i64 2,.string s,.int .i64 0,.slice s' k cap'] 32 (0,0)):=(hg6.block B (Nat.lt_of_lt_of_le (HB5.out _ HB4.out) (by simp)) (fun e=>HSB.out e.symm)).trans ((Below.heap_alloc w4 _ B (HB5.out _ HB4.out)).trans ((HB4.out.block B (Array.getElem?_eq_some_iff.1 HBY.out).1).trans HBY.out))
      have HQ6:=Lib.hid (HR.out.snoc (.inr rfl) (Kb.of_below (S:=fun j=>j=B) (HBZ.out.trans (HB4.out.mono HBZ.out.size))) HV4.out (by rw [HLK.out];exact hown6) (by rw [HLK.out];exact hg6) (by rw [HLK.out];exact hat6))
      have hy5:w6.heap[w.heap.size+1]?=some (.cells #[.int .i64 bt.kind,.string bt.name,.int .i64 bt.var,.slice Ab lb cb] 32):=(hg6.block _ (Nat.lt_of_lt_of_le (HY5.out _ HB4.out) (by simp)) (fun e=>HSY.out e.symm)).trans ((Below.heap_alloc w4 _ _ (HY5.out _ HB4.out)).trans ((HB4.out.block _ (Array.getElem?_eq_some_iff.1 HYY.out).1).trans HYY.out))
      have HY6:=Lib.hid hy5
      clear hy5
      have HN6:=Lib.hid hn5
      have HBB:=Lib.hid hbb
      clear hown6 hg6 hat6 hn5 hbb
      refine hK.out _ _ (⟨(cellH HY6.out 0).trans rfl,(cellH HY6.out 1).trans rfl,(cellH HY6.out 2).trans rfl,(cellH HY6.out 3).trans rfl,(cellH HN6.out 0).trans rfl,(cellH HN6.out 1).trans rfl,(cellH HN6.out 2).trans rfl,(cellH HN6.out 3).trans rfl⟩) (fun hHeld=>?_)
      clear hK K
      try simp only [Act.put,List.setIfInBounds_toArray,List.set_cons_zero,List.set_cons_succ]
      refine wpAnyH_ready (rs:=[8]) (by kernel_rfl) (by simp) ?_
      refine AllReadyH.cons (o:=_) rfl (fun K hK=>?_) AllReadyH.nil
      go_simp
      refine hK.out _ _ (⟨(cellH HY6.out 0).trans rfl,(cellH HY6.out 1).trans rfl,(cellH HY6.out 2).trans rfl,(cellH HY6.out 3).trans rfl,(cellH HN6.out 0).trans rfl,(cellH HN6.out 1).trans rfl,(cellH HN6.out 2).trans rfl,(cellH HN6.out 3).trans rfl⟩) (fun hHeld=>?_)
      clear hK K
      try simp only [Act.put,List.setIfInBounds_toArray,List.set_cons_zero,List.set_cons_succ]
      refine wpAnyH_ready (rs:=[9]) (by kernel_rfl) (by simp) ?_
      refine AllReadyH.cons (o:=_) rfl (fun K hK=>?_) AllReadyH.nil
      have fb3:=frozenH HBB.out 3
      have cb3:=(cellH HBB.out 3).trans rfl
      go_simp
      have hn7:=(Below.heap_setCell w6 ⟨B,3,none⟩ (.slice (some ⟨g2,0,none⟩) (k+1) cap2) N5 HNB.out).trans HN6.out
      have hy7:=(Below.heap_setCell w6 ⟨B,3,none⟩ (.slice (some ⟨g2,0,none⟩) (k+1) cap2) (w.heap.size+1) (fun e=>by have:=HBN.out;have e:w.heap.size+1=B:=e;omega)).trans HY6.out
      refine hK.out _ _ (⟨(cellH hy7 0).trans rfl,(cellH hy7 1).trans rfl,(cellH hy7 2).trans rfl,(cellH hy7 3).trans rfl,(cellH hn7 0).trans rfl,(cellH hn7 1).trans rfl,(cellH hn7 2).trans rfl,(cellH hn7 3).trans rfl⟩) (fun hHeld=>?_)
      clear hK K
      try simp only [Act.put,List.setIfInBounds_toArray,List.set_cons_zero,List.set_cons_succ]
      refine wpAnyH_done (by kernel_rfl) ?_ _
      have HQ7:=Lib.hid (HQ6.out.put (.inr rfl) HBW.out 3 (.slice (some ⟨g2,0,none⟩) (k+1) cap2))
      have HB7:Hid ((w6.setCell ⟨B,3,none⟩ (.slice (some ⟨g2,0,none⟩) (k+1) cap2)).heap[B]?=some (.cells #[.int .i64 2,.string s,.int .i64 0,.slice (some ⟨g2,0,none⟩) (k+1) cap2] 32 (0,0))):=Lib.hid (blk_put w6 B 3 _ HBB.out (by simp))
      generalize (w6.setCell ⟨B,3,none⟩ (.slice (some ⟨g2,0,none⟩) (k+1) cap2))=W7 at HQ7 HB7 ⊢
      clear fb3 cb3 hn7 hy7
      go_wp2_with fail
      go_roundw
      case rel=>exact ⟨k+1,some ⟨g2,0,none⟩,cap2,_,by omega,by go_num,Lib.hid (by rw [List.take_succ_eq_append_getElem hlt,subs_snocV,hxx];exact HQ7.out),HB7⟩
      case measure=>simp [intOf];omega
     ·go_simp
      refine (HXC.out _ HBD.out).mono ?_
      rintro e w4 ⟨v4,rfl,hv4,hb4⟩
      obtain ⟨y5,y6,y7,hv4e⟩:=hv4.this
      subst hv4e
      have HV4:=Lib.hid hv4
      have HB4:=Lib.hid (hb4)
      have b3:w4.cell? ⟨B,3,none⟩=some (.slice s' k cap'):=(cellH ((HB4.out.block B (Array.getElem?_eq_some_iff.1 HBY.out).1).trans HBY.out) 3).trans rfl
      clear hv4 hb4
      refine hK.out _ _ (HSX.out _ HB4.out) (fun hHeld=>?_)
      clear hK K
      try simp only [Act.put,List.setIfInBounds_toArray,List.set_cons_zero,List.set_cons_succ]
      refine wpAnyH_ready (rs:=[1,6]) (by kernel_rfl) (by simp) ?_
      refine AllReadyH.cons (o:=_) rfl (fun K hK=>?_) (AllReadyH.cons (o:=_) rfl (fun K hK=>?_) AllReadyH.nil)
      ·go_simp
       refine hK.out _ _ (HSX.out _ HB4.out) (fun hHeld=>?_)
       clear hK K
       try simp only [Act.put,List.setIfInBounds_toArray,List.set_cons_zero,List.set_cons_succ]
       refine wpAnyH_ready (rs:=[6]) (by kernel_rfl) (by simp) ?_
       refine AllReadyH.cons (o:=_) rfl (fun K hK=>?_) AllReadyH.nil
       go_simp
       refine hK.out _ _ (HSX.out _ (HB4.out.trans ((below_alloc w4 _).mono HB4.out.size))) (fun hHeld=>?_)
       clear hK K
       try simp only [Act.put,List.setIfInBounds_toArray,List.set_cons_zero,List.set_cons_succ]
       refine wpAnyH_ready (rs:=[7]) (by kernel_rfl) (by simp) ?_
       refine AllReadyH.cons (o:=_) rfl (fun K hK=>?_) AllReadyH.nil
       refine step_tyL rfl (.tmp 35) (.tmp 40) rfl WB.heap.size (.slice s' k cap') k (vs.flatMap cellsL) (by kernel_rfl) (own_kb HOY.out (Kb.of_below (S:=fun _=>False) (HB4.out.trans ((below_alloc w4 (.cells #[.int .i64 (sub (pr v bt) x).kind,.string (sub (pr v bt) x).name,.int .i64 (sub (pr v bt) x).var,.slice y5 y6 y7] 32)).mono HB4.out.size))) (fun _ _ e=>e)) w4.heap.size (sub (pr v bt) x).kind (sub (pr v bt) x).var (sub (pr v bt) x).name y5 y6 y7 (by kernel_rfl) (heap_newA rfl) (by omega) (by have:=HSZ4.out _ HB4.out;simp;omega) ?_
       intro g2 cap2 w6 hown6 hg6 hat6
       have hn5:w6.heap[N5]?=some (.cells #[.int .i64 x.kind,.string x.name,.int .i64 x.var,.slice B1 n1 c2] 32):=(hg6.block N5 (Nat.lt_of_lt_of_le (HN5.out _ HB4.out) (by simp)) (fun e=>HSN.out e.symm)).trans ((Below.heap_alloc w4 _ N5 (HN5.out _ HB4.out)).trans ((HB4.out.block N5 (Array.getElem?_eq_some_iff.1 HNY.out).1).trans HNY.out))
       have hbb:w6.heap[B]?=some (.cells #[.int .i64 2,.string s,.int .i64 0,.slice s' k cap'] 32 (0,0)):=(hg6.block B (Nat.lt_of_lt_of_le (HB5.out _ HB4.out) (by simp)) (fun e=>HSB.out e.symm)).trans ((Below.heap_alloc w4 _ B (HB5.out _ HB4.out)).trans ((HB4.out.block B (Array.getElem?_eq_some_iff.1 HBY.out).1).trans HBY.out))
       have HQ6:=Lib.hid (HR.out.snoc (.inr rfl) (Kb.of_below (S:=fun j=>j=B) (HBZ.out.trans (HB4.out.mono HBZ.out.size))) HV4.out (by rw [HLK.out];exact hown6) (by rw [HLK.out];exact hg6) (by rw [HLK.out];exact hat6))
       have hy5:w6.heap[w.heap.size+1]?=some (.cells #[.int .i64 bt.kind,.string bt.name,.int .i64 bt.var,.slice Ab lb cb] 32):=(hg6.block _ (Nat.lt_of_lt_of_le (HY5.out _ HB4.out) (by simp)) (fun e=>HSY.out e.symm)).trans ((Below.heap_alloc w4 _ _ (HY5.out _ HB4.out)).trans ((HB4.out.block _ (Array.getElem?_eq_some_iff.1 HYY.out).1).trans HYY.out))
       have HY6:=Lib.hid hy5
       clear hy5
       have HN6:=Lib.hid hn5
       have HBB:=Lib.hid hbb
       clear hown6 hg6 hat6 hn5 hbb
       refine hK.out _ _ (⟨(cellH HY6.out 0).trans rfl,(cellH HY6.out 1).trans rfl,(cellH HY6.out 2).trans rfl,(cellH HY6.out 3).trans rfl,(cellH HN6.out 0).trans rfl,(cellH HN6.out 1).trans rfl,(cellH HN6.out 2).trans rfl,(cellH HN6.out 3).trans rfl⟩) (fun hHeld=>?_)
       clear hK K
       try simp only [Act.put,List.setIfInBounds_toArray,List.set_cons_zero,List.set_cons_succ]
       refine wpAnyH_ready (rs:=[8]) (by kernel_rfl) (by simp) ?_
       refine AllReadyH.cons (o:=_) rfl (fun K hK=>?_) AllReadyH.nil
       go_simp
       refine hK.out _ _ (⟨(cellH HY6.out 0).trans rfl,(cellH HY6.out 1).trans rfl,(cellH HY6.out 2).trans rfl,(cellH HY6.out 3).trans rfl,(cellH HN6.out 0).trans rfl,(cellH HN6.out 1).trans rfl,(cellH HN6.out 2).trans rfl,(cellH HN6.out 3).trans rfl⟩) (fun hHeld=>?_)
       clear hK K
       try simp only [Act.put,List.setIfInBounds_toArray,List.set_cons_zero,List.set_cons_succ]
       refine wpAnyH_ready (rs:=[9]) (by kernel_rfl) (by simp) ?_
       refine AllReadyH.cons (o:=_) rfl (fun K hK=>?_) AllReadyH.nil
       have fb3:=frozenH HBB.out 3
       have cb3:=(cellH HBB.out 3).trans rfl
       go_simp
       have hn7:=(Below.heap_setCell w6 ⟨B,3,none⟩ (.slice (some ⟨g2,0,none⟩) (k+1) cap2) N5 HNB.out).trans HN6.out
       have hy7:=(Below.heap_setCell w6 ⟨B,3,none⟩ (.slice (some ⟨g2,0,none⟩) (k+1) cap2) (w.heap.size+1) (fun e=>by have:=HBN.out;have e:w.heap.size+1=B:=e;omega)).trans HY6.out
       refine hK.out _ _ (⟨(cellH hy7 0).trans rfl,(cellH hy7 1).trans rfl,(cellH hy7 2).trans rfl,(cellH hy7 3).trans rfl,(cellH hn7 0).trans rfl,(cellH hn7 1).trans rfl,(cellH hn7 2).trans rfl,(cellH hn7 3).trans rfl⟩) (fun hHeld=>?_)
       clear hK K
       try simp only [Act.put,List.setIfInBounds_toArray,List.set_cons_zero,List.set_cons_succ]
       refine wpAnyH_done (by kernel_rfl) ?_ _
       have HQ7:=Lib.hid (HQ6.out.put (.inr rfl) HBW.out 3 (.slice (some ⟨g2,0,none⟩) (k+1) cap2))
       have HB7:Hid ((w6.setCell ⟨B,3,none⟩ (.slice (some ⟨g2,0,none⟩) (k+1) cap2)).heap[B]?=some (.cells #[.int .i64 2,.string s,.int .i64 0,.slice (some ⟨g2,0,none⟩) (k+1) cap2] 32 (0,0))):=Lib.hid (blk_put w6 B 3 _ HBB.out (by simp))
       generalize (w6.setCell ⟨B,3,none⟩ (.slice (some ⟨g2,0,none⟩) (k+1) cap2))=W7 at HQ7 HB7 ⊢
       clear fb3 cb3 hn7 hy7
       go_wp2_with fail
       go_roundw
       case rel=>exact ⟨k+1,some ⟨g2,0,none⟩,cap2,_,by omega,by go_num,Lib.hid (by rw [List.take_succ_eq_append_getElem hlt,subs_snocV,hxx];exact HQ7.out),HB7⟩
       case measure=>simp [intOf];omega
      ·go_simp
       have b4:(w4.alloc (.cells #[.int .i64 (sub (pr v bt) x).kind,.string (sub (pr v bt) x).name,.int .i64 (sub (pr v bt) x).var,.slice y5 y6 y7] 32)).cell? ⟨B,3,none⟩=some (.slice s' k cap'):=(World.cell?_of_block (Below.heap_alloc w4 _ B (Nat.lt_of_lt_of_le (Array.getElem?_eq_some_iff.1 HBY.out).1 HB4.out.size))).trans b3
       refine hK.out _ _ (HSX.out _ (HB4.out.trans ((below_alloc w4 _).mono HB4.out.size))) (fun hHeld=>?_)
       clear hK K
       try simp only [Act.put,List.setIfInBounds_toArray,List.set_cons_zero,List.set_cons_succ]
       refine wpAnyH_ready (rs:=[1]) (by kernel_rfl) (by simp) ?_
       refine AllReadyH.cons (o:=_) rfl (fun K hK=>?_) AllReadyH.nil
       go_simp
       refine hK.out _ _ (HSX.out _ (HB4.out.trans ((below_alloc w4 _).mono HB4.out.size))) (fun hHeld=>?_)
       clear hK K
       try simp only [Act.put,List.setIfInBounds_toArray,List.set_cons_zero,List.set_cons_succ]
       refine wpAnyH_ready (rs:=[7]) (by kernel_rfl) (by simp) ?_
       refine AllReadyH.cons (o:=_) rfl (fun K hK=>?_) AllReadyH.nil
       refine step_tyL rfl (.tmp 35) (.tmp 40) rfl WB.heap.size (.slice s' k cap') k (vs.flatMap cellsL) (by kernel_rfl) (own_kb HOY.out (Kb.of_below (S:=fun _=>False) (HB4.out.trans ((below_alloc w4 (.cells #[.int .i64 (sub (pr v bt) x).kind,.string (sub (pr v bt) x).name,.int .i64 (sub (pr v bt) x).var,.slice y5 y6 y7] 32)).mono HB4.out.size))) (fun _ _ e=>e)) w4.heap.size (sub (pr v bt) x).kind (sub (pr v bt) x).var (sub (pr v bt) x).name y5 y6 y7 (by kernel_rfl) (heap_newA rfl) (by omega) (by have:=HSZ4.out _ HB4.out;simp;omega) ?_
       intro g2 cap2 w6 hown6 hg6 hat6
       have hn5:w6.heap[N5]?=some (.cells #[.int .i64 x.kind,.string x.name,.int .i64 x.var,.slice B1 n1 c2] 32):=(hg6.block N5 (Nat.lt_of_lt_of_le (HN5.out _ HB4.out) (by simp)) (fun e=>HSN.out e.symm)).trans ((Below.heap_alloc w4 _ N5 (HN5.out _ HB4.out)).trans ((HB4.out.block N5 (Array.getElem?_eq_some_iff.1 HNY.out).1).trans HNY.out))
       have hbb:w6.heap[B]?=some (.cells #[.int .i64 2,.string s,.int .i64 0,.slice s' k cap'] 32 (0,0)):=(hg6.block B (Nat.lt_of_lt_of_le (HB5.out _ HB4.out) (by simp)) (fun e=>HSB.out e.symm)).trans ((Below.heap_alloc w4 _ B (HB5.out _ HB4.out)).trans ((HB4.out.block B (Array.getElem?_eq_some_iff.1 HBY.out).1).trans HBY.out))
       have HQ6:=Lib.hid (HR.out.snoc (.inr rfl) (Kb.of_below (S:=fun j=>j=B) (HBZ.out.trans (HB4.out.mono HBZ.out.size))) HV4.out (by rw [HLK.out];exact hown6) (by rw [HLK.out];exact hg6) (by rw [HLK.out];exact hat6))
       have hy5:w6.heap[w.heap.size+1]?=some (.cells #[.int .i64 bt.kind,.string bt.name,.int .i64 bt.var,.slice Ab lb cb] 32):=(hg6.block _ (Nat.lt_of_lt_of_le (HY5.out _ HB4.out) (by simp)) (fun e=>HSY.out e.symm)).trans ((Below.heap_alloc w4 _ _ (HY5.out _ HB4.out)).trans ((HB4.out.block _ (Array.getElem?_eq_some_iff.1 HYY.out).1).trans HYY.out))
       have HY6:=Lib.hid hy5
       clear hy5
       have HN6:=Lib.hid hn5
       have HBB:=Lib.hid hbb
       clear hown6 hg6 hat6 hn5 hbb
       refine hK.out _ _ (⟨(cellH HY6.out 0).trans rfl,(cellH HY6.out 1).trans rfl,(cellH HY6.out 2).trans rfl,(cellH HY6.out 3).trans rfl,(cellH HN6.out 0).trans rfl,(cellH HN6.out 1).trans rfl,(cellH HN6.out 2).trans rfl,(cellH HN6.out 3).trans rfl⟩) (fun hHeld=>?_)
       clear hK K
       try simp only [Act.put,List.setIfInBounds_toArray,List.set_cons_zero,List.set_cons_succ]
       refine wpAnyH_ready (rs:=[8]) (by kernel_rfl) (by simp) ?_
       refine AllReadyH.cons (o:=_) rfl (fun K hK=>?_) AllReadyH.nil
       go_simp
       refine hK.out _ _ (⟨(cellH HY6.out 0).trans rfl,(cellH HY6.out 1).trans rfl,(cellH HY6.out 2).trans rfl,(cellH HY6.out 3).trans rfl,(cellH HN6.out 0).trans rfl,(cellH HN6.out 1).trans rfl,(cellH HN6.out 2).trans rfl,(cellH HN6.out 3).trans rfl⟩) (fun hHeld=>?_)
       clear hK K
       try simp only [Act.put,List.setIfInBounds_toArray,List.set_cons_zero,List.set_cons_succ]
       refine wpAnyH_ready (rs:=[9]) (by kernel_rfl) (by simp) ?_
       refine AllReadyH.cons (o:=_) rfl (fun K hK=>?_) AllReadyH.nil
       have fb3:=frozenH HBB.out 3
       have cb3:=(cellH HBB.out 3).trans rfl
       go_simp
       have hn7:=(Below.heap_setCell w6 ⟨B,3,none⟩ (.slice (some ⟨g2,0,none⟩) (k+1) cap2) N5 HNB.out).trans HN6.out
       have hy7:=(Below.heap_setCell w6 ⟨B,3,none⟩ (.slice (some ⟨g2,0,none⟩) (k+1) cap2) (w.heap.size+1) (fun e=>by have:=HBN.out;have e:w.heap.size+1=B:=e;omega)).trans HY6.out
       refine hK.out _ _ (⟨(cellH hy7 0).trans rfl,(cellH hy7 1).trans rfl,(cellH hy7 2).trans rfl,(cellH hy7 3).trans rfl,(cellH hn7 0).trans rfl,(cellH hn7 1).trans rfl,(cellH hn7 2).trans rfl,(cellH hn7 3).trans rfl⟩) (fun hHeld=>?_)
       clear hK K
       try simp only [Act.put,List.setIfInBounds_toArray,List.set_cons_zero,List.set_cons_succ]
       refine wpAnyH_done (by kernel_rfl) ?_ _
       have HQ7:=Lib.hid (HQ6.out.put (.inr rfl) HBW.out 3 (.slice (some ⟨g2,0,none⟩) (k+1) cap2))
       have HB7:Hid ((w6.setCell ⟨B,3,none⟩ (.slice (some ⟨g2,0,none⟩) (k+1) cap2)).heap[B]?=some (.cells #[.int .i64 2,.string s,.int .i64 0,.slice (some ⟨g2,0,none⟩) (k+1) cap2] 32 (0,0))):=Lib.hid (blk_put w6 B 3 _ HBB.out (by simp))
       generalize (w6.setCell ⟨B,3,none⟩ (.slice (some ⟨g2,0,none⟩) (k+1) cap2))=W7 at HQ7 HB7 ⊢
       clear fb3 cb3 hn7 hy7
       go_wp2_with fail
       go_roundw
       case rel=>exact ⟨k+1,some ⟨g2,0,none⟩,cap2,_,by omega,by go_num,Lib.hid (by rw [List.take_succ_eq_append_getElem hlt,subs_snocV,hxx];exact HQ7.out),HB7⟩
       case measure=>simp [intOf];omega
    ·obtain rfl:k=l.length:=by omega
     have hdc:decide (l.length < l.length)=false:=by simp
     rw [List.take_length] at HR
     have hq:=HR.out.held HVLB.out
     rw [subs_length] at hq
     have HH:=Lib.hid hq
     have e1:wr.heap[w.heap.size+1+1]?=some (.cells #[.int .i64 0,.string ⟨#[]⟩,.int .i64 0,.slice none 0 0] 32):=(HR.out.keep.block _ (Array.getElem?_eq_some_iff.1 HRB.out).1 (fun e=>by have:=HBN.out;omega)).trans HRB.out
     have b0:=(cellH HBR.out 0).trans rfl
     have b1:=(cellH HBR.out 1).trans rfl
     have b2:=(cellH HBR.out 2).trans rfl
     have b3:=(cellH HBR.out 3).trans rfl
     have fr0:=frozenH e1 0
     have fr1:=frozenH e1 1
     have fr2:=frozenH e1 2
     have fr3:=frozenH e1 3
     have r0:=(cellH e1 0).trans rfl
     have r1:=(cellH e1 1).trans rfl
     have r2:=(cellH e1 2).trans rfl
     have r3:=(cellH e1 3).trans rfl
     have HE1:=Lib.hid e1
     have HKP:=Lib.hid (HBB0.out.trans (HR.out.keep.below HBB0.out.size (fun k e=>by have:=HBN.out;omega)))
     clear hq hlk e1 hk
     go_wp2_with fail
     clear b0 b1 b2 b3 r0 r1 r2 r3 fr0 fr1 fr2 fr3
     have hk:=kput4 wr (w.heap.size+1+1) (.int .i64 2) (.string s) (.int .i64 0) (.slice s' l.length cap')
     have hq:=put4 (.int .i64 2) (.string s) (.int .i64 0) (.slice s' l.length cap') HE1.out
     generalize ((((wr.setCell ⟨w.heap.size+1+1,0,none⟩ (.int .i64 2)).setCell ⟨w.heap.size+1+1,1,none⟩ (.string s)).setCell ⟨w.heap.size+1+1,2,none⟩ (.int .i64 0)).setCell ⟨w.heap.size+1+1,3,none⟩ (.slice s' l.length cap'))=W5 at hk hq ⊢
     have c0:=(cellH hq 0).trans rfl
     have c1:=(cellH hq 1).trans rfl
     have c2:=(cellH hq 2).trans rfl
     have c3:=(cellH hq 3).trans rfl
     exact bodyPost_ret (v:=.agg #[.int .i64 2,.string s,.int .i64 0,.slice s' l.length cap']) (by simp [results,Tryd.results73,go_sem,c0,c1,c2,c3]) rfl ⟨_,rfl,by
      rw [sub_two]
      exact tyE_row ((RowW.step TyE.step) _ _ _ _ _ _ HH.out (hk.wider (fun k _ e=>.inl (.inr e))) (fun k _ e=>.inl (.inl e))),HKP.out.trans (hk.below HKP.out.size (fun k e=>by omega))⟩
  ·have HEQ:=Lib.hid (pr_leaf (bt:=bt) gt k2 hkv)
   have hd2:decide (k=2)=false:=by simpa using k2
   by_cases k4:k=4
   ·subst k4
    have hnv:¬ n=(v:Int):=fun e=>hkv ⟨rfl,e⟩
    have hdn:decide (n=(v:Int))=false:=by simpa using hnv
    clear gt hkv
    have HX:=Lib.hid (TyE.held (Vol:=Vol) (x:=.mk 4 s n l) (w:=w) (d:=d+1) ⟨.slice A1 l.length c1,rfl,hr⟩)
    clear hr
    go_enter Tryd.func73,Tryd.ntmps73
    go_wp2_with fail
    exact bodyPost_ret (v:=.agg #[.int .i64 4,.string s,.int .i64 n,.slice A1 l.length c1]) (by simp [results,Tryd.results73,go_sem]) rfl ⟨_,rfl,by rw [HEQ.out];exact TyE.step.below HX.out (((below_alloc _ _).alloc (by simp) _).alloc (by simp;omega) _),((below_alloc _ _).alloc (by simp) _).alloc (by simp;omega) _⟩
   ·have hd4':decide (k=4)=false:=by simpa using k4
    clear gt hkv
    have HX:=Lib.hid (TyE.held (Vol:=Vol) (x:=.mk k s n l) (w:=w) (d:=d+1) ⟨.slice A1 l.length c1,rfl,hr⟩)
    clear hr
    go_enter Tryd.func73,Tryd.ntmps73
    go_wp2_with fail
    exact bodyPost_ret (v:=.agg #[.int .i64 k,.string s,.int .i64 n,.slice A1 l.length c1]) (by simp [results,Tryd.results73,go_sem]) rfl ⟨_,rfl,by rw [HEQ.out];exact TyE.step.below HX.out (((below_alloc _ _).alloc (by simp) _).alloc (by simp;omega) _),((below_alloc _ _).alloc (by simp) _).alloc (by simp;omega) _⟩
theorem put_any (m v:Nat) (bt:TyT):∀ d,PutC m d v bt
 | 0=>fun _ _ _ _ _ h=>h.elim
 | d+1=>put_step m d v bt (Lib.hid (put_any m v bt d))
end Lx
end Go.Proofs.YtdegmeoapgibiaaDoor
namespace Go.Proofs.YtdegmeoapgibiaaDoor
set_option linter.unusedSimpArgs false
set_option linter.unusedVariables false
namespace Lx
open Go Go.RowKit
theorem occTs_pos {v:Nat}:∀ {l:List TyT},(∀ (i:Nat) (h:i < l.length),occT v l[i]=0)→occTs v l=0
 | [],_=>by simp [occTs]
 | x :: l,h=>by
  have h0:occT v x=0:=h 0 (by simp)
  rw [occTs,h0,occTs_pos (fun i hi=>h (i+1) (by simpa using hi))]
theorem occTs_at {v:Nat}:∀ {l:List TyT} {i:Nat} (h:i < l.length),0 < occT v l[i]→0 < occTs v l
 | [],_,h,_=>by simp at h
 | x :: l,0,_,ho=>by
  have ho:0 < occT v x:=ho
  rw [occTs]
  omega
 | x :: l,i+1,h,ho=>by
  have:=occTs_at (l:=l) (i:=i) (by simpa using h) ho
  rw [occTs]
  omega
theorem occ_leaf {m v:Nat} {k n:Int} {s:ByteArray} {l:List TyT} (gt:goodT m (.mk k s n l)) (h2:k ≠ 2) (h4:k ≠ 4):l=[]∧occT v (.mk k s n l)=0:=by
 rw [goodT] at gt
 rcases gt with ⟨rfl,_,_,rfl⟩ | ⟨rfl,_,rfl⟩ | ⟨e,_⟩ | ⟨e,_⟩
 ·simp [occT,occTs]
 ·simp [occT,occTs]
 ·exact absurd e h4
 ·exact absurd e h2
def HasC (m d v:Nat):Prop:=∀ (Vol:Nat→Prop) (x:TyT) (xv:Value) (w:World),TyW d Vol x xv w→goodT m x →
 Calls Tryd.prog 72 #[xv,.int .i64 (v:Int)] w fun e w'=>e=.returned (.bool (decide (0 < occT v x)))∧Below w.heap.size w w'
set_option maxRecDepth 100000 in
set_option maxHeartbeats 4000000 in
theorem has_step (m d v:Nat) (HC:Hid (HasC m d v)):HasC m (d+1) v:=by
 rintro Vol ⟨k,s,n,l⟩ xv w ⟨va,rfl,hr⟩ gt
 obtain ⟨A1,c1,rfl⟩:=hr.slice
 have hfew:=hr.few
 unfold maxLen at hfew
 by_cases k4:k=4
 ·subst k4
  have hn:∃ i:Nat,n=i:=by
   rw [goodT] at gt
   rcases gt with ⟨e,_⟩ | ⟨e,_⟩ | ⟨_,_,_,i,_,e⟩ | ⟨e,_⟩
   ·cases e
   ·cases e
   ·exact ⟨i,e⟩
   ·cases e
  obtain ⟨i,rfl⟩:=hn
  have HE:Hid (decide (0 < occT v (.mk 4 s (i:Int) l))=((i:Int) == (v:Int))):=Lib.hid (by
   by_cases e:i=v
   ·subst e;simp [occT]
   ·have:¬ (i:Int)=(v:Int):=by omega
    simp [occT,e,this])
  clear hr gt
  go_enter Tryd.func72,Tryd.ntmps72
  go_wp2_with fail
  rw [HE.out]
  go_ret
  exact ⟨rfl,below_alloc _ _⟩
 ·by_cases k2:k=2
  ·subst k2
   obtain ⟨rfl,hgs⟩:=good_two gt rfl
   have HG:=Lib.hid hgs
   have HR:=Lib.hid ((RowW.step (TyW.step d)).below hr (below_alloc w (.cells #[.int .i64 2,.string s,.int .i64 0,.slice A1 l.length c1] 32)))
   have HBZ:=Lib.hid (below_alloc w (.cells #[.int .i64 2,.string s,.int .i64 0,.slice A1 l.length c1] 32))
   have HXB:=Lib.hid (heap_alloc_new w (.cells #[.int .i64 2,.string s,.int .i64 0,.slice A1 l.length c1] 32))
   clear hr hgs gt k4
   go_enter Tryd.func72,Tryd.ntmps72
   go_wp2_with fail
   generalize (w.alloc (.cells #[.int .i64 2,.string s,.int .i64 0,.slice A1 l.length c1] 32))=W1 at HR HBZ HXB ⊢
   go_loopw [17] (fun t wr=>∃ k:Nat,k≤l.length∧t=.int .i64 k∧Hid (Below W1.heap.size W1 wr)∧Hid (∀ (j:Nat) (h:j < l.length),j < k→occT v l[j]=0)) (fun t _=>l.length - (intOf t).toNat)
   case atStart=>exact ⟨0,Nat.zero_le _,rfl,Lib.hid (Below.refl _ _),Lib.hid (fun j _ h=>by omega)⟩
   case round =>
    obtain ⟨k,hk,rfl,HBW,HN⟩:=hrel
    by_cases hlt:k < l.length
    ·obtain ⟨g,o,vi,rfl,hg,_,hvi,hc⟩:=RowW.at ((RowW.step (TyW.step d)).below HR.out HBW.out) k hlt
     obtain ⟨B1,n1,c2,rfl⟩:=hvi.this
     have a0:=(hc 0 (by decide)).trans rfl
     have a1:=(hc 1 (by decide)).trans rfl
     have a2:=(hc 2 (by decide)).trans rfl
     have a3:=(hc 3 (by decide)).trans rfl
     simp only [cellsL,Value.cells,List.getElem?_cons_zero,List.getElem?_cons_succ,Nat.add_zero] at a0 a1 a2 a3
     have hb1:=below_alloc wr (.cells #[.int .i64 l[k].kind,.string l[k].name,.int .i64 l[k].var,.slice B1 n1 c2] 32)
     have HX:=Lib.hid (HC.out Vol l[k] _ _ ((TyW.step d).below hvi hb1) (goodTs_mem HG.out hlt))
     have hxr:=(HBW.out.block _ (Array.getElem?_eq_some_iff.1 HXB.out).1).trans HXB.out
     have x0:wr.cell? ⟨w.heap.size,0,none⟩=some (.int .i64 2):=(cellH hxr 0).trans rfl
     have x0b:=((hb1.block _ (Array.getElem?_eq_some_iff.1 hxr).1).trans hxr)
     have x0c:=(cellH x0b 0).trans rfl
     have HB1:=Lib.hid hb1
     have hk0:(0:Int)≤(k:Int):=by omega
     have hk1:(k:Int) < (l.length:Int):=by omega
     have hdc:decide (k < l.length)=true:=by simpa using hlt
     clear hc hvi hb1 hxr x0b
     cases hp:decide (0 < occT v l[k])
     all_goals
      rw [hp] at HX
      go_wp2_with (go_at_call 72;refine HX.out.mono ?_;rintro e w3 ⟨rfl,hb3⟩;have HB3:=Lib.hid (HB1.out.trans (hb3.mono HB1.out.size));clear hb3)
     ·go_roundw
      case rel=>exact ⟨k+1,by omega,by go_num,Lib.hid (HBW.out.trans (HB3.out.mono HBW.out.size)),Lib.hid (fun j h hj=>by
       by_cases e:j=k
       ·subst e;simpa using hp
       ·exact HN.out j h (by omega))⟩
      case measure=>simp [intOf];omega
     ·go_ret
      refine ⟨?_,HBZ.out.trans ((HBW.out.trans (HB3.out.mono HBW.out.size)).mono HBZ.out.size)⟩
      have h1:0 < occT v l[k]:=by simpa using hp
      have h2:=occTs_at hlt h1
      simp [occT,h2]
    ·obtain rfl:k=l.length:=by omega
     have hdc:decide (l.length < l.length)=false:=by simp
     go_wp2_with fail
     go_ret
     refine ⟨?_,HBZ.out.trans (HBW.out.mono HBZ.out.size)⟩
     have h2:=occTs_pos (v:=v) (fun i h=>HN.out i h h)
     simp [occT,h2]
  ·obtain ⟨rfl,h0⟩:=occ_leaf (v:=v) gt k2 k4
   have HE:=Lib.hid h0
   have hd4:decide (k=4)=false:=by simpa using k4
   clear hr gt h0
   go_enter Tryd.func72,Tryd.ntmps72
   go_wp2_with fail
   go_loopw [17] (fun t wr=>t=.int .i64 0∧Hid (Below w.heap.size w wr)) (fun _ _=>0)
   case atStart=>exact ⟨rfl,Lib.hid (below_alloc _ _)⟩
   case round =>
    obtain ⟨rfl,HBW⟩:=hrel
    go_wp2_with fail
    go_ret
    exact ⟨by rw [HE.out];rfl,HBW.out⟩
theorem has_any (m v:Nat):∀ d,HasC m d v
 | 0=>fun _ _ _ _ h=>h.elim
 | d+1=>has_step m d v (Lib.hid (has_any m v d))
end Lx
end Go.Proofs.YtdegmeoapgibiaaDoor
