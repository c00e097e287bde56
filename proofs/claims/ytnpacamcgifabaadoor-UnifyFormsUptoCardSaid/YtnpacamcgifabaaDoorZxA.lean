/- Package unify: Same at any two types. No conditions. -/
/- Renumbering at types of any kind and with unknowns of any number: the pure side; a map from numbers to places. Conditions: as each states. -/
/- Package unify: renumbered and Plain at types of any kind. Conditions: the types have at most two million nodes in all. -/
import Derived.Test.YtnpacamcgifabaaDoorWa
import Derived.Test.YtnpacamcgifabaaDoorMxA
namespace Go.Proofs.YtnpacamcgifabaaDoor
set_option linter.unusedSimpArgs false
set_option linter.unusedVariables false
namespace Lx
open Go Go.RowKit
def USameC (d:Nat):Prop:=∀ (Vol Vol2:Nat→Prop) (x y:TyT) (v1 v2:Value) (w:World),TyW d Vol x v1 w→TyW d Vol2 y v2 w→Calls Tryd.prog 30 #[v1,v2] w fun e w'=>e=.returned (.bool (eqT x y))∧Below w.heap.size w w'
set_option maxRecDepth 100000 in
set_option maxHeartbeats 2000000 in
theorem equalFunc_of (d:Nat) (HC:Hid (USameC d)) (Vol Vol2:Nat→Prop) (l l':List TyT) (v1 v2:Value) (w:World) (h1:RowW 4 (TyW d) Vol l v1 w) (h2:RowW 4 (TyW d) Vol2 l' v2 w) :
  Calls Tryd.prog 66 #[v1,v2,.func (.func 30) #[] #[]] w fun e w'=>e=.returned (.bool (eqTs l l'))∧Below w.heap.size w w':=by
 obtain ⟨A1,c1,rfl⟩:=h1.slice
 obtain ⟨A2,c2,rfl⟩:=h2.slice
 have H1:=Lib.hid h1
 have H2:=Lib.hid h2
 have hfew:=h1.few
 unfold maxLen at hfew
 clear h1 h2
 by_cases hl:l.length=l'.length
 ·have hne:((l.length:Int) != (l'.length:Int))=false:=by
   have:(l.length:Int)=(l'.length:Int):=by omega
   simpa using this
  have HL:=Lib.hid hl
  clear hl
  go_enter Tryd.func66,Tryd.ntmps66
  go_wp2_with fail
  clear hne
  go_loopw [17] (fun t wr=>∃ k:Nat,k≤l.length∧t=.int .i64 k∧Hid (Below w.heap.size w wr)∧Hid (∀ (j:Nat) (h1:j < l.length) (h2:j < l'.length),j < k→eqT l[j] l'[j]=true)) (fun t _=>l.length - (intOf t).toNat)
  case atStart=>exact ⟨0,Nat.zero_le _,rfl,Lib.hid (Below.refl _ _),Lib.hid (fun j _ _ h=>by omega)⟩
  case round =>
   obtain ⟨k,hk,rfl,HB,HN⟩:=hrel
   by_cases hlt:k < l.length
   ·have hlt2:k < l'.length:=by have:=HL.out;omega
    obtain ⟨g1,o1,u1,rfl,hg1,_,hv1,cc1⟩:=RowW.at ((RowW.step (TyW.step d)).below H1.out HB.out) k hlt
    obtain ⟨B1,n1,m1,rfl⟩:=hv1.this
    have hb1:=below_alloc wr (.cells #[.int .i64 l[k].kind,.string l[k].name,.int .i64 l[k].var,.slice B1 n1 m1] 32)
    obtain ⟨g2,o2,u2,rfl,hg2,_,hv2,cc2⟩:=RowW.at ((RowW.step (TyW.step d)).below ((RowW.step (TyW.step d)).below H2.out HB.out) hb1) k hlt2
    obtain ⟨B2,n2,m2,rfl⟩:=hv2.this
    have hb2:=hb1.alloc (by simp) (.cells #[.int .i64 l'[k].kind,.string l'[k].name,.int .i64 l'[k].var,.slice B2 n2 m2] 32)
    have a0:=(cc1 0 (by decide)).trans rfl
    have a1:=(cc1 1 (by decide)).trans rfl
    have a2:=(cc1 2 (by decide)).trans rfl
    have a3:=(cc1 3 (by decide)).trans rfl
    have d0:=(cc2 0 (by decide)).trans rfl
    have d1:=(cc2 1 (by decide)).trans rfl
    have d2:=(cc2 2 (by decide)).trans rfl
    have d3:=(cc2 3 (by decide)).trans rfl
    simp only [cellsL,Value.cells,List.getElem?_cons_zero,List.getElem?_cons_succ,Nat.add_zero] at a0 a1 a2 a3 d0 d1 d2 d3
    have hk0:(0:Int)≤(k:Int):=by omega
    have hk1:(k:Int) < (l.length:Int):=by omega
    have hk2:(k:Int) < (l'.length:Int):=by omega
    have hdc:decide (k < l.length)=true:=by simpa using hlt
    have HLT:=Lib.hid hlt
    have HLT2:=Lib.hid hlt2
    have HX:=Lib.hid (HC.out Vol Vol2 _ _ _ _ _ ((TyW.step d).below hv1 hb2) ((TyW.step d).below hv2 ((Below.refl _ _).alloc (Nat.le_refl _) (.cells #[.int .i64 l'[k].kind,.string l'[k].name,.int .i64 l'[k].var,.slice B2 n2 m2] 32))))
    have HBX:=Lib.hid (HB.out.trans (hb2.mono HB.out.size))
    clear cc1 cc2 hv1 hv2 hb1 hb2
    cases hp:eqT (l[k]'HLT.out) (l'[k]'HLT2.out) <;> rw [hp] at HX
    all_goals
     go_wp2_with (go_at_call 30;refine HX.out.mono ?_;rintro e w3 ⟨rfl,hb3⟩;have HB3:=Lib.hid (HBX.out.trans (hb3.mono HBX.out.size));clear hb3)
    ·go_ret
     exact ⟨by rw [eqTs_at HLT.out HLT2.out hp];rfl,HB3.out⟩
    ·go_roundw
     case rel=>exact ⟨k+1,by have:=HLT.out;omega,by go_num,HB3,Lib.hid (fun j h1 h2 h3=>by
      by_cases e:j=k
      ·subst e;exact hp
      ·exact HN.out j h1 h2 (by omega))⟩
     case measure=>have:=HLT.out;simp [intOf];omega
   ·obtain rfl:k=l.length:=by omega
    have hdc:decide (l.length < l.length)=false:=by simp
    go_wp2_with fail
    go_ret
    exact ⟨by rw [eqTs_all HL.out (fun j h1 h2=>HN.out j h1 h2 h1)];rfl,HB.out⟩
 ·have hne:((l.length:Int) != (l'.length:Int))=true:=by
   have:¬ (l.length:Int)=(l'.length:Int):=by omega
   simpa using this
  have HQ:=Lib.hid (eqTs_len hl)
  clear hl
  go_enter Tryd.func66,Tryd.ntmps66
  go_wp2_with fail
  go_ret
  exact ⟨by rw [HQ.out];rfl,Below.refl _ _⟩
set_option maxRecDepth 100000 in
set_option maxHeartbeats 2000000 in
theorem usame_step (d:Nat) (HC:Hid (USameC d)):USameC (d+1):=by
 rintro Vol Vol2 ⟨k,s,n,l⟩ ⟨k',s',n',l'⟩ v1 v2 w ⟨va,rfl,ha⟩ ⟨vb,rfl,hb⟩
 obtain ⟨A1,c1,rfl⟩:=ha.slice
 obtain ⟨A2,c2,rfl⟩:=hb.slice
 have HB:=Lib.hid ((below_alloc w (.cells #[.int .i64 k,.string s,.int .i64 n,.slice A1 l.length c1] 32)).alloc (by simp) (.cells #[.int .i64 k',.string s',.int .i64 n',.slice A2 l'.length c2] 32))
 have HX:=Lib.hid (equalFunc_of d HC Vol Vol2 l l' _ _ _ ((RowW.step (TyW.step d)).below ha HB.out) ((RowW.step (TyW.step d)).below hb HB.out))
 have hq:eqT (.mk k s n l) (.mk k' s' n' l')=(k == k' && decide (s.toList=s'.toList) && n == n' && eqTs l l'):=by rw [eqT]
 rw [hq]
 clear ha hb hq
 by_cases e1:k=k'
 ·subst e1
  by_cases e2:s.toList=s'.toList
  ·by_cases e3:n=n'
   ·subst e3
    have h3:(k == k && decide (s.toList=s'.toList) && n == n && eqTs l l')=eqTs l l':=by simp [e2]
    rw [h3]
    clear h3
    generalize eqTs l l'=p at HX ⊢
    go_enter Tryd.func30,Tryd.ntmps30
    go_wp2_with (go_at_call 66;refine HX.out.mono ?_;rintro e w3 ⟨rfl,hb3⟩;have HB3:=Lib.hid (HB.out.trans (hb3.mono HB.out.size));clear hb3)
    go_ret
    exact ⟨rfl,HB3.out⟩
   ·have h3:(k == k && decide (s.toList=s'.toList) && n == n' && eqTs l l')=false:=by simp [e3]
    rw [h3]
    have e4:(n == n')=false:=by simpa using e3
    clear h3 e3
    go_enter Tryd.func30,Tryd.ntmps30
    go_wp2_with fail
    go_ret
    exact ⟨rfl,HB.out⟩
  ·have h3:(k == k && decide (s.toList=s'.toList) && n == n' && eqTs l l')=false:=by simp [e2]
   rw [h3]
   clear h3
   go_enter Tryd.func30,Tryd.ntmps30
   go_wp2_with fail
   go_ret
   exact ⟨rfl,HB.out⟩
 ·have h3:(k == k' && decide (s.toList=s'.toList) && n == n' && eqTs l l')=false:=by simp [e1]
  rw [h3]
  have e4:(k == k')=false:=by simpa using e1
  clear h3 e1
  go_enter Tryd.func30,Tryd.ntmps30
  go_wp2_with fail
  go_ret
  exact ⟨rfl,HB.out⟩
theorem usame_any:∀ d,USameC d
 | 0=>fun _ _ _ _ _ _ _ h _=>h.elim
 | d+1=>usame_step d (Lib.hid (usame_any d))
end Lx
end Go.Proofs.YtnpacamcgifabaaDoor
namespace Go.Proofs.YtnpacamcgifabaaDoor
set_option linter.unusedSimpArgs false
set_option linter.unusedVariables false
namespace Lx
open Go Go.RowKit
/-- A number's place in a list. -/
def posI (u:Int):List Int→Nat
 | []=>0
 | x :: l=>if x=u then 0 else posI u l+1
theorem posI_at:∀ (l:List Int) (i:Nat) (h:i < l.length),l.Nodup→posI l[i] l=i
 | x :: l,0,_,_=>by simp [posI]
 | x :: l,i+1,h,hn=>by
  have h1:=List.nodup_cons.1 hn
  have hi:i < l.length:=by simpa using h
  have hne:¬ x=l[i]:=fun e=>h1.1 (e ▸ List.getElem_mem hi)
  simp only [List.getElem_cons_succ,posI,if_neg hne,posI_at l i hi h1.2]
/-- The numbers given so far: each unknown with its place. -/
def entI (met:List Int):List (Value × Value):=met.zipIdx.map fun p=>(.int .i64 p.1,.int .i64 (p.2:Int))
def MetI (mp:Nat) (met:List Int) (w:World):Prop:=MapB Tryd.prog 3 mp (entI met) w∧met.Nodup∧met.length≤2000000
theorem entI_mem {met:List Int} {u:Int} {v:Value} (h:(Value.int .i64 u,v) ∈ entI met) (hn:met.Nodup):u ∈ met∧v=.int .i64 ((posI u met:Nat):Int):=by
 obtain ⟨⟨a,i⟩,hp,e⟩:=List.mem_map.1 h
 injection e with e1 e2
 injection e1 with _ e1
 obtain rfl:a=u:=e1
 obtain ⟨hi,ha⟩:=List.mk_mem_zipIdx_iff_getElem?.1 hp |> fun h=>List.getElem?_eq_some_iff.1 h
 subst ha
 refine ⟨List.getElem_mem _,?_⟩
 rw [← e2]
 simp only [posI_at _ _ hi hn]
theorem entI_in {met:List Int} {u:Int} (h:u ∈ met):∃ v,(Value.int .i64 u,v) ∈ entI met:=by
 obtain ⟨i,hi,rfl⟩:=List.getElem_of_mem h
 exact ⟨_,List.mem_map.2 ⟨(met[i],i),List.mk_mem_zipIdx_iff_getElem?.2 (List.getElem?_eq_getElem hi),rfl⟩⟩
theorem entI_snoc (met:List Int) (u:Int):entI (met++[u])=entI met++[(.int .i64 u,.int .i64 (met.length:Int))]:=by
 simp [entI,List.zipIdx_append]
section
variable {mp:Nat} {met:List Int} {w w':World}
theorem MetI.kb {S:Nat→Prop} (h:MetI mp met w) (hk:Kb S w w') (hn:¬ S mp):MetI mp met w':=⟨h.1.kb hk hn,h.2⟩
theorem MetI.below (h:MetI mp met w) (hb:Below w.heap.size w w'):MetI mp met w':=⟨h.1.below hb,h.2⟩
theorem MetI.obj (h:MetI mp met w):∃ es clock,w.heap[mp]?=some (.map es clock)∧es.size=met.length:=by
 obtain ⟨⟨es,clock,hb,h1,_⟩,_⟩:=h
 refine ⟨es,clock,hb,?_⟩
 have:=congrArg List.length h1
 simpa [entI] using this
end
/-- A number that a machine's integer holds. -/
def wfI (n:Int):Prop:=(Lit.int .i64 n).wf=true
mutual
def wfT:TyT→Prop
 | .mk _ _ n l=>wfI n∧wfTs l
def wfTs:List TyT→Prop
 | []=>True
 | x :: l=>wfT x∧wfTs l
end
theorem wfTs_mem:∀ {l:List TyT},wfTs l→∀ {k:Nat} (h:k < l.length),wfT l[k]
 | [],_,k,h=>by simp at h
 | x :: l,hf,0,_=>hf.1
 | x :: l,hf,k+1,h=>wfTs_mem hf.2 (by simpa using h)
theorem wfT_args {t:TyT} (h:wfT t):wfTs t.args:=by
 obtain ⟨k,s,n,l⟩:=t
 exact h.2
theorem wfT_var {t:TyT} (h:wfT t):wfI t.var:=by
 obtain ⟨k,s,n,l⟩:=t
 exact h.1
/-- A further number, if it is new. -/
def meet (met:List Int) (n:Int):List Int:=if n ∈ met then met else met++[n]
mutual
/-- A type with its unknowns numbered anew, by those met so far; those met then. -/
def pi (met:List Int):TyT→List Int × TyT
 | .mk k s n l=>if k=4 then ((pis (meet met n) l).1,.mk k s (posI n (meet met n):Int) (pis (meet met n) l).2) else ((pis met l).1,.mk k s n (pis met l).2)
def pis (met:List Int):List TyT→List Int × List TyT
 | []=>(met,[])
 | x :: l=>((pis (pi met x).1 l).1,(pi met x).2 :: (pis (pi met x).1 l).2)
end
theorem pi_ne (met:List Int) {k:Int} (s:ByteArray) (n:Int) (l:List TyT) (h:k ≠ 4):pi met (.mk k s n l)=((pis met l).1,.mk k s n (pis met l).2):=by rw [pi,if_neg h]
theorem pi_eq (met:List Int) (s:ByteArray) (n:Int) (l:List TyT):pi met (.mk 4 s n l)=((pis (meet met n) l).1,.mk 4 s (posI n (meet met n):Int) (pis (meet met n) l).2):=by rw [pi];simp
theorem posI_new (n:Int):∀ met:List Int,n ∉ met→posI n (met++[n])=met.length
 | [],_=>by simp [posI]
 | x :: l,h=>by
  have h1:¬ x=n:=fun e=>h (by simp [e])
  have h2:=posI_new n l (fun hm=>h (List.mem_cons_of_mem _ hm))
  simp [posI,h1,h2]
mutual
theorem pi_few (met:List Int):∀ t,(pi met t).1.length≤met.length+sizeT t
 | .mk k s n l=>by
  rw [sizeT]
  by_cases k4:k=4
  ·subst k4
   rw [pi_eq]
   have h1:=pis_few (meet met n) l
   have h2:(meet met n).length≤met.length+1:=by unfold meet;split <;> simp
   show (pis (meet met n) l).1.length≤_
   omega
  ·rw [pi_ne met s n l k4]
   have:=pis_few met l
   show (pis met l).1.length≤_
   omega
theorem pis_few (met:List Int):∀ l,(pis met l).1.length≤met.length+sizeTs l
 | []=>by simp [pis]
 | x :: l=>by
  rw [pis,sizeTs]
  have h1:=pi_few met x
  have h2:=pis_few (pi met x).1 l
  show (pis (pi met x).1 l).1.length≤_
  omega
end
theorem pis_snoc:∀ (met:List Int) (a:List TyT) (x:TyT),pis met (a++[x])=((pi (pis met a).1 x).1,(pis met a).2++[(pi (pis met a).1 x).2])
 | met,[],x=>by simp [pis]
 | met,y :: a,x=>by
  rw [List.cons_append,pis,pis,pis_snoc (pi met y).1 a x]
  rfl
theorem pis_length:∀ (met:List Int) (l:List TyT),(pis met l).2.length=l.length
 | _,[]=>by simp [pis]
 | met,x :: l=>by rw [pis];simp [pis_length (pi met x).1 l]
theorem pis_take (met:List Int) {l:List TyT} {k:Nat} (h:k < l.length):pis met (l.take (k+1))=((pi (pis met (l.take k)).1 l[k]).1,(pis met (l.take k)).2++[(pi (pis met (l.take k)).1 l[k]).2]):=by
 rw [List.take_succ_eq_append_getElem h,pis_snoc]
end Lx
end Go.Proofs.YtnpacamcgifabaaDoor
namespace Go.Proofs.YtnpacamcgifabaaDoor
set_option linter.unusedSimpArgs false
set_option linter.unusedVariables false
namespace Lx
open Go Go.RowKit
def RenI (d:Nat):Prop:=∀ (Vol:Nat→Prop) (mp:Nat) (met:List Int) (t:TyT) (v:Value) (w:World),TyW d Vol t v w→wfT t→MetI mp met w→Vol mp→(∀ k,Vol k→k < w.heap.size)→met.length+sizeT t≤2000000 →
 Calls Tryd.prog 69 #[v,.map (some mp)] w fun e w'=>∃ v',e=.returned v'∧TyE Vol (pi met t).2 v' w'∧MetI mp (pi met t).1 w'∧Kb (fun k=>k=mp) w w'
def CloI (d:Nat) (F:FuncId):Prop:=∀ (Vol:Nat→Prop) (mp:Nat) (met:List Int) (t:TyT) (v:Value) (X:Nat) (w:World),TyW d Vol t v w→wfT t→MetI mp met w→Vol mp→(∀ k,Vol k→k < w.heap.size)→met.length+sizeT t≤2000000→w.heap[X]?=some (.cells #[.map (some mp)] 108 (0,0)) →
 Calls Tryd.prog F #[v,.pointer (some ⟨X,0,none⟩)] w fun e w'=>∃ v',e=.returned v'∧TyE Vol (pi met t).2 v' w'∧MetI mp (pi met t).1 w'∧Kb (fun k=>k=mp) w w'
section
set_option maxRecDepth 100000 in
set_option maxHeartbeats 4000000 in
theorem clo_renI (d:Nat) (HC:Hid (RenI d)):CloI d 91:=by
 intro Vol mp met t v X w hv gt hM hmp hvl hlen hX
 obtain ⟨A,l,c,rfl⟩:=hv.this
 have hB:Below w.heap.size w ((w.alloc (.cells #[.int .i64 t.kind,.string t.name,.int .i64 t.var,.slice A l c] 32)).alloc (.cells #[.int .i64 0,.string ⟨#[]⟩,.int .i64 0,.slice none 0 0] 32)):=(below_alloc _ _).alloc (by simp) _
 have hback:∀ k,k < w.heap.size→(Vol k ∨ k=w.heap.size+1)→Vol k:=fun k hk e=>by
  rcases e with e | e
  ·exact e
  ·omega
 have h1:((w.alloc (.cells #[.int .i64 t.kind,.string t.name,.int .i64 t.var,.slice A l c] 32)).alloc (.cells #[.int .i64 0,.string ⟨#[]⟩,.int .i64 0,.slice none 0 0] 32)).heap[w.heap.size+1]?=some (.cells #[.int .i64 0,.string ⟨#[]⟩,.int .i64 0,.slice none 0 0] 32):=by
  have:=heap_alloc_new (w.alloc (.cells #[.int .i64 t.kind,.string t.name,.int .i64 t.var,.slice A l c] 32)) (.cells #[.int .i64 0,.string ⟨#[]⟩,.int .i64 0,.slice none 0 0] 32)
  simpa using this
 have hsz:((w.alloc (.cells #[.int .i64 t.kind,.string t.name,.int .i64 t.var,.slice A l c] 32)).alloc (.cells #[.int .i64 0,.string ⟨#[]⟩,.int .i64 0,.slice none 0 0] 32)).heap.size=w.heap.size+2:=by simp
 have HX:=Lib.hid (HC.out (fun k=>Vol k ∨ k=w.heap.size+1) mp met t _ _ (TyW.step d _ _ _ _ _ _ hv (Kb.of_below hB) hback) gt (hM.below hB) (.inl hmp) (fun k e=>by
  rw [hsz]
  rcases e with e | e
  ·have:=hvl k e;omega
  ·omega) hlen)
 have x0:=(cellH ((hB.block X (Array.getElem?_eq_some_iff.1 hX).1).trans hX) 0).trans rfl
 have H1:=Lib.hid h1
 have HB:=Lib.hid hB
 have HSZ:=Lib.hid hsz
 have hml:mp < w.heap.size:=hvl mp hmp
 clear hv gt hM hmp hlen hX hB hback h1 hsz
 go_enter Tryd.func91,Tryd.ntmps91
 go_wp2_with fail
 refine HX.out.mono ?_
 rintro e w4 ⟨v4,rfl,hv4,hm4,hk4⟩
 obtain ⟨y5,y6,y7,rfl⟩:=hv4.this
 have HV4:=Lib.hid hv4
 have HM4:=Lib.hid hm4
 have H4:=Lib.hid ((hk4.block (w.heap.size+1) (by have:=HSZ.out;omega) (by omega)).trans H1.out)
 have HK4:=Lib.hid ((Kb.of_below (S:=fun k=>k=mp) HB.out).trans hk4)
 clear hv4 hm4 hk4 x0 HX H1
 generalize hz:pi met t=z at HV4 HM4
 have HZ:=Lib.hid hz
 clear hz
 have r0:=(cellH H4.out 0).trans rfl
 have r1:=(cellH H4.out 1).trans rfl
 have r2:=(cellH H4.out 2).trans rfl
 have r3:=(cellH H4.out 3).trans rfl
 have fr0:=frozenH H4.out 0
 have fr1:=frozenH H4.out 1
 have fr2:=frozenH H4.out 2
 have fr3:=frozenH H4.out 3
 go_wp2_with fail
 clear r0 r1 r2 r3 fr0 fr1 fr2 fr3
 have hk:=kput4 w4 (w.heap.size+1) (.int .i64 z.2.kind) (.string z.2.name) (.int .i64 z.2.var) (.slice y5 y6 y7)
 have hq:=put4 (.int .i64 z.2.kind) (.string z.2.name) (.int .i64 z.2.var) (.slice y5 y6 y7) H4.out
 generalize ((((w4.setCell ⟨w.heap.size+1,0,none⟩ (.int .i64 z.2.kind)).setCell ⟨w.heap.size+1,1,none⟩ (.string z.2.name)).setCell ⟨w.heap.size+1,2,none⟩ (.int .i64 z.2.var)).setCell ⟨w.heap.size+1,3,none⟩ (.slice y5 y6 y7))=W at hk hq ⊢
 have c0:=(cellH hq 0).trans rfl
 have c1:=(cellH hq 1).trans rfl
 have c2:=(cellH hq 2).trans rfl
 have c3:=(cellH hq 3).trans rfl
 exact bodyPost_ret (v:=.agg #[.int .i64 z.2.kind,.string z.2.name,.int .i64 z.2.var,.slice y5 y6 y7]) (by simp [results,Tryd.results91,go_sem,c0,c1,c2,c3]) rfl ⟨_,rfl,by rw [HZ.out];exact TyE.step _ _ _ _ _ _ HV4.out (hk.wider (fun k _ e=>.inr e)) (fun k _ e=>.inl e),by rw [HZ.out];exact HM4.out.kb hk (by omega),HK4.out.join hk (fun j hj e=>by omega)⟩
set_option maxRecDepth 100000 in
set_option maxHeartbeats 4000000 in
theorem clo_plainI (d:Nat) (HC:Hid (RenI d)):CloI d 68:=by
 intro Vol mp met t v X w hv gt hM hmp hvl hlen hX
 obtain ⟨A,l,c,rfl⟩:=hv.this
 have hB:Below w.heap.size w ((w.alloc (.cells #[.int .i64 t.kind,.string t.name,.int .i64 t.var,.slice A l c] 32)).alloc (.cells #[.int .i64 0,.string ⟨#[]⟩,.int .i64 0,.slice none 0 0] 32)):=(below_alloc _ _).alloc (by simp) _
 have hback:∀ k,k < w.heap.size→(Vol k ∨ k=w.heap.size+1)→Vol k:=fun k hk e=>by
  rcases e with e | e
  ·exact e
  ·omega
 have h1:((w.alloc (.cells #[.int .i64 t.kind,.string t.name,.int .i64 t.var,.slice A l c] 32)).alloc (.cells #[.int .i64 0,.string ⟨#[]⟩,.int .i64 0,.slice none 0 0] 32)).heap[w.heap.size+1]?=some (.cells #[.int .i64 0,.string ⟨#[]⟩,.int .i64 0,.slice none 0 0] 32):=by
  have:=heap_alloc_new (w.alloc (.cells #[.int .i64 t.kind,.string t.name,.int .i64 t.var,.slice A l c] 32)) (.cells #[.int .i64 0,.string ⟨#[]⟩,.int .i64 0,.slice none 0 0] 32)
  simpa using this
 have hsz:((w.alloc (.cells #[.int .i64 t.kind,.string t.name,.int .i64 t.var,.slice A l c] 32)).alloc (.cells #[.int .i64 0,.string ⟨#[]⟩,.int .i64 0,.slice none 0 0] 32)).heap.size=w.heap.size+2:=by simp
 have HX:=Lib.hid (HC.out (fun k=>Vol k ∨ k=w.heap.size+1) mp met t _ _ (TyW.step d _ _ _ _ _ _ hv (Kb.of_below hB) hback) gt (hM.below hB) (.inl hmp) (fun k e=>by
  rw [hsz]
  rcases e with e | e
  ·have:=hvl k e;omega
  ·omega) hlen)
 have x0:=(cellH ((hB.block X (Array.getElem?_eq_some_iff.1 hX).1).trans hX) 0).trans rfl
 have H1:=Lib.hid h1
 have HB:=Lib.hid hB
 have HSZ:=Lib.hid hsz
 have hml:mp < w.heap.size:=hvl mp hmp
 clear hv gt hM hmp hlen hX hB hback h1 hsz
 go_enter Tryd.func68,Tryd.ntmps68
 go_wp2_with fail
 refine HX.out.mono ?_
 rintro e w4 ⟨v4,rfl,hv4,hm4,hk4⟩
 obtain ⟨y5,y6,y7,rfl⟩:=hv4.this
 have HV4:=Lib.hid hv4
 have HM4:=Lib.hid hm4
 have H4:=Lib.hid ((hk4.block (w.heap.size+1) (by have:=HSZ.out;omega) (by omega)).trans H1.out)
 have HK4:=Lib.hid ((Kb.of_below (S:=fun k=>k=mp) HB.out).trans hk4)
 clear hv4 hm4 hk4 x0 HX H1
 generalize hz:pi met t=z at HV4 HM4
 have HZ:=Lib.hid hz
 clear hz
 have r0:=(cellH H4.out 0).trans rfl
 have r1:=(cellH H4.out 1).trans rfl
 have r2:=(cellH H4.out 2).trans rfl
 have r3:=(cellH H4.out 3).trans rfl
 have fr0:=frozenH H4.out 0
 have fr1:=frozenH H4.out 1
 have fr2:=frozenH H4.out 2
 have fr3:=frozenH H4.out 3
 go_wp2_with fail
 clear r0 r1 r2 r3 fr0 fr1 fr2 fr3
 have hk:=kput4 w4 (w.heap.size+1) (.int .i64 z.2.kind) (.string z.2.name) (.int .i64 z.2.var) (.slice y5 y6 y7)
 have hq:=put4 (.int .i64 z.2.kind) (.string z.2.name) (.int .i64 z.2.var) (.slice y5 y6 y7) H4.out
 generalize ((((w4.setCell ⟨w.heap.size+1,0,none⟩ (.int .i64 z.2.kind)).setCell ⟨w.heap.size+1,1,none⟩ (.string z.2.name)).setCell ⟨w.heap.size+1,2,none⟩ (.int .i64 z.2.var)).setCell ⟨w.heap.size+1,3,none⟩ (.slice y5 y6 y7))=W at hk hq ⊢
 have c0:=(cellH hq 0).trans rfl
 have c1:=(cellH hq 1).trans rfl
 have c2:=(cellH hq 2).trans rfl
 have c3:=(cellH hq 3).trans rfl
 exact bodyPost_ret (v:=.agg #[.int .i64 z.2.kind,.string z.2.name,.int .i64 z.2.var,.slice y5 y6 y7]) (by simp [results,Tryd.results68,go_sem,c0,c1,c2,c3]) rfl ⟨_,rfl,by rw [HZ.out];exact TyE.step _ _ _ _ _ _ HV4.out (hk.wider (fun k _ e=>.inr e)) (fun k _ e=>.inl e),by rw [HZ.out];exact HM4.out.kb hk (by omega),HK4.out.join hk (fun j hj e=>by omega)⟩
set_option maxRecDepth 100000 in
set_option maxHeartbeats 4000000 in
theorem eachRenI (d X:Nat) (HC:Hid (CloI d 91)) (Vol:Nat→Prop) (mp:Nat) (met:List Int) (l:List TyT) (v:Value) (w:World) (hv:RowW 4 (TyW d) Vol l v w) (gt:wfTs l) (hM:MetI mp met w) (hmp:Vol mp) (hvl:∀ k,Vol k→k < w.heap.size) (hlen:met.length+sizeTs l≤2000000) (hX:w.heap[X]?=some (.cells #[.map (some mp)] 108 (0,0))) (hXV:¬ Vol X) :
  Calls Tryd.prog 67 #[v,.func (.func 91) #[] #[.pointer (some ⟨X,0,none⟩)]] w fun e w'=>∃ v',e=.returned v'∧RowW 4 TyE Vol (pis met l).2 v' w'∧MetI mp (pis met l).1 w'∧Kb (fun k=>k=mp) w w':=by
 obtain ⟨A,c,rfl⟩:=hv.slice
 have HV:=Lib.hid hv
 have HVL:=Lib.hid hvl
 have HGT:=Lib.hid gt
 have HM:=Lib.hid hM
 have HMP:=Lib.hid hmp
 have HLEN:=Lib.hid hlen
 have HX0:=Lib.hid hX
 have HXV:=Lib.hid hXV
 have hl:l.length≤2000000:=by have:=len_size l;omega
 obtain ⟨i0,hi0,hz0,hz1,hz2⟩:=info_parts infoTy
 have HI0:=Lib.hid hi0
 have HI1:=Lib.hid hz0
 have HI2:=Lib.hid hz1
 have HI3:=Lib.hid hz2
 clear hi0 hz0 hz1 hz2 hv hvl gt hM hmp hlen hX hXV
 go_enter Tryd.func67,Tryd.ntmps67
 go_wp2_with fail
 go_loopw [5,10] (fun v t wr=>∃ (k:Nat) (s':Option Addr) (cap':Nat) (vs:List Value),k≤l.length∧t=.int .i64 k∧v=.slice s' k cap'∧Hid (RowQ Vol mp w wr s' cap' (pis met (l.take k)).2 vs)∧Hid (MetI mp (pis met (l.take k)).1 wr)) (fun _ t _=>l.length - (intOf t).toNat)
 case atStart=>exact ⟨0,none,0,[],Nat.zero_le _,rfl,rfl,Lib.hid (by rw [List.take_zero,pis];exact RowQ.start Vol mp w),Lib.hid (by rw [List.take_zero,pis];exact HM.out)⟩
 case round =>
  obtain ⟨k,s',cap',vs,hk,rfl,rfl,HR,HTK⟩:=hrel
  have hlk:(pis met (l.take k)).2.length=k:=by rw [pis_length,List.length_take];omega
  have HLK:=Lib.hid hlk
  by_cases hlt:k < l.length
  ·have hsl:∀ j,j < w.heap.size→s' ≠ some ⟨j,0,none⟩:=fun j hj e=>by have:=(HR.out.own.lt j (by rw [e];rfl)).1;omega
   obtain ⟨gg,o,vi,rfl,hg,_,hvi,hc⟩:=RowW.at (RowW.step (TyW.step d) Vol (fun k=>Vol k ∨ s'=some ⟨k,0,none⟩) _ _ _ _ HV.out (HR.out.keep.wider (fun k _ (e:k=mp)=>by subst e;exact HMP.out)) (fun j hj e=>e.elim id (fun e=>absurd e (hsl j hj)))) k hlt
   obtain ⟨B1,n1,c1,rfl⟩:=hvi.this
   have a0:=(hc 0 (by decide)).trans rfl
   have a1:=(hc 1 (by decide)).trans rfl
   have a2:=(hc 2 (by decide)).trans rfl
   have a3:=(hc 3 (by decide)).trans rfl
   simp only [cellsL,Value.cells,List.getElem?_cons_zero,List.getElem?_cons_succ,Nat.add_zero] at a0 a1 a2 a3
   have hk0:(0:Int)≤(k:Int):=by omega
   have hk1:(k:Int) < (l.length:Int):=by omega
   have hdc:decide (k < l.length)=true:=by simpa using hlt
   have htk:=pis_take met hlt
   have HBZ:=Lib.hid (below_alloc wr (.cells #[.int .i64 l[k].kind,.string l[k].name,.int .i64 l[k].var,.slice B1 n1 c1] 32))
   have HMN:=Lib.hid (HR.out.mine HVL.out)
   have hXr:=(HBZ.out.block X (Nat.lt_of_lt_of_le (Array.getElem?_eq_some_iff.1 HX0.out).1 HR.out.keep.size)).trans ((HR.out.keep.block X (Array.getElem?_eq_some_iff.1 HX0.out).1 (fun e=>HXV.out (e ▸ HMP.out))).trans HX0.out)
   have HX:=Lib.hid (HC.out _ mp (pis met (l.take k)).1 l[k] _ X _ ((TyW.step d).below hvi HBZ.out) (wfTs_mem HGT.out hlt) (HTK.out.below HBZ.out) (.inl HMP.out) (fun k e=>Nat.lt_of_lt_of_le (HMN.out k e) HBZ.out.size) (by
    have h1:=pis_few met (l.take k)
    have h2:=sizes_take l (k+1)
    rw [List.take_succ_eq_append_getElem hlt,sizes_snoc] at h2
    have:=HLEN.out
    omega) hXr)
   have HXZ:=Lib.hid (Kb.of_below (S:=fun k=>k=mp) HBZ.out)
   have HTKK:=Lib.hid htk
   clear hc hvi hlk hsl hXr htk
   generalize hxx:l[k]=x at HX HTKK HBZ HXZ a0 a1 a2 ⊢
   go_wp2_with (first
    | (go_at_call 91;refine HX.out.mono ?_;rintro e w4 ⟨v4,rfl,hv4,ht4,hk4⟩;obtain ⟨y5,y6,y7,hv4e⟩:=hv4.this;generalize hpl:(pi (pis met (l.take k)).1 x)=z at hv4e hv4 ht4;subst hv4e;have HPL:=Lib.hid hpl;clear hpl;have HV4:=Lib.hid hv4;have HT4:=Lib.hid ht4;have HK4:=Lib.hid (HXZ.out.trans hk4);have HO4:=Lib.hid (own_kb HR.out.own HK4.out (fun k e (e2:k=mp)=>by have:=(HR.out.own.lt k e).1;have:=HVL.out mp HMP.out;omega));have hs4:=HR.out.keep.size;have hs5:=HK4.out.size;rw [HLK.out] at HO4;clear hv4 ht4 hk4)
    | (at_builtin;refine wpList_append_lies _ rfl _ _ 27 rfl w.heap.size 32 i0 (.agg #[.int .i64 0,.string ⟨#[]⟩,.int .i64 0,.slice none 0 0]) 4 56 Tryd.underlying27 HI0.out HI1.out HI2.out HI3.out rfl (by decide) _ _ _ rfl (HO4.out.alloc _) ⟨w4.heap.size,0,none⟩ 1 1 [.int .i64 z.2.kind,.string z.2.name,.int .i64 z.2.var,.slice y5 y6 y7] rfl rfl (cells_new _ #[.int .i64 z.2.kind,.string z.2.name,.int .i64 z.2.var,.slice y5 y6 y7] _ _ rfl) (by simp [Value.oneCell']) (by decide) (by unfold maxLen;omega) (by omega) (by simp;omega) _ rfl ?_;intro g2 cap2 w6 hown6 hg6 hat6 _;have HO6:=Lib.hid hown6;have HG6:=Lib.hid hg6;have HA6:=Lib.hid hat6;clear hown6 hg6 hat6))
   have HNX:Hid (RowQ Vol mp w w6 (some ⟨g2,0,none⟩) cap2 (pis met (l.take (k+1))).2 (vs++[Value.agg #[.int .i64 z.2.kind,.string z.2.name,.int .i64 z.2.var,.slice y5 y6 y7]])):=Lib.hid (by
    rw [HTKK.out,HPL.out]
    exact HR.out.snoc HMP.out HK4.out HV4.out (by rw [HLK.out];exact HO6.out) (by rw [HLK.out];exact HG6.out) (by rw [HLK.out];exact HA6.out))
   have HT6:Hid (MetI mp (pis met (l.take (k+1))).1 w6):=Lib.hid (by
    rw [HTKK.out,HPL.out]
    have h1:=HT4.out.below (below_alloc w4 (.cells #[.int .i64 z.2.kind,.string z.2.name,.int .i64 z.2.var,.slice y5 y6 y7] 32))
    have hg:=HG6.out
    refine h1.kb (S:=fun j=>(Value.slice s' k cap').ownBlock=some j) ⟨hg.os,hg.tape,hg.output,hg.size,fun j hj hn=>hg.block j hj (fun e=>hn e.symm)⟩ (fun e=>?_)
    have h2:=(HO4.out.lt mp e).1
    have:=HVL.out mp HMP.out
    omega)
   go_roundw
   case rel=>exact ⟨k+1,some ⟨g2,0,none⟩,cap2,_,by omega,by go_num,rfl,HNX,HT6⟩
   case measure=>simp [intOf];omega
  ·obtain rfl:k=l.length:=by omega
   have hdc:decide (l.length < l.length)=false:=by simp
   rw [List.take_length] at HR HTK
   go_wp2_with fail
   go_ret
   refine ⟨_,rfl,?_,HTK.out,HR.out.keep⟩
   have h1:=HR.out.held HVL.out
   rw [pis_length] at h1
   exact h1
set_option maxRecDepth 100000 in
set_option maxHeartbeats 4000000 in
theorem eachPlainI (d X:Nat) (HC:Hid (CloI d 68)) (Vol:Nat→Prop) (mp:Nat) (met:List Int) (l:List TyT) (v:Value) (w:World) (hv:RowW 4 (TyW d) Vol l v w) (gt:wfTs l) (hM:MetI mp met w) (hmp:Vol mp) (hvl:∀ k,Vol k→k < w.heap.size) (hlen:met.length+sizeTs l≤2000000) (hX:w.heap[X]?=some (.cells #[.map (some mp)] 108 (0,0))) (hXV:¬ Vol X) :
  Calls Tryd.prog 67 #[v,.func (.func 68) #[] #[.pointer (some ⟨X,0,none⟩)]] w fun e w'=>∃ v',e=.returned v'∧RowW 4 TyE Vol (pis met l).2 v' w'∧MetI mp (pis met l).1 w'∧Kb (fun k=>k=mp) w w':=by
 obtain ⟨A,c,rfl⟩:=hv.slice
 have HV:=Lib.hid hv
 have HVL:=Lib.hid hvl
 have HGT:=Lib.hid gt
 have HM:=Lib.hid hM
 have HMP:=Lib.hid hmp
 have HLEN:=Lib.hid hlen
 have HX0:=Lib.hid hX
 have HXV:=Lib.hid hXV
 have hl:l.length≤2000000:=by have:=len_size l;omega
 obtain ⟨i0,hi0,hz0,hz1,hz2⟩:=info_parts infoTy
 have HI0:=Lib.hid hi0
 have HI1:=Lib.hid hz0
 have HI2:=Lib.hid hz1
 have HI3:=Lib.hid hz2
 clear hi0 hz0 hz1 hz2 hv hvl gt hM hmp hlen hX hXV
 go_enter Tryd.func67,Tryd.ntmps67
 go_wp2_with fail
 go_loopw [5,10] (fun v t wr=>∃ (k:Nat) (s':Option Addr) (cap':Nat) (vs:List Value),k≤l.length∧t=.int .i64 k∧v=.slice s' k cap'∧Hid (RowQ Vol mp w wr s' cap' (pis met (l.take k)).2 vs)∧Hid (MetI mp (pis met (l.take k)).1 wr)) (fun _ t _=>l.length - (intOf t).toNat)
 case atStart=>exact ⟨0,none,0,[],Nat.zero_le _,rfl,rfl,Lib.hid (by rw [List.take_zero,pis];exact RowQ.start Vol mp w),Lib.hid (by rw [List.take_zero,pis];exact HM.out)⟩
 case round =>
  obtain ⟨k,s',cap',vs,hk,rfl,rfl,HR,HTK⟩:=hrel
  have hlk:(pis met (l.take k)).2.length=k:=by rw [pis_length,List.length_take];omega
  have HLK:=Lib.hid hlk
  by_cases hlt:k < l.length
  ·have hsl:∀ j,j < w.heap.size→s' ≠ some ⟨j,0,none⟩:=fun j hj e=>by have:=(HR.out.own.lt j (by rw [e];rfl)).1;omega
   obtain ⟨gg,o,vi,rfl,hg,_,hvi,hc⟩:=RowW.at (RowW.step (TyW.step d) Vol (fun k=>Vol k ∨ s'=some ⟨k,0,none⟩) _ _ _ _ HV.out (HR.out.keep.wider (fun k _ (e:k=mp)=>by subst e;exact HMP.out)) (fun j hj e=>e.elim id (fun e=>absurd e (hsl j hj)))) k hlt
   obtain ⟨B1,n1,c1,rfl⟩:=hvi.this
   have a0:=(hc 0 (by decide)).trans rfl
   have a1:=(hc 1 (by decide)).trans rfl
   have a2:=(hc 2 (by decide)).trans rfl
   have a3:=(hc 3 (by decide)).trans rfl
   simp only [cellsL,Value.cells,List.getElem?_cons_zero,List.getElem?_cons_succ,Nat.add_zero] at a0 a1 a2 a3
   have hk0:(0:Int)≤(k:Int):=by omega
   have hk1:(k:Int) < (l.length:Int):=by omega
   have hdc:decide (k < l.length)=true:=by simpa using hlt
   have htk:=pis_take met hlt
   have HBZ:=Lib.hid (below_alloc wr (.cells #[.int .i64 l[k].kind,.string l[k].name,.int .i64 l[k].var,.slice B1 n1 c1] 32))
   have HMN:=Lib.hid (HR.out.mine HVL.out)
   have hXr:=(HBZ.out.block X (Nat.lt_of_lt_of_le (Array.getElem?_eq_some_iff.1 HX0.out).1 HR.out.keep.size)).trans ((HR.out.keep.block X (Array.getElem?_eq_some_iff.1 HX0.out).1 (fun e=>HXV.out (e ▸ HMP.out))).trans HX0.out)
   have HX:=Lib.hid (HC.out _ mp (pis met (l.take k)).1 l[k] _ X _ ((TyW.step d).below hvi HBZ.out) (wfTs_mem HGT.out hlt) (HTK.out.below HBZ.out) (.inl HMP.out) (fun k e=>Nat.lt_of_lt_of_le (HMN.out k e) HBZ.out.size) (by
    have h1:=pis_few met (l.take k)
    have h2:=sizes_take l (k+1)
    rw [List.take_succ_eq_append_getElem hlt,sizes_snoc] at h2
    have:=HLEN.out
    omega) hXr)
   have HXZ:=Lib.hid (Kb.of_below (S:=fun k=>k=mp) HBZ.out)
   have HTKK:=Lib.hid htk
   clear hc hvi hlk hsl hXr htk
   generalize hxx:l[k]=x at HX HTKK HBZ HXZ a0 a1 a2 ⊢
   go_wp2_with (first
    | (go_at_call 68;refine HX.out.mono ?_;rintro e w4 ⟨v4,rfl,hv4,ht4,hk4⟩;obtain ⟨y5,y6,y7,hv4e⟩:=hv4.this;generalize hpl:(pi (pis met (l.take k)).1 x)=z at hv4e hv4 ht4;subst hv4e;have HPL:=Lib.hid hpl;clear hpl;have HV4:=Lib.hid hv4;have HT4:=Lib.hid ht4;have HK4:=Lib.hid (HXZ.out.trans hk4);have HO4:=Lib.hid (own_kb HR.out.own HK4.out (fun k e (e2:k=mp)=>by have:=(HR.out.own.lt k e).1;have:=HVL.out mp HMP.out;omega));have hs4:=HR.out.keep.size;have hs5:=HK4.out.size;rw [HLK.out] at HO4;clear hv4 ht4 hk4)
    | (at_builtin;refine wpList_append_lies _ rfl _ _ 27 rfl w.heap.size 32 i0 (.agg #[.int .i64 0,.string ⟨#[]⟩,.int .i64 0,.slice none 0 0]) 4 56 Tryd.underlying27 HI0.out HI1.out HI2.out HI3.out rfl (by decide) _ _ _ rfl (HO4.out.alloc _) ⟨w4.heap.size,0,none⟩ 1 1 [.int .i64 z.2.kind,.string z.2.name,.int .i64 z.2.var,.slice y5 y6 y7] rfl rfl (cells_new _ #[.int .i64 z.2.kind,.string z.2.name,.int .i64 z.2.var,.slice y5 y6 y7] _ _ rfl) (by simp [Value.oneCell']) (by decide) (by unfold maxLen;omega) (by omega) (by simp;omega) _ rfl ?_;intro g2 cap2 w6 hown6 hg6 hat6 _;have HO6:=Lib.hid hown6;have HG6:=Lib.hid hg6;have HA6:=Lib.hid hat6;clear hown6 hg6 hat6))
   have HNX:Hid (RowQ Vol mp w w6 (some ⟨g2,0,none⟩) cap2 (pis met (l.take (k+1))).2 (vs++[Value.agg #[.int .i64 z.2.kind,.string z.2.name,.int .i64 z.2.var,.slice y5 y6 y7]])):=Lib.hid (by
    rw [HTKK.out,HPL.out]
    exact HR.out.snoc HMP.out HK4.out HV4.out (by rw [HLK.out];exact HO6.out) (by rw [HLK.out];exact HG6.out) (by rw [HLK.out];exact HA6.out))
   have HT6:Hid (MetI mp (pis met (l.take (k+1))).1 w6):=Lib.hid (by
    rw [HTKK.out,HPL.out]
    have h1:=HT4.out.below (below_alloc w4 (.cells #[.int .i64 z.2.kind,.string z.2.name,.int .i64 z.2.var,.slice y5 y6 y7] 32))
    have hg:=HG6.out
    refine h1.kb (S:=fun j=>(Value.slice s' k cap').ownBlock=some j) ⟨hg.os,hg.tape,hg.output,hg.size,fun j hj hn=>hg.block j hj (fun e=>hn e.symm)⟩ (fun e=>?_)
    have h2:=(HO4.out.lt mp e).1
    have:=HVL.out mp HMP.out
    omega)
   go_roundw
   case rel=>exact ⟨k+1,some ⟨g2,0,none⟩,cap2,_,by omega,by go_num,rfl,HNX,HT6⟩
   case measure=>simp [intOf];omega
  ·obtain rfl:k=l.length:=by omega
   have hdc:decide (l.length < l.length)=false:=by simp
   rw [List.take_length] at HR HTK
   go_wp2_with fail
   go_ret
   refine ⟨_,rfl,?_,HTK.out,HR.out.keep⟩
   have h1:=HR.out.held HVL.out
   rw [pis_length] at h1
   exact h1
end
theorem runLookI (mp:Nat) (met:List Int) (i:Int) (W:World) (h:MetI mp met W) (hi:wfI i):(Instr.lookup 108 (.map (some mp)) (.int .i64 i) true).run Tryd.prog W=if i ∈ met then .ok (.tuple #[.int .i64 ((posI i met:Nat):Int),.bool true]) W else .ok (.tuple #[.int .i64 0,.bool false]) W:=by
 obtain ⟨kl,hkl⟩:=keyI (n:=i) hi
 rcases h.1.look keyInt Tryd.underlying108 (zeroInt _) hkl with ⟨h1,h2⟩ | ⟨v,h1,h2⟩
 ·rw [if_neg (fun hin=>by
   obtain ⟨v,hv⟩:=entI_in hin
   exact h1 _ hv rfl)]
  exact h2
 ·obtain ⟨h3,rfl⟩:=entI_mem h1 h.2.1
  rw [if_pos h3]
  exact h2
theorem runPutI (mp:Nat) (met:List Int) (i:Int) (W:World) (h:MetI mp met W) (hi:wfI i) (hin:i ∉ met) (hlen:met.length < 2000000):∃ W1,(Instr.mapUpdate 108 (.map (some mp)) (.int .i64 i) (.int .i64 (met.length:Int))).run Tryd.prog W=.ok () W1∧MetI mp (met++[i]) W1∧Kb (fun k=>k=mp) W W1:=by
 obtain ⟨kl,hkl⟩:=keyI (n:=i) hi
 obtain ⟨W1,h1,h2,h3⟩:=h.1.put keyInt Tryd.underlying108 hkl (val:=.int .i64 (met.length:Int)) (fun p hp e=>by
  obtain ⟨k,v⟩:=p
  have e:k=.int .i64 i:=e
  subst e
  exact hin (entI_mem hp h.2.1).1)
 refine ⟨W1,h1,⟨by rw [entI_snoc];exact h2,?_,by simp;omega⟩,h3⟩
 rw [List.nodup_append]
 exact ⟨h.2.1,by simp,fun a ha b hb=>by
  rw [List.mem_singleton.1 hb]
  intro e
  exact hin (e ▸ ha)⟩
section
set_option maxRecDepth 100000 in
set_option maxHeartbeats 4000000 in
theorem ren_stepI (d:Nat) (HC:Hid (∀ d',d'≤d→RenI d')):RenI (d+1):=by
 intro Vol mp met t v w hv gt hM hmp hvl hlen
 obtain ⟨A,l,c,rfl⟩:=hv.this
 obtain ⟨d',hrow⟩:=hv.row
 obtain rfl:=hrow.len
 have hd':RowW 4 (TyW d) Vol t.args (.slice A t.args.length c) w:=by
  obtain ⟨k,s,n,l⟩:=t
  obtain ⟨va,e,h1⟩:=hv
  injection e with e
  have e2:=congrArg (fun a:Array Value=>a[3]?) e
  have e3:(.slice A (TyT.mk k s n l).args.length c:Value)=va:=by simpa using e2
  exact e3 ▸ h1
 have hB:Below w.heap.size w (((w.alloc (.cells #[.int .i64 t.kind,.string t.name,.int .i64 t.var,.slice A t.args.length c] 32)).alloc (.cells #[.map (some mp)] 108)).alloc (.cells #[.int .i64 0,.string ⟨#[]⟩,.int .i64 0,.slice none 0 0] 32)):=((below_alloc _ _).alloc (by simp) _).alloc (by simp;omega) _
 have hsz:(((w.alloc (.cells #[.int .i64 t.kind,.string t.name,.int .i64 t.var,.slice A t.args.length c] 32)).alloc (.cells #[.map (some mp)] 108)).alloc (.cells #[.int .i64 0,.string ⟨#[]⟩,.int .i64 0,.slice none 0 0] 32)).heap.size=w.heap.size+3:=by simp
 have h0:(((w.alloc (.cells #[.int .i64 t.kind,.string t.name,.int .i64 t.var,.slice A t.args.length c] 32)).alloc (.cells #[.map (some mp)] 108)).alloc (.cells #[.int .i64 0,.string ⟨#[]⟩,.int .i64 0,.slice none 0 0] 32)).heap[w.heap.size]?=some (.cells #[.int .i64 t.kind,.string t.name,.int .i64 t.var,.slice A t.args.length c] 32 (0,0)):=(Below.heap_alloc _ _ w.heap.size (by simp;omega)).trans ((Below.heap_alloc _ _ w.heap.size (by simp)).trans (heap_alloc_new _ _))
 have h1:(((w.alloc (.cells #[.int .i64 t.kind,.string t.name,.int .i64 t.var,.slice A t.args.length c] 32)).alloc (.cells #[.map (some mp)] 108)).alloc (.cells #[.int .i64 0,.string ⟨#[]⟩,.int .i64 0,.slice none 0 0] 32)).heap[w.heap.size+1]?=some (.cells #[.map (some mp)] 108 (0,0)):=(Below.heap_alloc _ _ (w.heap.size+1) (by simp)).trans (by
  have:=heap_alloc_new (w.alloc (.cells #[.int .i64 t.kind,.string t.name,.int .i64 t.var,.slice A t.args.length c] 32)) (.cells #[.map (some mp)] 108)
  simpa using this)
 have h2:(((w.alloc (.cells #[.int .i64 t.kind,.string t.name,.int .i64 t.var,.slice A t.args.length c] 32)).alloc (.cells #[.map (some mp)] 108)).alloc (.cells #[.int .i64 0,.string ⟨#[]⟩,.int .i64 0,.slice none 0 0] 32)).heap[w.heap.size+2]?=some (.cells #[.int .i64 0,.string ⟨#[]⟩,.int .i64 0,.slice none 0 0] 32 (0,0)):=by
  have:=heap_alloc_new ((w.alloc (.cells #[.int .i64 t.kind,.string t.name,.int .i64 t.var,.slice A t.args.length c] 32)).alloc (.cells #[.map (some mp)] 108)) (.cells #[.int .i64 0,.string ⟨#[]⟩,.int .i64 0,.slice none 0 0] 32)
  simpa using this
 have hback:∀ k,k < w.heap.size→(Vol k ∨ k=w.heap.size ∨ k=w.heap.size+2)→Vol k:=fun k hk e=>by
  rcases e with e | e | e
  ·exact e
  ·omega
  ·omega
 have HVL3:Hid (∀ W:World,w.heap.size+3≤W.heap.size→∀ k,(Vol k ∨ k=w.heap.size ∨ k=w.heap.size+2)→k < W.heap.size):=Lib.hid (fun W h k e=>by
  rcases e with e | e | e
  ·have:=hvl k e;omega
  ·omega
  ·omega)
 have HML:=Lib.hid (hvl mp hmp)
 have HMP:=Lib.hid hmp
 have HNX:Hid (¬ (Vol (w.heap.size+1) ∨ w.heap.size+1=w.heap.size ∨ w.heap.size+1=w.heap.size+2)):=Lib.hid (fun e=>by
  rcases e with e | e | e
  ·have:=hvl _ e;omega
  ·omega
  ·omega)
 have HB:=Lib.hid hB
 have HY0:=Lib.hid h0
 have HY1:=Lib.hid h1
 have HY2:=Lib.hid h2
 have HVY:=Lib.hid (RowW.step (TyW.step d) _ (fun k=>Vol k ∨ k=w.heap.size ∨ k=w.heap.size+2) _ _ _ _ hd' (Kb.of_below hB) hback)
 have HMY:=Lib.hid (hM.below hB)
 have HSZY:=Lib.hid (Nat.le_of_eq hsz.symm)
 have HGT:=Lib.hid gt
 have HLN:=Lib.hid hlen
 clear hv hrow hd' hM hmp hvl hlen hB hsz h0 h1 h2 hback
 by_cases k4:t.kind=4
 ·have e4:(t.kind == 4)=true:=by simpa using k4
  have hwi:wfI t.var:=wfT_var gt
  have HGA:Hid (wfTs t.args):=Lib.hid (wfT_args gt)
  have hlk:=runLookI mp met t.var (((w.alloc (.cells #[.int .i64 t.kind,.string t.name,.int .i64 t.var,.slice A t.args.length c] 32)).alloc (.cells #[.map (some mp)] 108)).alloc (.cells #[.int .i64 0,.string ⟨#[]⟩,.int .i64 0,.slice none 0 0] 32)) HMY.out hwi
  by_cases hin:t.var ∈ met
  ·rw [if_pos hin] at hlk
   have hpl:pi met t=((pis met t.args).1,.mk t.kind t.name ((posI t.var met:Nat):Int) (pis met t.args).2):=by
    obtain ⟨k,s,n,l⟩:=t
    have k4:k=4:=k4
    have hin:n ∈ met:=hin
    subst k4
    have hm:meet met n=met:=if_pos hin
    rw [pi_eq,hm]
    rfl
   have HLEN1:Hid (met.length+sizeTs t.args≤2000000):=Lib.hid (by
    have h1:=HLN.out
    rw [size_args] at h1
    omega)
   have HPL:=Lib.hid hpl
   clear gt k4 hpl hwi
   generalize ((posI t.var met:Nat):Int)=p1 at hlk HPL
   clear hin
   go_enter Tryd.func69,Tryd.ntmps69
   go_upto_region 1 with fail
   generalize (((w.alloc (.cells #[.int .i64 t.kind,.string t.name,.int .i64 t.var,.slice A t.args.length c] 32)).alloc (.cells #[.map (some mp)] 108)).alloc (.cells #[.int .i64 0,.string ⟨#[]⟩,.int .i64 0,.slice none 0 0] 32))=Y at HB HY0 HY1 HY2 HVY HMY HSZY hlk ⊢
   have a0:=(cellH HY0.out 0).trans rfl
   have a1:=(cellH HY0.out 1).trans rfl
   have a2:=(cellH HY0.out 2).trans rfl
   have a3:=(cellH HY0.out 3).trans rfl
   have f2:=frozenH HY0.out 2
   have m0:=(cellH HY1.out 0).trans rfl
   have hq:=blk_put Y w.heap.size 2 (.int .i64 p1) HY0.out (by show 2 < 4;decide)
   have hk:=(Kb.refl (fun k=>k=w.heap.size) Y).put (p:=⟨w.heap.size,2,none⟩) rfl (.int .i64 p1)
   have y3:=(cellH hq 3).trans rfl
   go_wp2_with fail
   generalize (Y.setCell ⟨w.heap.size,2,none⟩ (.int .i64 p1))=Z at hq hk y3 ⊢
   have HSZ:=Lib.hid (Nat.le_trans HSZY.out hk.size)
   have HZ0:Hid (Z.heap[w.heap.size]?=some (.cells #[.int .i64 t.kind,.string t.name,.int .i64 p1,.slice A t.args.length c] 32 (0,0))):=Lib.hid hq
   have HZ1:=Lib.hid ((hk.block (w.heap.size+1) (by have:=HSZY.out;omega) (by omega)).trans HY1.out)
   have HZ2:=Lib.hid ((hk.block (w.heap.size+2) (by have:=HSZY.out;omega) (by omega)).trans HY2.out)
   have HVZ:=Lib.hid (RowW.step (TyW.step d) _ (fun k=>Vol k ∨ k=w.heap.size ∨ k=w.heap.size+2) _ _ _ _ HVY.out (hk.wider (fun k _ e=>.inr (.inl e))) (fun _ _ e=>e))
   have HMZ:=Lib.hid (HMY.out.kb hk (fun e=>by have:=HML.out;omega))
   have HKZ:=Lib.hid ((Kb.of_below (S:=fun k=>k=mp) HB.out).join hk (fun j hj e=>by omega))
   clear hq hk
   have hpl:=HPL.out
   have HEQ:=Lib.hid hpl
   clear hpl
   refine (eachRenI d (w.heap.size+1) (Lib.hid (clo_renI d (Lib.hid (HC.out d (Nat.le_refl _))))) (fun k=>Vol k ∨ k=w.heap.size ∨ k=w.heap.size+2) mp met t.args _ Z HVZ.out HGA.out HMZ.out (.inl HMP.out) (HVL3.out Z HSZ.out) HLEN1.out HZ1.out HNX.out).mono ?_
   rintro e w5 ⟨v5,rfl,hv5,hm5,hk5⟩
   obtain ⟨A5,c5,hve⟩:=hv5.slice
   generalize hl5:(pis met t.args).2.length=l5 at hve
   subst hve
   have HV5:=Lib.hid hv5
   have HM5:=Lib.hid hm5
   have HB5:=Lib.hid ((hk5.block w.heap.size (by have:=HSZ.out;omega) (by have:=HML.out;omega)).trans HZ0.out)
   have HR5:=Lib.hid ((hk5.block (w.heap.size+2) (by have:=HSZ.out;omega) (by have:=HML.out;omega)).trans HZ2.out)
   have HK5:=Lib.hid (HKZ.out.trans hk5)
   have HSZ5:=Lib.hid (show w.heap.size+3≤w5.heap.size by have:=HSZ.out;have:=hk5.size;omega)
   clear hv5 hm5 hk5 hl5 a0 a1 a2 a3 m0 f2
   have x0:=(cellH HB5.out 0).trans rfl
   have x1:=(cellH HB5.out 1).trans rfl
   have x2:=(cellH HB5.out 2).trans rfl
   have x3:=(cellH HB5.out 3).trans rfl
   have fx3:=frozenH HB5.out 3
   have r0:=(cellH HR5.out 0).trans rfl
   have r1:=(cellH HR5.out 1).trans rfl
   have r2:=(cellH HR5.out 2).trans rfl
   have r3:=(cellH HR5.out 3).trans rfl
   have fr0:=frozenH HR5.out 0
   have fr1:=frozenH HR5.out 1
   have fr2:=frozenH HR5.out 2
   have fr3:=frozenH HR5.out 3
   go_wp2_with fail
   have hr':=(Below.heap_setCell w5 ⟨w.heap.size,3,none⟩ (.slice A5 l5 c5) (w.heap.size+2) (by show w.heap.size+2 ≠ w.heap.size;omega)).trans HR5.out
   have hq2:=put4 (.int .i64 t.kind) (.string t.name) (.int .i64 p1) (.slice A5 l5 c5) hr'
   have hk2:=((Kb.refl (fun j=>j=w.heap.size ∨ j=w.heap.size+2) w5).put (p:=⟨w.heap.size,3,none⟩) (.inl rfl) (.slice A5 l5 c5)).trans ((kput4 (w5.setCell ⟨w.heap.size,3,none⟩ (.slice A5 l5 c5)) (w.heap.size+2) (.int .i64 t.kind) (.string t.name) (.int .i64 p1) (.slice A5 l5 c5)).wider (fun k _ e=>.inr e))
   clear x0 x1 x2 x3 fx3 r0 r1 r2 r3 fr0 fr1 fr2 fr3 hr'
   generalize (((((w5.setCell ⟨w.heap.size,3,none⟩ (.slice A5 l5 c5)).setCell ⟨w.heap.size+2,0,none⟩ (.int .i64 t.kind)).setCell ⟨w.heap.size+2,1,none⟩ (.string t.name)).setCell ⟨w.heap.size+2,2,none⟩ (.int .i64 p1)).setCell ⟨w.heap.size+2,3,none⟩ (.slice A5 l5 c5))=W at hq2 hk2 ⊢
   have c0:=(cellH hq2 0).trans rfl
   have c1:=(cellH hq2 1).trans rfl
   have c2':=(cellH hq2 2).trans rfl
   have c3:=(cellH hq2 3).trans rfl
   have hml:=HML.out
   refine bodyPost_ret (v:=.agg #[.int .i64 t.kind,.string t.name,.int .i64 p1,.slice A5 l5 c5]) (by simp [results,Tryd.results69,go_sem,c0,c1,c2',c3]) rfl ⟨_,rfl,?_,?_,?_⟩
   ·rw [HEQ.out]
    obtain ⟨D,hD⟩:=rowE (RowW.step TyE.step _ Vol _ _ _ _ HV5.out (hk2.wider (fun k _ e=>.inr e)) (fun k _ e=>.inl e))
    exact ⟨D+1,_,rfl,hD⟩
   ·rw [HEQ.out]
    exact HM5.out.kb hk2 (by omega)
   ·exact HK5.out.join hk2 (fun j hj e=>by omega)
  ·rw [if_neg hin] at hlk
   obtain ⟨es,clock,hobj,hes⟩:=HMY.out.obj
   obtain ⟨W1,hup,hmW,hkW⟩:=runPutI mp met t.var (((w.alloc (.cells #[.int .i64 t.kind,.string t.name,.int .i64 t.var,.slice A t.args.length c] 32)).alloc (.cells #[.map (some mp)] 108)).alloc (.cells #[.int .i64 0,.string ⟨#[]⟩,.int .i64 0,.slice none 0 0] 32)) HMY.out hwi hin (by
    have h1:=HLN.out
    have h2:=size_pos t
    omega)
   rw [← hes] at hup
   have hpl:pi met t=((pis (met++[t.var]) t.args).1,.mk t.kind t.name (es.size:Int) (pis (met++[t.var]) t.args).2):=by
    rw [hes]
    obtain ⟨k,s,n,l⟩:=t
    have k4:k=4:=k4
    have hin:¬ n ∈ met:=hin
    subst k4
    have hm:meet met n=met++[n]:=if_neg hin
    rw [pi_eq,hm,posI_new n met hin]
    rfl
   have HLEN1:Hid ((met++[t.var]).length+sizeTs t.args≤2000000):=Lib.hid (by
    have h1:=HLN.out
    rw [size_args] at h1
    rw [List.length_append]
    show met.length+1+_≤_
    omega)
   have HPL:=Lib.hid hpl
   have HMW:=Lib.hid hmW
   have HKW:=Lib.hid hkW
   clear gt k4 hpl hwi hmW hes
   clear hin hkW
   go_enter Tryd.func69,Tryd.ntmps69
   go_upto_region 1 with fail
   generalize (((w.alloc (.cells #[.int .i64 t.kind,.string t.name,.int .i64 t.var,.slice A t.args.length c] 32)).alloc (.cells #[.map (some mp)] 108)).alloc (.cells #[.int .i64 0,.string ⟨#[]⟩,.int .i64 0,.slice none 0 0] 32))=Y at HB HY0 HY1 HY2 HVY HMY HSZY HKW hlk hup hobj ⊢
   have a0:=(cellH HY0.out 0).trans rfl
   have a2:=(cellH HY0.out 2).trans rfl
   have m0:=(cellH HY1.out 0).trans rfl
   have hln:∀ ty,(Builtin.len_ #[108] ty #[.map (some mp)]).run Tryd.prog Y=.ok (goInt es.size) Y:=fun ty=>run_len_map _ _ _ _ _ clock (by kernel_rfl) hobj
   have hgi:goInt es.size=.int .i64 (es.size:Int):=rfl
   have HW0:=Lib.hid ((HKW.out.block w.heap.size (by have:=HSZY.out;omega) (by have:=HML.out;omega)).trans HY0.out)
   have HW1:=Lib.hid ((HKW.out.block (w.heap.size+1) (by have:=HSZY.out;omega) (by have:=HML.out;omega)).trans HY1.out)
   have HW2:=Lib.hid ((HKW.out.block (w.heap.size+2) (by have:=HSZY.out;omega) (by have:=HML.out;omega)).trans HY2.out)
   have HSW:=Lib.hid (Nat.le_trans HSZY.out HKW.out.size)
   have a1:=(cellH HW0.out 2).trans rfl
   have a3:=(cellH HW0.out 3).trans rfl
   have f2:=frozenH HW0.out 2
   have hq:=blk_put W1 w.heap.size 2 (.int .i64 (es.size:Int)) HW0.out (by show 2 < 4;decide)
   have hk:=(Kb.refl (fun k=>k=w.heap.size) W1).put (p:=⟨w.heap.size,2,none⟩) rfl (.int .i64 (es.size:Int))
   have y3:=(cellH hq 3).trans rfl
   go_wp2_with fail
   generalize (W1.setCell ⟨w.heap.size,2,none⟩ (.int .i64 (es.size:Int)))=Z at hq hk y3 ⊢
   have HSZ:=Lib.hid (Nat.le_trans HSW.out hk.size)
   have HZ0:Hid (Z.heap[w.heap.size]?=some (.cells #[.int .i64 t.kind,.string t.name,.int .i64 (es.size:Int),.slice A t.args.length c] 32 (0,0))):=Lib.hid hq
   have HZ1:=Lib.hid ((hk.block (w.heap.size+1) (by have:=HSW.out;omega) (by omega)).trans HW1.out)
   have HZ2:=Lib.hid ((hk.block (w.heap.size+2) (by have:=HSW.out;omega) (by omega)).trans HW2.out)
   have HVZ:=Lib.hid (RowW.step (TyW.step d) _ (fun k=>Vol k ∨ k=w.heap.size ∨ k=w.heap.size+2) _ _ _ _ (RowW.step (TyW.step d) _ (fun k=>Vol k ∨ k=w.heap.size ∨ k=w.heap.size+2) _ _ _ _ HVY.out (HKW.out.wider (fun k _ (e:k=mp)=>.inl (by subst e;exact HMP.out))) (fun _ _ e=>e)) (hk.wider (fun k _ e=>.inr (.inl e))) (fun _ _ e=>e))
   have HMZ:=Lib.hid (HMW.out.kb hk (fun e=>by have:=HML.out;omega))
   have HKZ:=Lib.hid (((Kb.of_below (S:=fun k=>k=mp) HB.out).trans HKW.out).join hk (fun j hj e=>by omega))
   clear hq hk hobj hup hlk hln hgi
   have hpl:=HPL.out
   have HEQ:=Lib.hid hpl
   clear hpl
   refine (eachRenI d (w.heap.size+1) (Lib.hid (clo_renI d (Lib.hid (HC.out d (Nat.le_refl _))))) (fun k=>Vol k ∨ k=w.heap.size ∨ k=w.heap.size+2) mp (met++[t.var]) t.args _ Z HVZ.out HGA.out HMZ.out (.inl HMP.out) (HVL3.out Z HSZ.out) HLEN1.out HZ1.out HNX.out).mono ?_
   rintro e w5 ⟨v5,rfl,hv5,hm5,hk5⟩
   obtain ⟨A5,c5,hve⟩:=hv5.slice
   generalize hl5:(pis (met++[t.var]) t.args).2.length=l5 at hve
   subst hve
   have HV5:=Lib.hid hv5
   have HM5:=Lib.hid hm5
   have HB5:=Lib.hid ((hk5.block w.heap.size (by have:=HSZ.out;omega) (by have:=HML.out;omega)).trans HZ0.out)
   have HR5:=Lib.hid ((hk5.block (w.heap.size+2) (by have:=HSZ.out;omega) (by have:=HML.out;omega)).trans HZ2.out)
   have HK5:=Lib.hid (HKZ.out.trans hk5)
   have HSZ5:=Lib.hid (show w.heap.size+3≤w5.heap.size by have:=HSZ.out;have:=hk5.size;omega)
   clear hv5 hm5 hk5 hl5 a0 a1 a2 a3 m0 f2
   have x0:=(cellH HB5.out 0).trans rfl
   have x1:=(cellH HB5.out 1).trans rfl
   have x2:=(cellH HB5.out 2).trans rfl
   have x3:=(cellH HB5.out 3).trans rfl
   have fx3:=frozenH HB5.out 3
   have r0:=(cellH HR5.out 0).trans rfl
   have r1:=(cellH HR5.out 1).trans rfl
   have r2:=(cellH HR5.out 2).trans rfl
   have r3:=(cellH HR5.out 3).trans rfl
   have fr0:=frozenH HR5.out 0
   have fr1:=frozenH HR5.out 1
   have fr2:=frozenH HR5.out 2
   have fr3:=frozenH HR5.out 3
   go_wp2_with fail
   have hr':=(Below.heap_setCell w5 ⟨w.heap.size,3,none⟩ (.slice A5 l5 c5) (w.heap.size+2) (by show w.heap.size+2 ≠ w.heap.size;omega)).trans HR5.out
   have hq2:=put4 (.int .i64 t.kind) (.string t.name) (.int .i64 (es.size:Int)) (.slice A5 l5 c5) hr'
   have hk2:=((Kb.refl (fun j=>j=w.heap.size ∨ j=w.heap.size+2) w5).put (p:=⟨w.heap.size,3,none⟩) (.inl rfl) (.slice A5 l5 c5)).trans ((kput4 (w5.setCell ⟨w.heap.size,3,none⟩ (.slice A5 l5 c5)) (w.heap.size+2) (.int .i64 t.kind) (.string t.name) (.int .i64 (es.size:Int)) (.slice A5 l5 c5)).wider (fun k _ e=>.inr e))
   clear x0 x1 x2 x3 fx3 r0 r1 r2 r3 fr0 fr1 fr2 fr3 hr'
   generalize (((((w5.setCell ⟨w.heap.size,3,none⟩ (.slice A5 l5 c5)).setCell ⟨w.heap.size+2,0,none⟩ (.int .i64 t.kind)).setCell ⟨w.heap.size+2,1,none⟩ (.string t.name)).setCell ⟨w.heap.size+2,2,none⟩ (.int .i64 (es.size:Int))).setCell ⟨w.heap.size+2,3,none⟩ (.slice A5 l5 c5))=W at hq2 hk2 ⊢
   have c0:=(cellH hq2 0).trans rfl
   have c1:=(cellH hq2 1).trans rfl
   have c2':=(cellH hq2 2).trans rfl
   have c3:=(cellH hq2 3).trans rfl
   have hml:=HML.out
   refine bodyPost_ret (v:=.agg #[.int .i64 t.kind,.string t.name,.int .i64 (es.size:Int),.slice A5 l5 c5]) (by simp [results,Tryd.results69,go_sem,c0,c1,c2',c3]) rfl ⟨_,rfl,?_,?_,?_⟩
   ·rw [HEQ.out]
    obtain ⟨D,hD⟩:=rowE (RowW.step TyE.step _ Vol _ _ _ _ HV5.out (hk2.wider (fun k _ e=>.inr e)) (fun k _ e=>.inl e))
    exact ⟨D+1,_,rfl,hD⟩
   ·rw [HEQ.out]
    exact HM5.out.kb hk2 (by omega)
   ·exact HK5.out.join hk2 (fun j hj e=>by omega)
 ·have e4:(t.kind == 4)=false:=by simpa using k4
  have HGA:Hid (wfTs t.args):=Lib.hid (wfT_args gt)
  have hpl:pi met t=((pis met t.args).1,.mk t.kind t.name t.var (pis met t.args).2):=by
   obtain ⟨k,s,n,l⟩:=t
   exact pi_ne met s n l k4
  have HLEN1:Hid (met.length+sizeTs t.args≤2000000):=Lib.hid (by
   have h1:=HLN.out
   obtain ⟨k,s,n,l⟩:=t
   rw [sizeT] at h1
   show met.length+sizeTs l≤_
   omega)
  have HPL:=Lib.hid hpl
  clear gt k4 hpl
  go_enter Tryd.func69,Tryd.ntmps69
  go_upto_region 1 with fail
  generalize (((w.alloc (.cells #[.int .i64 t.kind,.string t.name,.int .i64 t.var,.slice A t.args.length c] 32)).alloc (.cells #[.map (some mp)] 108)).alloc (.cells #[.int .i64 0,.string ⟨#[]⟩,.int .i64 0,.slice none 0 0] 32))=Y at HB HY0 HY1 HY2 HVY HMY HSZY ⊢
  have a0:=(cellH HY0.out 0).trans rfl
  have a1:=(cellH HY0.out 1).trans rfl
  have a2:=(cellH HY0.out 2).trans rfl
  have a3:=(cellH HY0.out 3).trans rfl
  have f2:=frozenH HY0.out 2
  have m0:=(cellH HY1.out 0).trans rfl
  go_wp2_with fail
  have HSZ:=HSZY
  have HZ0:=HY0
  have HZ1:=HY1
  have HZ2:=HY2
  have HVZ:=HVY
  have HMZ:=HMY
  have HKZ:=Lib.hid (Kb.of_below (S:=fun k=>k=mp) HB.out)
  have hpl:=HPL.out
  have HEQ:=Lib.hid hpl
  clear hpl
  refine (eachRenI d (w.heap.size+1) (Lib.hid (clo_renI d (Lib.hid (HC.out d (Nat.le_refl _))))) (fun k=>Vol k ∨ k=w.heap.size ∨ k=w.heap.size+2) mp met t.args _ Y HVZ.out HGA.out HMZ.out (.inl HMP.out) (HVL3.out Y HSZ.out) HLEN1.out HZ1.out HNX.out).mono ?_
  rintro e w5 ⟨v5,rfl,hv5,hm5,hk5⟩
  obtain ⟨A5,c5,hve⟩:=hv5.slice
  generalize hl5:(pis met t.args).2.length=l5 at hve
  subst hve
  have HV5:=Lib.hid hv5
  have HM5:=Lib.hid hm5
  have HB5:=Lib.hid ((hk5.block w.heap.size (by have:=HSZ.out;omega) (by have:=HML.out;omega)).trans HZ0.out)
  have HR5:=Lib.hid ((hk5.block (w.heap.size+2) (by have:=HSZ.out;omega) (by have:=HML.out;omega)).trans HZ2.out)
  have HK5:=Lib.hid (HKZ.out.trans hk5)
  have HSZ5:=Lib.hid (show w.heap.size+3≤w5.heap.size by have:=HSZ.out;have:=hk5.size;omega)
  clear hv5 hm5 hk5 hl5 a0 a1 a2 a3 m0 f2
  have x0:=(cellH HB5.out 0).trans rfl
  have x1:=(cellH HB5.out 1).trans rfl
  have x2:=(cellH HB5.out 2).trans rfl
  have x3:=(cellH HB5.out 3).trans rfl
  have fx3:=frozenH HB5.out 3
  have r0:=(cellH HR5.out 0).trans rfl
  have r1:=(cellH HR5.out 1).trans rfl
  have r2:=(cellH HR5.out 2).trans rfl
  have r3:=(cellH HR5.out 3).trans rfl
  have fr0:=frozenH HR5.out 0
  have fr1:=frozenH HR5.out 1
  have fr2:=frozenH HR5.out 2
  have fr3:=frozenH HR5.out 3
  go_wp2_with fail
  have hr':=(Below.heap_setCell w5 ⟨w.heap.size,3,none⟩ (.slice A5 l5 c5) (w.heap.size+2) (by show w.heap.size+2 ≠ w.heap.size;omega)).trans HR5.out
  have hq2:=put4 (.int .i64 t.kind) (.string t.name) (.int .i64 t.var) (.slice A5 l5 c5) hr'
  have hk2:=((Kb.refl (fun j=>j=w.heap.size ∨ j=w.heap.size+2) w5).put (p:=⟨w.heap.size,3,none⟩) (.inl rfl) (.slice A5 l5 c5)).trans ((kput4 (w5.setCell ⟨w.heap.size,3,none⟩ (.slice A5 l5 c5)) (w.heap.size+2) (.int .i64 t.kind) (.string t.name) (.int .i64 t.var) (.slice A5 l5 c5)).wider (fun k _ e=>.inr e))
  clear x0 x1 x2 x3 fx3 r0 r1 r2 r3 fr0 fr1 fr2 fr3 hr'
  generalize (((((w5.setCell ⟨w.heap.size,3,none⟩ (.slice A5 l5 c5)).setCell ⟨w.heap.size+2,0,none⟩ (.int .i64 t.kind)).setCell ⟨w.heap.size+2,1,none⟩ (.string t.name)).setCell ⟨w.heap.size+2,2,none⟩ (.int .i64 t.var)).setCell ⟨w.heap.size+2,3,none⟩ (.slice A5 l5 c5))=W at hq2 hk2 ⊢
  have c0:=(cellH hq2 0).trans rfl
  have c1:=(cellH hq2 1).trans rfl
  have c2':=(cellH hq2 2).trans rfl
  have c3:=(cellH hq2 3).trans rfl
  have hml:=HML.out
  refine bodyPost_ret (v:=.agg #[.int .i64 t.kind,.string t.name,.int .i64 t.var,.slice A5 l5 c5]) (by simp [results,Tryd.results69,go_sem,c0,c1,c2',c3]) rfl ⟨_,rfl,?_,?_,?_⟩
  ·rw [HEQ.out]
   obtain ⟨D,hD⟩:=rowE (RowW.step TyE.step _ Vol _ _ _ _ HV5.out (hk2.wider (fun k _ e=>.inr e)) (fun k _ e=>.inl e))
   exact ⟨D+1,_,rfl,hD⟩
  ·rw [HEQ.out]
   exact HM5.out.kb hk2 (by omega)
  ·exact HK5.out.join hk2 (fun j hj e=>by omega)
theorem ren_anyI:∀ d,RenI d
 | 0=>fun _ _ _ _ _ _ h _ _ _ _ _=>by exact h.elim
 | d+1=>ren_stepI d (Lib.hid (fun d' _=>ren_anyI d'))
set_option maxRecDepth 100000 in
/-- Plain of types without strange unknowns. -/
theorem plain_anyI (d:Nat) (Vol:Nat→Prop) (l:List TyT) (v:Value) (w:World) (hv:RowW 4 (TyW d) Vol l v w) (gt:wfTs l) (hvl:∀ k,Vol k→k < w.heap.size) (hlen:sizeTs l≤2000000) :
  Calls Tryd.prog 32 #[v] w fun e w'=>∃ v',e=.returned v'∧RowW 4 TyE Vol (pis [] l).2 v' w'∧Below w.heap.size w w':=by
 obtain ⟨A,c,rfl⟩:=hv.slice
 have hb1:Below w.heap.size w (w.alloc (.map #[] 0)):=below_alloc _ _
 have hz1:(w.alloc (.map #[] 0)).heap.size=w.heap.size+1:=by simp
 have hm1:MetI w.heap.size [] (w.alloc (.map #[] 0)):=⟨by rw [show entI []=[] from rfl];exact MapB.made w,List.nodup_nil,by simp⟩
 have hb2:=below_alloc (w.alloc (.map #[] 0)) (.cells #[.map (some w.heap.size)] 108)
 have hX:=heap_alloc_new (w.alloc (.map #[] 0)) (.cells #[.map (some w.heap.size)] 108)
 have hb:=hb1.trans (hb2.mono hb1.size)
 rw [hz1] at hX
 have HE:=Lib.hid (eachPlainI d (w.heap.size+1) (Lib.hid (clo_plainI d (Lib.hid (ren_anyI d)))) (fun k=>Vol k ∨ k=w.heap.size) w.heap.size [] l _ _ (RowW.step (TyW.step d) _ (fun k=>Vol k ∨ k=w.heap.size) _ _ _ _ hv (Kb.of_below hb) (fun k hk e=>e.elim id (fun e=>by omega))) gt (hm1.below hb2) (.inr rfl) (fun k e=>by
  have:=hb2.size
  rcases e with e | e
  ·have:=hvl k e;omega
  ·omega) (by simpa using hlen) hX (fun e=>by
  rcases e with e | e
  ·have:=hvl _ e;omega
  ·omega))
 have HB:=Lib.hid hb
 clear hv gt hlen hb1 hz1 hm1 hb2 hX hb
 have hmm:=@run_makeMap Tryd.prog
 go_enter Tryd.func32,Tryd.ntmps32
 go_wp2_with fail
 refine HE.out.mono ?_
 rintro e w5 ⟨v5,rfl,hv5,hm5,hk5⟩
 have HV5:=Lib.hid (RowW.step TyE.step _ Vol _ _ _ _ hv5 (Kb.refl _ _) (fun k _ e=>.inl e))
 have HB5:=Lib.hid (HB.out.trans (hk5.below (by have:=HB.out.size;omega) (fun k e=>by omega)))
 clear hv5 hm5 hk5
 go_wp2_with fail
 go_ret
 exact ⟨_,rfl,HV5.out,HB5.out⟩
end
end Lx
end Go.Proofs.YtnpacamcgifabaaDoor
