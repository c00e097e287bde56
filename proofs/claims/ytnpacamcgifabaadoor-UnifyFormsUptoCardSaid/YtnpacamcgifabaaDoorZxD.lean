/- The reference: In, frees, at types of any kind; unknowns as they are met. Conditions: as each states. -/
/- The reference: frees, the unknowns of types of any kind as they are met. Conditions: the types have at most two million nodes in all. -/
/- The reference: renumber and Plain at types of any kind. Conditions: the types have at most two million nodes in all. -/
import Derived.Test.YtnpacamcgifabaaDoorZxA
import Derived.Deep.Cut
import Derived.Deep.CutRange
namespace Go.Proofs.YtnpacamcgifabaaDoor
set_option linter.unusedSimpArgs false
set_option linter.unusedVariables false
namespace Lx
open Go Go.RowKit
/-! What is met, one behind the other. -/
mutual
def occL:TyT→List Int
 | .mk k _ n l=>(if k=4 then [n] else [])++occsL l
def occsL:List TyT→List Int
 | []=>[]
 | x :: l=>occL x++occsL l
end
/-- Further numbers, each if it is new. -/
def dd (out xs:List Int):List Int:=xs.foldl meet out
theorem dd_nil (out:List Int):dd out []=out:=rfl
theorem dd_cons (out:List Int) (x:Int) (xs:List Int):dd out (x :: xs)=dd (meet out x) xs:=rfl
theorem dd_app (out xs ys:List Int):dd out (xs++ys)=dd (dd out xs) ys:=by simp [dd,List.foldl_append]
theorem dd_snoc (out xs:List Int) (x:Int):dd out (xs++[x])=meet (dd out xs) x:=by rw [dd_app];rfl
theorem meet_more (out:List Int) (x:Int):∃ zs,meet out x=out++zs:=by
 unfold meet
 split
 ·exact ⟨[],by simp⟩
 ·exact ⟨[x],rfl⟩
theorem meet_in (out:List Int) (x:Int):x ∈ meet out x:=by
 unfold meet
 split
 ·assumption
 ·simp
theorem dd_more:∀ (xs out:List Int),∃ zs,dd out xs=out++zs
 | [],out=>⟨[],by simp [dd]⟩
 | x :: xs,out=>by
  obtain ⟨z1,h1⟩:=meet_more out x
  obtain ⟨z2,h2⟩:=dd_more xs (meet out x)
  exact ⟨z1++z2,by rw [dd_cons,h2,h1,List.append_assoc]⟩
theorem dd_in {xs out:List Int} {x:Int} (h:x ∈ out):x ∈ dd out xs:=by
 obtain ⟨zs,e⟩:=dd_more xs out
 rw [e];exact List.mem_append_left _ h
theorem meet_old {out:List Int} {x:Int} (h:x ∈ out):meet out x=out:=if_pos h
theorem dd_old:∀ (xs out:List Int),(∀ x ∈ xs,x ∈ out)→dd out xs=out
 | [],_,_=>rfl
 | x :: xs,out,h=>by
  rw [dd_cons,meet_old (h x (List.mem_cons_self ..))]
  exact dd_old xs out (fun y hy=>h y (List.mem_cons_of_mem _ hy))
theorem dd_all:∀ (xs out:List Int) (x:Int),x ∈ xs→x ∈ dd out xs
 | y :: xs,out,x,h=>by
  rw [dd_cons]
  rcases List.mem_cons.1 h with rfl | h
  ·exact dd_in (meet_in out x)
  ·exact dd_all xs _ x h
theorem dd_from:∀ (xs out:List Int) (x:Int),x ∈ dd out xs→x ∈ out ∨ x ∈ xs
 | [],_,_,h=>.inl h
 | y :: xs,out,x,h=>by
  rw [dd_cons] at h
  rcases dd_from xs _ x h with h | h
  ·unfold meet at h
   split at h
   ·exact .inl h
   ·rcases List.mem_append.1 h with h | h
    ·exact .inl h
    ·exact .inr (List.mem_cons.2 (.inl (List.mem_singleton.1 h)))
  ·exact .inr (List.mem_cons_of_mem _ h)
/-- Numbers met elsewhere first, each once: the same. -/
theorem dd_dd:∀ (xs out acc:List Int),dd out (dd acc xs)=dd (dd out acc) xs
 | [],_,_=>rfl
 | x :: xs,out,acc=>by
  rw [dd_cons,dd_dd xs out (meet acc x),dd_cons]
  congr 1
  by_cases h:x ∈ acc
  ·rw [meet_old h,meet_old (dd_all acc out x h)]
  ·rw [show meet acc x=acc++[x] from if_neg h,dd_snoc]
theorem dd_once (out xs:List Int):dd out (dd [] xs)=dd out xs:=by rw [dd_dd,dd_nil]
theorem dd_few:∀ (xs out:List Int),(dd out xs).length≤out.length+xs.length
 | [],out=>by simp [dd]
 | x :: xs,out=>by
  have h1:=dd_few xs (meet out x)
  have h2:(meet out x).length≤out.length+1:=by unfold meet;split <;> simp
  rw [dd_cons,List.length_cons]
  omega
mutual
theorem occL_few:∀ t:TyT,(occL t).length≤sizeT t
 | .mk k s n l=>by
  have:=occsL_few l
  rw [occL,sizeT,List.length_append]
  split <;> simp <;> omega
theorem occsL_few:∀ l:List TyT,(occsL l).length≤sizeTs l
 | []=>by simp [occsL]
 | x :: l=>by
  have h1:=occL_few x
  have h2:=occsL_few l
  rw [occsL,sizeTs,List.length_append]
  omega
end
theorem occsL_snoc:∀ (a:List TyT) (x:TyT),occsL (a++[x])=occsL a++occL x
 | [],x=>by simp [occsL]
 | y :: a,x=>by simp [occsL,occsL_snoc a x]
theorem occsL_take {l:List TyT} {k:Nat} (h:k < l.length):occsL (l.take (k+1))=occsL (l.take k)++occL l[k]:=by rw [List.take_succ_eq_append_getElem h,occsL_snoc]
mutual
theorem pi_met (met:List Int):∀ t,(pi met t).1=dd met (occL t)
 | .mk k s n l=>by
  rw [occL]
  by_cases k4:k=4
  ·subst k4
   rw [pi_eq,if_pos rfl,dd_app]
   exact pis_met (meet met n) l
  ·rw [pi_ne met s n l k4,if_neg k4]
   exact pis_met met l
theorem pis_met (met:List Int):∀ l,(pis met l).1=dd met (occsL l)
 | []=>rfl
 | x :: l=>by
  rw [pis,occsL,dd_app,← pi_met met x]
  exact pis_met _ l
end
mutual
/-- A type with its unknowns numbered by their places in a list. -/
def rnT (met:List Int):TyT→TyT
 | .mk k s n l=>.mk k s (if k=4∧n ∈ met then (posI n met:Int) else n) (rnTs met l)
def rnTs (met:List Int):List TyT→List TyT
 | []=>[]
 | x :: l=>rnT met x :: rnTs met l
end
theorem posI_more {n:Int}:∀ {a:List Int} (b:List Int),n ∈ a→posI n (a++b)=posI n a
 | x :: a,b,h=>by
  by_cases e:x=n
  ·simp [posI,e]
  ·have h2:n ∈ a:=by
    rcases List.mem_cons.1 h with h | h
    ·exact absurd h.symm e
    ·exact h
   simp [posI,e,posI_more b h2]
mutual
theorem pi_rn (met:List Int):∀ (t:TyT) (ys:List Int),(pi met t).2=rnT (dd (pi met t).1 ys) t
 | .mk k s n l,ys=>by
  by_cases k4:k=4
  ·subst k4
   rw [pi_eq,rnT]
   have h1:=pis_rn (meet met n) l ys
   have h2:n ∈ dd (pis (meet met n) l).1 ys:=by rw [pis_met];exact dd_in (dd_in (meet_in met n))
   rw [if_pos ⟨rfl,h2⟩]
   obtain ⟨z1,e1⟩:=dd_more (occsL l) (meet met n)
   obtain ⟨z2,e2⟩:=dd_more ys (pis (meet met n) l).1
   have h3:posI n (dd (pis (meet met n) l).1 ys)=posI n (meet met n):=by rw [e2,pis_met,e1,List.append_assoc,posI_more _ (meet_in met n)]
   show TyT.mk 4 s _ _=.mk 4 s _ _
   rw [h3,h1]
  ·rw [pi_ne met s n l k4,rnT]
   have h1:=pis_rn met l ys
   rw [if_neg (fun h=>k4 h.1)]
   show TyT.mk k s n _=.mk k s n _
   rw [h1]
theorem pis_rn (met:List Int):∀ (l:List TyT) (ys:List Int),(pis met l).2=rnTs (dd (pis met l).1 ys) l
 | [],_=>by rw [pis,rnTs]
 | x :: l,ys=>by
  rw [pis,rnTs]
  have h1:=pi_rn met x (occsL l++ys)
  have h2:=pis_rn (pi met x).1 l ys
  have h3:dd (pi met x).1 (occsL l++ys)=dd (pis (pi met x).1 l).1 ys:=by rw [dd_app,pis_met]
  show (pi met x).2 :: (pis (pi met x).1 l).2=rnT (dd (pis (pi met x).1 l).1 ys) x :: rnTs (dd (pis (pi met x).1 l).1 ys) l
  rw [h1,h3,h2]
end
/-- Numbered by all that are met, or as they are met: the same. -/
theorem plain_rn (l:List TyT):(pis [] l).2=rnTs (dd [] (occsL l)) l:=by
 rw [pis_rn [] l [],dd_nil,pis_met]
/-- A number in a row of ints. -/
def IntH:HoldW Int:=fun _ n v _=>v=.int .i64 n
theorem IntH.step:StepW IntH:=fun _ _ _ _ _ _ h _ _=>h
theorem intCells:∀ Vol x v w,IntH Vol x v w→(cellsL v).length=1:=by
 rintro Vol x v w rfl
 rfl
set_option maxRecDepth 100000 in
theorem in_any (Vol:Nat→Prop) (l:List Int) (v:Value) (n:Int) (w:World) (h:RowW 1 IntH Vol l v w) :
  Calls Tryd.prog 92 #[v,.int .i64 n] w fun e w'=>e=.returned (.bool (decide (n ∈ l)))∧w=w':=by
 obtain ⟨A,c,rfl⟩:=h.slice
 have hfew:=h.few
 unfold maxLen at hfew
 have H:=Lib.hid h
 clear h
 go_enter Tryd.func92,Tryd.ntmps92
 go_wp2_with fail
 go_loopw [9] (fun t wr=>∃ k:Nat,k≤l.length∧t=.int .i64 k∧wr=w∧Hid (∀ (j:Nat) (h:j < l.length),j < k→¬ l[j]=n)) (fun t _=>l.length - (intOf t).toNat)
 case atStart=>exact ⟨0,Nat.zero_le _,rfl,rfl,Lib.hid (fun j _ h=>by omega)⟩
 case round =>
  obtain ⟨k,hk,rfl,rfl,HN⟩:=hrel
  by_cases hlt:k < l.length
  ·obtain ⟨g,o,u,rfl,hg,_,hu,hc⟩:=RowW.at H.out k hlt
   obtain rfl:u=.int .i64 l[k]:=hu
   have a0:=(hc 0 (by decide)).trans rfl
   simp only [cellsL,Value.cells,List.getElem?_cons_zero,Nat.add_zero,Nat.mul_one] at a0
   have hk0:(0:Int)≤(k:Int):=by omega
   have hk1:(k:Int) < (l.length:Int):=by omega
   have hdc:decide (k < l.length)=true:=by simpa using hlt
   have HLT:=Lib.hid hlt
   clear hc
   by_cases he:l[k]=n
   ·have hb:(l[k] == n)=true:=by simpa using he
    go_wp2_with fail
    go_ret
    have HI:n ∈ l:=he ▸ List.getElem_mem HLT.out
    rw [show decide (n ∈ l)=true by simpa using HI]
    exact ⟨rfl,rfl⟩
   ·have hb:(l[k] == n)=false:=by simpa using he
    go_wp2_with fail
    go_roundw
    case rel=>exact ⟨k+1,by have:=HLT.out;omega,by go_num,by first | trivial | rfl,Lib.hid (fun j h hj=>by
     by_cases e:j=k
     ·subst e;exact he
     ·exact HN.out j h (by omega))⟩
    case measure=>have:=HLT.out;simp [intOf];omega
  ·obtain rfl:k=l.length:=by omega
   have hdc:decide (l.length < l.length)=false:=by simp
   go_wp2_with fail
   go_ret
   have HI:¬ n ∈ l:=fun h=>by
    obtain ⟨j,hj,e⟩:=List.getElem_of_mem h
    exact HN.out j hj hj e
   rw [show decide (n ∈ l)=false by simpa using HI]
   exact ⟨rfl,rfl⟩
end Lx
end Go.Proofs.YtnpacamcgifabaaDoor
namespace Go.Proofs.YtnpacamcgifabaaDoor
set_option linter.unusedSimpArgs false
set_option linter.unusedVariables false
namespace Lx
open Go Go.RowKit
theorem TyW.rowB {d:Nat} {Vol:Nat→Prop} {x:TyT} {k s n va:Value} {w:World} (h:TyW d Vol x (.agg #[k,s,n,va]) w):∃ d',d' < d∧RowW 4 (TyW d') Vol x.args va w:=by
 cases d with
 | zero=>exact h.elim
 | succ d =>
  obtain ⟨k',s',n',l⟩:=x
  obtain ⟨va',e,h1⟩:=h
  injection e with e
  have e2:=congrArg (fun a:Array Value=>a[3]?) e
  have e3:va=va':=by simpa using e2
  exact ⟨d,Nat.lt_succ_self d,e3 ▸ h1⟩
/-- A row, empty as it is made, in a block of its own. -/
theorem RowG.startT {α:Type} {t:TypeId} {sz:Nat} {V:HoldW α} (Vol:Nat→Prop) (w:World):RowG t sz V Vol w (w.alloc (.cells #[] t)) (some ⟨w.heap.size,0,none⟩) 0 [] [] :=
 ⟨.inr ⟨_,rfl⟩,⟨by simp,.inr ⟨w.heap.size,0,#[],rfl,Nat.le_refl _,heap_alloc_new _ _,Nat.le_refl _,Nat.zero_le _,by simp,by simp⟩⟩,rfl,fun i h=>by simp at h,below_alloc _ _⟩
section
variable {α β:Type} {t:TypeId} {sz sz2:Nat} {V:HoldW α} {V2:HoldW β} {Vol:Nat→Prop} {w wr w4 w6:World} {s:Option Addr} {cap:Nat} {acc:List α} {vs:List Value}
/-- What stands beside a row that has grown. -/
theorem RowG.beside (h:RowG t sz V Vol w wr s cap acc vs) {o:Obj} {g2:Nat} (hg:(w4.alloc o).grownBy w6 (Value.slice s acc.length cap).ownBlock) (hat:(Value.slice s acc.length cap).ownBlock=some g2 ∨ g2=(w4.alloc o).heap.size) :
  Kb (fun k=>Vol k ∨ s=some ⟨k,0,none⟩) w4 w6∧∀ k,k < w4.heap.size→(Vol k ∨ (some ⟨g2,0,none⟩:Option Addr)=some ⟨k,0,none⟩)→(Vol k ∨ s=some ⟨k,0,none⟩):=by
 have hblk:∀ j,j < w4.heap.size→some j ≠ (Value.slice s acc.length cap).ownBlock→w6.heap[j]?=w4.heap[j]?:=fun j hj hn=>(hg.block j (by simp;omega) hn).trans (Below.heap_alloc w4 o j hj)
 have hs6:w4.heap.size≤w6.heap.size:=by have:=hg.size;simp at this;omega
 refine ⟨⟨hg.os,hg.tape,hg.output,hs6,fun k hk hn=>hblk k hk (fun e=>hn (.inr (by
  rcases h.val with ⟨_,_,rfl,_⟩ | ⟨g,rfl⟩
  ·cases e
  ·have e2:some k=some g:=e
   rw [Option.some.inj e2])))⟩,?_⟩
 rintro k hk (e | e)
 ·exact .inl e
 ·have e2:g2=k:=by injection e with e;injection e
  subst e2
  rcases hat with e3 | e3
  ·right
   rcases h.val with ⟨_,_,rfl,_⟩ | ⟨g,rfl⟩
   ·cases e3
   ·have e4:some g=some g2:=e3
    rw [Option.some.inj e4]
  ·simp at e3
   omega
end
/-- What is met with one more type. -/
theorem dd_next {l:List TyT} {k:Nat} (h:k < l.length):dd [] (occsL (l.take (k+1)))=dd (if (l[k]).kind=4 then meet (dd [] (occsL (l.take k))) (l[k]).var else dd [] (occsL (l.take k))) (dd [] (occsL (l[k]).args)):=by
 rw [occsL_take h,dd_app,dd_once]
 obtain ⟨k',s',n',l'⟩:=l[k]
 rw [occL]
 show dd _ ((if k'=4 then [n'] else [])++occsL l')=dd (if k'=4 then meet _ n' else _) (occsL l')
 by_cases k4:k'=4
 ·rw [if_pos k4,if_pos k4];rfl
 ·rw [if_neg k4,if_neg k4];rfl
theorem meet_few (out:List Int) (n:Int):(meet out n).length≤out.length+1:=by unfold meet;split <;> simp
def FreesC (d:Nat):Prop:=∀ (Vol:Nat→Prop) (l:List TyT) (v:Value) (w:World),RowW 4 (TyW d) Vol l v w→sizeTs l≤2000000→(∀ k,Vol k→k < w.heap.size) →
 Calls Tryd.prog 71 #[v] w fun e w'=>∃ v',e=.returned v'∧RowW 1 IntH Vol (dd [] (occsL l)) v' w'∧Below w.heap.size w w'
set_option maxRecDepth 100000 in
set_option maxHeartbeats 4000000 in
theorem frees_step (d:Nat) (HC:Hid (∀ d',d' < d→FreesC d')):FreesC d:=by
 intro Vol l v w hv hsz hvl
 obtain ⟨A,c,rfl⟩:=hv.slice
 have hfew:=hv.few
 unfold maxLen at hfew
 obtain ⟨i0,hi0,hz0,hz1,hz2⟩:=info_parts infoInt
 have HI0:=Lib.hid hi0
 have HI1:=Lib.hid hz0
 have HI2:=Lib.hid hz1
 have HI3:=Lib.hid hz2
 have HV:=Lib.hid hv
 have HVL:=Lib.hid hvl
 have HSZ:=Lib.hid hsz
 clear hi0 hz0 hz1 hz2 hv hvl hsz
 go_enter Tryd.func71,Tryd.ntmps71
 go_wp2_with fail
 go_loopw [3,11] (fun u t wr=>∃ (k:Nat) (s':Option Addr) (cap':Nat) (vs:List Value),k≤l.length∧u=.slice s' (dd [] (occsL (l.take k))).length cap'∧t=.int .i64 k∧Hid (RowG 3 1 IntH Vol w wr s' cap' (dd [] (occsL (l.take k))) vs)) (fun _ t _=>l.length - (intOf t).toNat)
 case atStart=>exact ⟨0,_,0,[],Nat.zero_le _,rfl,rfl,Lib.hid (by rw [List.take_zero,occsL];exact RowG.startT Vol w)⟩
 case round =>
  obtain ⟨k,s',cap',vs,hk,rfl,rfl,HR⟩:=hrel
  by_cases hlt:k < l.length
  ·have hsl:∀ j,j < w.heap.size→s' ≠ some ⟨j,0,none⟩:=fun j hj e=>by have:=(HR.out.own.lt j (by rw [e];rfl)).1;omega
   obtain ⟨gg,o,vi,rfl,hg,_,hvi,hc⟩:=RowW.at (RowW.step (TyW.step d) Vol (fun k=>Vol k ∨ s'=some ⟨k,0,none⟩) _ _ _ _ HV.out (Kb.of_below HR.out.below) (fun j hj e=>e.elim id (fun e=>absurd e (hsl j hj)))) k hlt
   obtain ⟨B1,n1,c1,rfl⟩:=hvi.this
   obtain ⟨d',hd',hrow⟩:=hvi.rowB
   have hnx:=dd_next hlt
   have a0:=(hc 0 (by decide)).trans rfl
   have a1:=(hc 1 (by decide)).trans rfl
   have a2:=(hc 2 (by decide)).trans rfl
   have a3:=(hc 3 (by decide)).trans rfl
   simp only [cellsL,Value.cells,List.getElem?_cons_zero,List.getElem?_cons_succ,Nat.add_zero] at a0 a1 a2 a3
   have hk0:(0:Int)≤(k:Int):=by omega
   have hk1:(k:Int) < (l.length:Int):=by omega
   have hdc:decide (k < l.length)=true:=by simpa using hlt
   have hfa:(dd [] (occsL (l.take k))).length≤2000000:=by
    have h1:=dd_few (occsL (l.take k)) []
    have h2:=occsL_few (l.take k)
    have h3:=sizes_take l k
    have h4:=HSZ.out
    simp only [List.length_nil] at h1
    omega
   have hsx:sizeT l[k]≤2000000:=by have h1:=sizeTs_mem hlt;have:=HSZ.out;omega
   have HLT:=Lib.hid hlt
   have HMN:=Lib.hid (HR.out.mine HVL.out)
   generalize hacc:dd [] (occsL (l.take k))=acc at HR hnx hfa ⊢
   generalize hxx:l[k]=x at hvi hrow a0 a1 a2 a3 hnx hsx ⊢
   have hbz:=below_alloc wr (.cells #[.int .i64 x.kind,.string x.name,.int .i64 x.var,.slice B1 n1 c1] 32)
   have HBZ:=Lib.hid hbz
   have HXB:=Lib.hid (heap_alloc_new wr (.cells #[.int .i64 x.kind,.string x.name,.int .i64 x.var,.slice B1 n1 c1] 32))
   have HDD:=Lib.hid hd'
   have HROW:=Lib.hid ((RowW.step (TyW.step d')).below hrow hbz)
   have HNX:=Lib.hid hnx
   have HSX:=Lib.hid hsx
   have HRB:=Lib.hid (HR.out.later IntH.step hbz)
   have HFA:Hid (acc.length≤2000000):=Lib.hid (by omega)
   have HXN:Hid (¬ (Vol wr.heap.size ∨ s'=some ⟨wr.heap.size,0,none⟩)):=Lib.hid (fun e=>by have:=HMN.out _ e;omega)
   have hbs:=HBZ.out.size
   have hws:=HR.out.below.size
   clear hc hvi hrow hbz hd' hnx hsx hacc hxx hlt hsl
   go_upto_region 5 with fail
   clear a0 a1 a2 a3
   generalize (wr.alloc (.cells #[.int .i64 x.kind,.string x.name,.int .i64 x.var,.slice B1 n1 c1] 32))=W at HBZ HXB HROW HRB hbs ⊢
   generalize wr.heap.size=X at HXB HXN ⊢
   have HMW:Hid (∀ k,(Vol k ∨ s'=some ⟨k,0,none⟩)→k < W.heap.size):=Lib.hid (fun k e=>Nat.lt_of_lt_of_le (HMN.out k e) HBZ.out.size)
   clear hbs
   have x0:=(cellH HXB.out 0).trans rfl
   have x2:=(cellH HXB.out 2).trans rfl
   by_cases k4:x.kind=4
   ·have e4:(x.kind == 4)=true:=by simpa using k4
    have hrowH:=HRB.out.held IntH.step intCells HVL.out
    have HIN:=Lib.hid (in_any Vol acc _ x.var W hrowH)
    by_cases hin:x.var ∈ acc
    ·rw [show decide (x.var ∈ acc)=true by simpa using hin] at HIN
     rw [if_pos k4,meet_old hin] at HNX
     clear hin k4 hrowH
     go_upto_region 7 with (go_at_call 92;refine HIN.out.mono ?_;rintro e w3 ⟨rfl,rfl⟩)
     have b3:=(cellH HXB.out 3).trans rfl
     have HX:=Lib.hid (HC.out d' HDD.out (fun k=>Vol k ∨ s'=some ⟨k,0,none⟩) x.args _ W HROW.out (by have:=HSX.out;rw [size_args] at this;omega) HMW.out)
     go_wp2_with (go_at_call 71;have hxq:=HX.out;with_reducible refine hxq.mono ?_;clear hxq;rintro e w5 ⟨v5,rfl,hv5,hb5⟩;obtain ⟨A5,c5,rfl⟩:=hv5.slice;have HV5:=Lib.hid hv5;have HR5:=Lib.hid (HRB.out.later IntH.step hb5);have hf5:=hv5.few;clear hv5 hb5)
     unfold maxLen at hf5
     have HSF:Hid ((dd [] (occsL x.args)).length≤2000000):=Lib.hid (by
      have h1:=dd_few (occsL x.args) []
      have h2:=occsL_few x.args
      have h3:=HSX.out
      rw [size_args] at h3
      simp only [List.length_nil] at h1
      omega)
     generalize dd [] (occsL x.args)=ff at HV5 HNX HSF hf5 ⊢
     clear b3
     go_loopw [3,34] (fun u t wq=>∃ (j:Nat) (s3:Option Addr) (cap3:Nat) (vs3:List Value),j≤ff.length∧u=.slice s3 (dd (acc) (ff.take j)).length cap3∧t=.int .i64 j∧Hid (RowG 3 1 IntH Vol w wq s3 cap3 (dd (acc) (ff.take j)) vs3)∧Hid (RowW 1 IntH (fun k=>Vol k ∨ s3=some ⟨k,0,none⟩) ff (.slice A5 ff.length c5) wq)) (fun _ t _=>ff.length - (intOf t).toNat)
     case atStart=>exact ⟨0,s',cap',_,Nat.zero_le _,by first | rfl | (rw [List.take_zero,dd_nil,List.length_append];rfl),rfl,HR5,HV5⟩
     case round =>
      obtain ⟨j,s3,cap3,vs3,hj,rfl,rfl,HRJ,HVJ⟩:=hrel
      by_cases hltj:j < ff.length
      ·obtain ⟨g7,o7,u7,rfl,hg7,_,hu7,hc7⟩:=RowW.at HVJ.out j hltj
       obtain rfl:u7=.int .i64 ff[j]:=hu7
       have a0:=(hc7 0 (by decide)).trans rfl
       simp only [cellsL,Value.cells,List.getElem?_cons_zero,Nat.add_zero,Nat.mul_one] at a0
       have hj0:(0:Int)≤(j:Int):=by omega
       have hj1:(j:Int) < (ff.length:Int):=by omega
       have hdj:decide (j < ff.length)=true:=by simpa using hltj
       have hdn:dd (acc) (ff.take (j+1))=meet (dd (acc) (ff.take j)) ff[j]:=by rw [List.take_succ_eq_append_getElem hltj,dd_snoc]
       have hfj:(dd (acc) (ff.take j)).length≤5000000:=by
        have h1:=dd_few (ff.take j) (acc)
        have h2:(ff.take j).length≤ff.length:=by rw [List.length_take];omega
        have h3:=HSF.out
        have h4:=HFA.out
        omega
       have HLJ:=Lib.hid hltj
       generalize hyy:ff[j]=y at a0 hdn ⊢
       generalize dd (acc) (ff.take j)=aj at HRJ hdn hfj ⊢
       have hrowJ:=HRJ.out.held IntH.step intCells HVL.out
       have HIJ:=Lib.hid (in_any Vol aj _ y _ hrowJ)
       clear hc7 hrowJ hyy hltj
       by_cases hinj:y ∈ aj
       ·rw [show decide (y ∈ aj)=true by simpa using hinj] at HIJ
        rw [meet_old hinj] at hdn
        have HDN:=Lib.hid hdn
        clear hinj hdn
        go_wp2_with (go_at_call 92;refine HIJ.out.mono ?_;rintro e w7 ⟨rfl,rfl⟩)
        go_roundw
        case rel=>exact ⟨j+1,s3,cap3,vs3,by have:=HLJ.out;omega,by rw [HDN.out],by go_num,by rw [HDN.out];exact HRJ,HVJ⟩
        case measure=>have:=HLJ.out;simp [intOf];omega
       ·rw [show decide (y ∈ aj)=false by simpa using hinj] at HIJ
        rw [show meet aj y=aj++[y] from if_neg hinj] at hdn
        have HDN:=Lib.hid hdn
        have HOJ:=Lib.hid HRJ.out.own
        have hbj:=HRJ.out.below.size
        clear hinj hdn
        go_wp2_with (first
         | (go_at_call 92;refine HIJ.out.mono ?_;rintro e w7 ⟨rfl,rfl⟩)
         | (at_builtin;refine wpList_append_lies _ rfl _ _ 87 rfl w.heap.size 3 i0 (.int .i64 0) 1 8 Tryd.underlying87 HI0.out HI1.out HI2.out HI3.out rfl (by decide) _ _ _ rfl (HOJ.out.alloc _) ⟨wr.heap.size,0,none⟩ 1 1 [.int .i64 y] rfl rfl (cells_new _ #[.int .i64 y] _ _ rfl) (by simp [Value.oneCell']) (by decide) (by unfold maxLen;omega) (by omega) (by simp;omega) _ rfl ?_;intro g2 cap2 w6 hown6 hg6 hat6 _;have HO6:=Lib.hid hown6;have HG6:=Lib.hid hg6;have HA6:=Lib.hid hat6;clear hown6 hg6 hat6))
        obtain ⟨q1,q2⟩:=HRJ.out.beside (w4:=wr) HG6.out HA6.out
        have HR6:=Lib.hid (HRJ.out.snoc IntH.step HVL.out (x2:=y) (v2:=.int .i64 y) (Below.refl _ _) rfl HO6.out HG6.out HA6.out)
        have HV6:=Lib.hid (RowW.step IntH.step _ (fun k=>Vol k ∨ (some ⟨g2,0,none⟩:Option Addr)=some ⟨k,0,none⟩) _ _ _ _ HVJ.out q1 q2)
        go_roundw
        case rel=>exact ⟨j+1,some ⟨g2,0,none⟩,cap2,_,by have:=HLJ.out;omega,by rw [HDN.out,List.length_append];rfl,by go_num,by rw [HDN.out];exact HR6,HV6⟩
        case measure=>have:=HLJ.out;simp [intOf];omega
      ·obtain rfl:j=ff.length:=by omega
       have hdj:decide (ff.length < ff.length)=false:=by simp
       rw [List.take_length] at HRJ ⊢
       go_wp2_with fail
       go_roundw
       case rel=>exact ⟨k+1,s3,cap3,vs3,by have:=HLT.out;omega,by rw [HNX.out],by go_num,by rw [HNX.out];exact HRJ⟩
       case measure=>have:=HLT.out;simp [intOf];omega
    ·rw [show decide (x.var ∈ acc)=false by simpa using hin] at HIN
     rw [if_pos k4,show meet acc x.var=acc++[x.var] from if_neg hin] at HNX
     have HOW:=Lib.hid HRB.out.own
     have hbw:=HRB.out.below.size
     clear hin k4 hrowH
     go_upto_region 7 with (first
      | (go_at_call 92;refine HIN.out.mono ?_;rintro e w3 ⟨rfl,rfl⟩)
      | (at_builtin;refine wpList_append_lies _ rfl _ _ 87 rfl w.heap.size 3 i0 (.int .i64 0) 1 8 Tryd.underlying87 HI0.out HI1.out HI2.out HI3.out rfl (by decide) _ _ _ rfl (HOW.out.alloc _) ⟨W.heap.size,0,none⟩ 1 1 [.int .i64 x.var] rfl rfl (cells_new _ #[.int .i64 x.var] _ _ rfl) (by simp [Value.oneCell']) (by decide) (by unfold maxLen;omega) (by omega) (by simp;omega) _ rfl ?_;intro g2 cap2 w6 hown6 hg6 hat6 _;have HO6:=Lib.hid hown6;have HG6:=Lib.hid hg6;have HA6:=Lib.hid hat6;clear hown6 hg6 hat6))
     obtain ⟨q1,q2⟩:=HRB.out.beside (w4:=W) HG6.out HA6.out
     have HRB:=Lib.hid (HRB.out.snoc IntH.step HVL.out (x2:=x.var) (v2:=.int .i64 x.var) (Below.refl _ _) rfl HO6.out HG6.out HA6.out)
     have HXB:=Lib.hid ((q1.block X (Array.getElem?_eq_some_iff.1 HXB.out).1 HXN.out).trans HXB.out)
     have HROW:=Lib.hid (RowW.step (TyW.step d') _ (fun k=>Vol k ∨ (some ⟨g2,0,none⟩:Option Addr)=some ⟨k,0,none⟩) _ _ _ _ HROW.out q1 q2)
     have HMW:=Lib.hid (HRB.out.mine HVL.out)
     clear q1 q2 x0 x2 HO6 HG6 HA6 HOW hbw HXN HIN
     have HFA:Hid ((acc++[x.var]).length≤2000001):=Lib.hid (by have:=HFA.out;rw [List.length_append];show acc.length+1≤_;omega)
     have b3:=(cellH HXB.out 3).trans rfl
     have HX:=Lib.hid (HC.out d' HDD.out (fun k=>Vol k ∨ (some ⟨g2,0,none⟩:Option Addr)=some ⟨k,0,none⟩) x.args _ w6 HROW.out (by have:=HSX.out;rw [size_args] at this;omega) HMW.out)
     go_wp2_with (go_at_call 71;have hxq:=HX.out;with_reducible refine hxq.mono ?_;clear hxq;rintro e w5 ⟨v5,rfl,hv5,hb5⟩;obtain ⟨A5,c5,rfl⟩:=hv5.slice;have HV5:=Lib.hid hv5;have HR5:=Lib.hid (HRB.out.later IntH.step hb5);have hf5:=hv5.few;clear hv5 hb5)
     unfold maxLen at hf5
     have HSF:Hid ((dd [] (occsL x.args)).length≤2000000):=Lib.hid (by
      have h1:=dd_few (occsL x.args) []
      have h2:=occsL_few x.args
      have h3:=HSX.out
      rw [size_args] at h3
      simp only [List.length_nil] at h1
      omega)
     generalize dd [] (occsL x.args)=ff at HV5 HNX HSF hf5 ⊢
     clear b3
     go_loopw [3,34] (fun u t wq=>∃ (j:Nat) (s3:Option Addr) (cap3:Nat) (vs3:List Value),j≤ff.length∧u=.slice s3 (dd (acc++[x.var]) (ff.take j)).length cap3∧t=.int .i64 j∧Hid (RowG 3 1 IntH Vol w wq s3 cap3 (dd (acc++[x.var]) (ff.take j)) vs3)∧Hid (RowW 1 IntH (fun k=>Vol k ∨ s3=some ⟨k,0,none⟩) ff (.slice A5 ff.length c5) wq)) (fun _ t _=>ff.length - (intOf t).toNat)
     case atStart=>exact ⟨0,(some ⟨g2,0,none⟩:Option Addr),cap2,_,Nat.zero_le _,by first | rfl | (rw [List.take_zero,dd_nil,List.length_append];rfl),rfl,HR5,HV5⟩
     case round =>
      obtain ⟨j,s3,cap3,vs3,hj,rfl,rfl,HRJ,HVJ⟩:=hrel
      by_cases hltj:j < ff.length
      ·obtain ⟨g7,o7,u7,rfl,hg7,_,hu7,hc7⟩:=RowW.at HVJ.out j hltj
       obtain rfl:u7=.int .i64 ff[j]:=hu7
       have a0:=(hc7 0 (by decide)).trans rfl
       simp only [cellsL,Value.cells,List.getElem?_cons_zero,Nat.add_zero,Nat.mul_one] at a0
       have hj0:(0:Int)≤(j:Int):=by omega
       have hj1:(j:Int) < (ff.length:Int):=by omega
       have hdj:decide (j < ff.length)=true:=by simpa using hltj
       have hdn:dd (acc++[x.var]) (ff.take (j+1))=meet (dd (acc++[x.var]) (ff.take j)) ff[j]:=by rw [List.take_succ_eq_append_getElem hltj,dd_snoc]
       have hfj:(dd (acc++[x.var]) (ff.take j)).length≤5000000:=by
        have h1:=dd_few (ff.take j) (acc++[x.var])
        have h2:(ff.take j).length≤ff.length:=by rw [List.length_take];omega
        have h3:=HSF.out
        have h4:=HFA.out
        omega
       have HLJ:=Lib.hid hltj
       generalize hyy:ff[j]=y at a0 hdn ⊢
       generalize dd (acc++[x.var]) (ff.take j)=aj at HRJ hdn hfj ⊢
       have hrowJ:=HRJ.out.held IntH.step intCells HVL.out
       have HIJ:=Lib.hid (in_any Vol aj _ y _ hrowJ)
       clear hc7 hrowJ hyy hltj
       by_cases hinj:y ∈ aj
       ·rw [show decide (y ∈ aj)=true by simpa using hinj] at HIJ
        rw [meet_old hinj] at hdn
        have HDN:=Lib.hid hdn
        clear hinj hdn
        go_wp2_with (go_at_call 92;refine HIJ.out.mono ?_;rintro e w7 ⟨rfl,rfl⟩)
        go_roundw
        case rel=>exact ⟨j+1,s3,cap3,vs3,by have:=HLJ.out;omega,by rw [HDN.out],by go_num,by rw [HDN.out];exact HRJ,HVJ⟩
        case measure=>have:=HLJ.out;simp [intOf];omega
       ·rw [show decide (y ∈ aj)=false by simpa using hinj] at HIJ
        rw [show meet aj y=aj++[y] from if_neg hinj] at hdn
        have HDN:=Lib.hid hdn
        have HOJ:=Lib.hid HRJ.out.own
        have hbj:=HRJ.out.below.size
        clear hinj hdn
        go_wp2_with (first
         | (go_at_call 92;refine HIJ.out.mono ?_;rintro e w7 ⟨rfl,rfl⟩)
         | (at_builtin;refine wpList_append_lies _ rfl _ _ 87 rfl w.heap.size 3 i0 (.int .i64 0) 1 8 Tryd.underlying87 HI0.out HI1.out HI2.out HI3.out rfl (by decide) _ _ _ rfl (HOJ.out.alloc _) ⟨wr.heap.size,0,none⟩ 1 1 [.int .i64 y] rfl rfl (cells_new _ #[.int .i64 y] _ _ rfl) (by simp [Value.oneCell']) (by decide) (by unfold maxLen;omega) (by omega) (by simp;omega) _ rfl ?_;intro g2 cap2 w6 hown6 hg6 hat6 _;have HO6:=Lib.hid hown6;have HG6:=Lib.hid hg6;have HA6:=Lib.hid hat6;clear hown6 hg6 hat6))
        obtain ⟨q1,q2⟩:=HRJ.out.beside (w4:=wr) HG6.out HA6.out
        have HR6:=Lib.hid (HRJ.out.snoc IntH.step HVL.out (x2:=y) (v2:=.int .i64 y) (Below.refl _ _) rfl HO6.out HG6.out HA6.out)
        have HV6:=Lib.hid (RowW.step IntH.step _ (fun k=>Vol k ∨ (some ⟨g2,0,none⟩:Option Addr)=some ⟨k,0,none⟩) _ _ _ _ HVJ.out q1 q2)
        go_roundw
        case rel=>exact ⟨j+1,some ⟨g2,0,none⟩,cap2,_,by have:=HLJ.out;omega,by rw [HDN.out,List.length_append];rfl,by go_num,by rw [HDN.out];exact HR6,HV6⟩
        case measure=>have:=HLJ.out;simp [intOf];omega
      ·obtain rfl:j=ff.length:=by omega
       have hdj:decide (ff.length < ff.length)=false:=by simp
       rw [List.take_length] at HRJ ⊢
       go_wp2_with fail
       go_roundw
       case rel=>exact ⟨k+1,s3,cap3,vs3,by have:=HLT.out;omega,by rw [HNX.out],by go_num,by rw [HNX.out];exact HRJ⟩
       case measure=>have:=HLT.out;simp [intOf];omega
   ·have e4:(x.kind == 4)=false:=by simpa using k4
    rw [if_neg k4] at HNX
    clear k4
    go_upto_region 7 with fail
    have b3:=(cellH HXB.out 3).trans rfl
    have HX:=Lib.hid (HC.out d' HDD.out (fun k=>Vol k ∨ s'=some ⟨k,0,none⟩) x.args _ W HROW.out (by have:=HSX.out;rw [size_args] at this;omega) HMW.out)
    go_wp2_with (go_at_call 71;have hxq:=HX.out;with_reducible refine hxq.mono ?_;clear hxq;rintro e w5 ⟨v5,rfl,hv5,hb5⟩;obtain ⟨A5,c5,rfl⟩:=hv5.slice;have HV5:=Lib.hid hv5;have HR5:=Lib.hid (HRB.out.later IntH.step hb5);have hf5:=hv5.few;clear hv5 hb5)
    unfold maxLen at hf5
    have HSF:Hid ((dd [] (occsL x.args)).length≤2000000):=Lib.hid (by
     have h1:=dd_few (occsL x.args) []
     have h2:=occsL_few x.args
     have h3:=HSX.out
     rw [size_args] at h3
     simp only [List.length_nil] at h1
     omega)
    generalize dd [] (occsL x.args)=ff at HV5 HNX HSF hf5 ⊢
    clear b3
    go_loopw [3,34] (fun u t wq=>∃ (j:Nat) (s3:Option Addr) (cap3:Nat) (vs3:List Value),j≤ff.length∧u=.slice s3 (dd (acc) (ff.take j)).length cap3∧t=.int .i64 j∧Hid (RowG 3 1 IntH Vol w wq s3 cap3 (dd (acc) (ff.take j)) vs3)∧Hid (RowW 1 IntH (fun k=>Vol k ∨ s3=some ⟨k,0,none⟩) ff (.slice A5 ff.length c5) wq)) (fun _ t _=>ff.length - (intOf t).toNat)
    case atStart=>exact ⟨0,s',cap',_,Nat.zero_le _,by first | rfl | (rw [List.take_zero,dd_nil,List.length_append];rfl),rfl,HR5,HV5⟩
    case round =>
     obtain ⟨j,s3,cap3,vs3,hj,rfl,rfl,HRJ,HVJ⟩:=hrel
     by_cases hltj:j < ff.length
     ·obtain ⟨g7,o7,u7,rfl,hg7,_,hu7,hc7⟩:=RowW.at HVJ.out j hltj
      obtain rfl:u7=.int .i64 ff[j]:=hu7
      have a0:=(hc7 0 (by decide)).trans rfl
      simp only [cellsL,Value.cells,List.getElem?_cons_zero,Nat.add_zero,Nat.mul_one] at a0
      have hj0:(0:Int)≤(j:Int):=by omega
      have hj1:(j:Int) < (ff.length:Int):=by omega
      have hdj:decide (j < ff.length)=true:=by simpa using hltj
      have hdn:dd (acc) (ff.take (j+1))=meet (dd (acc) (ff.take j)) ff[j]:=by rw [List.take_succ_eq_append_getElem hltj,dd_snoc]
      have hfj:(dd (acc) (ff.take j)).length≤5000000:=by
       have h1:=dd_few (ff.take j) (acc)
       have h2:(ff.take j).length≤ff.length:=by rw [List.length_take];omega
       have h3:=HSF.out
       have h4:=HFA.out
       omega
      have HLJ:=Lib.hid hltj
      generalize hyy:ff[j]=y at a0 hdn ⊢
      generalize dd (acc) (ff.take j)=aj at HRJ hdn hfj ⊢
      have hrowJ:=HRJ.out.held IntH.step intCells HVL.out
      have HIJ:=Lib.hid (in_any Vol aj _ y _ hrowJ)
      clear hc7 hrowJ hyy hltj
      by_cases hinj:y ∈ aj
      ·rw [show decide (y ∈ aj)=true by simpa using hinj] at HIJ
       rw [meet_old hinj] at hdn
       have HDN:=Lib.hid hdn
       clear hinj hdn
       go_wp2_with (go_at_call 92;refine HIJ.out.mono ?_;rintro e w7 ⟨rfl,rfl⟩)
       go_roundw
       case rel=>exact ⟨j+1,s3,cap3,vs3,by have:=HLJ.out;omega,by rw [HDN.out],by go_num,by rw [HDN.out];exact HRJ,HVJ⟩
       case measure=>have:=HLJ.out;simp [intOf];omega
      ·rw [show decide (y ∈ aj)=false by simpa using hinj] at HIJ
       rw [show meet aj y=aj++[y] from if_neg hinj] at hdn
       have HDN:=Lib.hid hdn
       have HOJ:=Lib.hid HRJ.out.own
       have hbj:=HRJ.out.below.size
       clear hinj hdn
       go_wp2_with (first
        | (go_at_call 92;refine HIJ.out.mono ?_;rintro e w7 ⟨rfl,rfl⟩)
        | (at_builtin;refine wpList_append_lies _ rfl _ _ 87 rfl w.heap.size 3 i0 (.int .i64 0) 1 8 Tryd.underlying87 HI0.out HI1.out HI2.out HI3.out rfl (by decide) _ _ _ rfl (HOJ.out.alloc _) ⟨wr.heap.size,0,none⟩ 1 1 [.int .i64 y] rfl rfl (cells_new _ #[.int .i64 y] _ _ rfl) (by simp [Value.oneCell']) (by decide) (by unfold maxLen;omega) (by omega) (by simp;omega) _ rfl ?_;intro g2 cap2 w6 hown6 hg6 hat6 _;have HO6:=Lib.hid hown6;have HG6:=Lib.hid hg6;have HA6:=Lib.hid hat6;clear hown6 hg6 hat6))
       obtain ⟨q1,q2⟩:=HRJ.out.beside (w4:=wr) HG6.out HA6.out
       have HR6:=Lib.hid (HRJ.out.snoc IntH.step HVL.out (x2:=y) (v2:=.int .i64 y) (Below.refl _ _) rfl HO6.out HG6.out HA6.out)
       have HV6:=Lib.hid (RowW.step IntH.step _ (fun k=>Vol k ∨ (some ⟨g2,0,none⟩:Option Addr)=some ⟨k,0,none⟩) _ _ _ _ HVJ.out q1 q2)
       go_roundw
       case rel=>exact ⟨j+1,some ⟨g2,0,none⟩,cap2,_,by have:=HLJ.out;omega,by rw [HDN.out,List.length_append];rfl,by go_num,by rw [HDN.out];exact HR6,HV6⟩
       case measure=>have:=HLJ.out;simp [intOf];omega
     ·obtain rfl:j=ff.length:=by omega
      have hdj:decide (ff.length < ff.length)=false:=by simp
      rw [List.take_length] at HRJ ⊢
      go_wp2_with fail
      go_roundw
      case rel=>exact ⟨k+1,s3,cap3,vs3,by have:=HLT.out;omega,by rw [HNX.out],by go_num,by rw [HNX.out];exact HRJ⟩
      case measure=>have:=HLT.out;simp [intOf];omega
  ·obtain rfl:k=l.length:=by omega
   have hdc:decide (l.length < l.length)=false:=by simp
   rw [List.take_length] at HR ⊢
   go_wp2_with fail
   go_ret
   exact ⟨_,rfl,HR.out.held IntH.step intCells HVL.out,HR.out.below⟩
theorem frees_any (d:Nat):FreesC d:=by
 induction d using Nat.strongRecOn with
 | _ d ih=>exact frees_step d (Lib.hid ih)
end Lx
end Go.Proofs.YtnpacamcgifabaaDoor
namespace Go.Proofs.YtnpacamcgifabaaDoor
set_option linter.unusedSimpArgs false
set_option linter.unusedVariables false
namespace Lx
open Go Go.RowKit
theorem put3b {W:World} {N:Nat} {T:TypeId} {z0 z1 z2 z3:Value} (v:Value) (h:W.heap[N]?=some (.cells #[z0,z1,z2,z3] T (0,0))):(W.setCell ⟨N,3,none⟩ v).heap[N]?=some (.cells #[z0,z1,z2,v] T (0,0)):=blk_put W N 3 v h (by show 3 < 4;decide)
theorem put2b {W:World} {N:Nat} {T:TypeId} {z0 z1 z2 z3:Value} (v:Value) (h:W.heap[N]?=some (.cells #[z0,z1,z2,z3] T (0,0))):(W.setCell ⟨N,2,none⟩ v).heap[N]?=some (.cells #[z0,z1,v,z3] T (0,0)):=blk_put W N 2 v h (by show 2 < 4;decide)
theorem kput1 (W:World) (N i:Nat) (v:Value):Kb (fun k=>k=N) W (W.setCell ⟨N,i,none⟩ v):=(Kb.refl (fun k=>k=N) W).put (p:=⟨N,i,none⟩) rfl v
theorem mk_after {Vol:Nat→Prop} {X:Nat} {k n:Int} {s:ByteArray} {r:List TyT} {v:Value} {w w':World} (h:RowW 4 TyE (fun j=>Vol j ∨ j=X) r v w) (hk:Kb (fun j=>j=X) w w'):TyE Vol (.mk k s n r) (.agg #[.int .i64 k,.string s,.int .i64 n,v]) w':=by
 obtain ⟨D,hD⟩:=rowE (RowW.step TyE.step _ Vol _ _ _ _ h (hk.wider (fun k _ e=>.inr e)) (fun k _ e=>.inl e))
 exact ⟨D+1,_,rfl,hD⟩
theorem rnTs_length (met:List Int):∀ l:List TyT,(rnTs met l).length=l.length
 | []=>by simp [rnTs]
 | x :: l=>by simp [rnTs,rnTs_length met l]
theorem rnTs_snoc (met:List Int):∀ (a:List TyT) (x:TyT),rnTs met (a++[x])=rnTs met a++[rnT met x]
 | [],x=>by simp [rnTs]
 | y :: a,x=>by simp [rnTs,rnTs_snoc met a x]
theorem rnT_mk (met:List Int) (x:TyT):rnT met x=.mk x.kind x.name (if x.kind=4∧x.var ∈ met then (posI x.var met:Int) else x.var) (rnTs met x.args):=by
 obtain ⟨k,s,n,l⟩:=x
 rw [rnT]
 rfl
theorem posI_first {n:Int}:∀ {met:List Int} {j:Nat} (h:j < met.length),met[j]=n→(∀ (i:Nat) (hi:i < met.length),i < j→¬ met[i]=n)→posI n met=j
 | [],_,h,_,_=>by simp at h
 | x :: l,0,_,e,_=>by
  have e:x=n:=e
  simp [posI,e]
 | x :: l,j+1,h,e,hn=>by
  have h0:¬ x=n:=hn 0 (by simp) (by omega)
  have h1:j < l.length:=by simpa using h
  have h2:l[j]=n:=by simpa using e
  have:=posI_first h1 h2 (fun i hi hij=>by have:=hn (i+1) (by simpa using hi) (by omega);simpa using this)
  simp [posI,h0,this]
def RenumC (d:Nat):Prop:=∀ (Vol:Nat→Prop) (met:List Int) (vm:Value) (l:List TyT) (v:Value) (w:World),RowW 4 (TyW d) Vol l v w→RowW 1 IntH Vol met vm w→sizeTs l≤2000000→met.length≤2000000→(∀ k,Vol k→k < w.heap.size) →
 Calls Tryd.prog 70 #[v,vm] w fun e w'=>∃ v',e=.returned v'∧RowW 4 TyE Vol (rnTs met l) v' w'∧Below w.heap.size w w'
set_option maxRecDepth 100000 in
set_option maxHeartbeats 4000000 in
theorem renum_step (d:Nat) (HC:Hid (∀ d',d' < d→RenumC d')):RenumC d:=by
 intro Vol met vm l v w hv hm hsz hml hvl
 obtain ⟨A,c,rfl⟩:=hv.slice
 obtain ⟨Am,cm,rfl⟩:=hm.slice
 have hfew:=hv.few
 unfold maxLen at hfew
 have hll:=len_size l
 obtain ⟨i0,hi0,hz0,hz1,hz2⟩:=info_parts infoTy
 have HI0:=Lib.hid hi0
 have HI1:=Lib.hid hz0
 have HI2:=Lib.hid hz1
 have HI3:=Lib.hid hz2
 have HV:=Lib.hid hv
 have HM:=Lib.hid hm
 have HVL:=Lib.hid hvl
 have HSZ:=Lib.hid hsz
 have HML:=Lib.hid hml
 clear hi0 hz0 hz1 hz2 hv hvl hm
 go_enter Tryd.func70,Tryd.ntmps70
 go_wp2_with fail
 go_loopw [5,13] (fun u t wr=>∃ (k:Nat) (s':Option Addr) (cap':Nat) (vs:List Value),k≤l.length∧u=.slice s' (rnTs met (l.take k)).length cap'∧t=.int .i64 k∧Hid (RowG 32 4 TyE Vol w wr s' cap' (rnTs met (l.take k)) vs)) (fun _ t _=>l.length - (intOf t).toNat)
 case atStart=>exact ⟨0,_,0,[],Nat.zero_le _,rfl,rfl,Lib.hid (by rw [List.take_zero,rnTs];exact RowG.startT Vol w)⟩
 case round =>
  obtain ⟨k,s',cap',vs,hk,rfl,rfl,HR⟩:=hrel
  by_cases hlt:k < l.length
  ·have hsl:∀ j,j < w.heap.size→s' ≠ some ⟨j,0,none⟩:=fun j hj e=>by have:=(HR.out.own.lt j (by rw [e];rfl)).1;omega
   have hbz0:=below_alloc wr (.cells #[] 3)
   have hlk:(rnTs met (l.take k)).length=k:=by rw [rnTs_length,List.length_take];omega
   have hset:∀ X,X=wr.heap.size→∀ j,j < w.heap.size→((Vol j ∨ s'=some ⟨j,0,none⟩) ∨ j=X)→Vol j:=fun X hX j hj e=>by
    have:=HR.out.below.size
    rcases e with (e | e) | e
    ·exact e
    ·exact absurd e (hsl j hj)
    ·omega
   obtain ⟨gg,o,vi,rfl,hg,_,hvi,hc⟩:=RowW.at (RowW.step (TyW.step d) Vol (fun j=>(Vol j ∨ s'=some ⟨j,0,none⟩) ∨ j=wr.heap.size) _ _ _ _ HV.out (Kb.of_below HR.out.below) (hset _ rfl)) k hlt
   have hmet:=RowW.step IntH.step Vol (fun j=>(Vol j ∨ s'=some ⟨j,0,none⟩) ∨ j=wr.heap.size) _ _ _ _ HM.out (Kb.of_below HR.out.below) (hset _ rfl)
   obtain ⟨B1,n1,c1,rfl⟩:=hvi.this
   obtain ⟨d',hd',hrow⟩:=hvi.rowB
   have a0:=(hc 0 (by decide)).trans rfl
   have a1:=(hc 1 (by decide)).trans rfl
   have a2:=(hc 2 (by decide)).trans rfl
   have a3:=(hc 3 (by decide)).trans rfl
   simp only [cellsL,Value.cells,List.getElem?_cons_zero,List.getElem?_cons_succ,Nat.add_zero] at a0 a1 a2 a3
   have hk0:(0:Int)≤(k:Int):=by omega
   have hk1:(k:Int) < (l.length:Int):=by omega
   have hdc:decide (k < l.length)=true:=by simpa using hlt
   have hnk:rnTs met (l.take (k+1))=rnTs met (l.take k)++[rnT met l[k]]:=by rw [List.take_succ_eq_append_getElem hlt,rnTs_snoc]
   have hsx:sizeT l[k]≤2000000:=by have h1:=sizeTs_mem hlt;have:=HSZ.out;omega
   have HLT:=Lib.hid hlt
   have HMN:=Lib.hid (HR.out.mine HVL.out)
   have hlkk:(rnTs met (l.take k)).length≤2000000:=by omega
   generalize hacc:rnTs met (l.take k)=acc at HR hnk hlk hlkk ⊢
   generalize hxx:l[k]=x at hvi hrow a0 a1 a2 a3 hnk hsx ⊢
   have hrx:=rnT_mk met x
   have hbz:=below_alloc wr (.cells #[.int .i64 x.kind,.string x.name,.int .i64 x.var,.slice B1 n1 c1] 32)
   have HBZ:=Lib.hid hbz
   have HXB:=Lib.hid (heap_alloc_new wr (.cells #[.int .i64 x.kind,.string x.name,.int .i64 x.var,.slice B1 n1 c1] 32))
   have HDD:=Lib.hid hd'
   have HROW:=Lib.hid ((RowW.step (TyW.step d')).below hrow hbz)
   have HMET:=Lib.hid ((RowW.step IntH.step).below hmet hbz)
   have HNK:=Lib.hid hnk
   have HSX:=Lib.hid hsx
   have hbs:=HBZ.out.size
   have hws:=HR.out.below.size
   have HMW0:Hid (∀ k,((Vol k ∨ s'=some ⟨k,0,none⟩) ∨ k=wr.heap.size)→k < wr.heap.size+1):=Lib.hid (fun k e=>by
    rcases e with e | e
    ·have:=HMN.out k e;omega
    ·omega)
   have hw1:(wr.alloc (.cells #[.int .i64 x.kind,.string x.name,.int .i64 x.var,.slice B1 n1 c1] 32)).heap.size=wr.heap.size+1:=by simp
   have HMW:Hid (∀ k,((Vol k ∨ s'=some ⟨k,0,none⟩) ∨ k=wr.heap.size)→k < (wr.alloc (.cells #[.int .i64 x.kind,.string x.name,.int .i64 x.var,.slice B1 n1 c1] 32)).heap.size):=Lib.hid (fun k e=>by rw [hw1];exact HMW0.out k e)
   have HXL:Hid (wr.heap.size≤wr.heap.size):=Lib.hid (Nat.le_refl _)
   clear hc hvi hrow hbz hd' hnk hsx hacc hxx hlt hsl hset hmet hbz0 hlk HMW0 hw1
   go_upto_region 5 with fail
   clear a0 a1 a2 a3
   generalize (wr.alloc (.cells #[.int .i64 x.kind,.string x.name,.int .i64 x.var,.slice B1 n1 c1] 32))=W at HBZ HXB HROW HMET HMW hbs ⊢
   generalize hXX:wr.heap.size=X at HXB HXL HROW HMET HMW ⊢
   rw [← hXX] at HXL
   have HXL:Hid (wr.heap.size≤X):=Lib.hid (Nat.le_of_eq hXX)
   clear hXX hbs
   have x0:=(cellH HXB.out 0).trans rfl
   have x1:=(cellH HXB.out 1).trans rfl
   have x2:=(cellH HXB.out 2).trans rfl
   have fx2:=frozenH HXB.out 2
   by_cases k4:x.kind=4
   ·have e4:(x.kind == 4)=true:=by simpa using k4
    have HK4:=Lib.hid k4
    clear k4
    go_wp2_with fail
    go_loopw [22] (fun t wq=>∃ j:Nat,j≤met.length∧t=.int .i64 j∧wq=W∧Hid (∀ (i:Nat) (h:i < met.length),i < j→¬ met[i]=x.var)) (fun t _=>met.length - (intOf t).toNat)
    case atStart=>exact ⟨0,Nat.zero_le _,rfl,rfl,Lib.hid (fun i _ h=>by omega)⟩
    case round =>
     obtain ⟨j,hj,rfl,rfl,HN⟩:=hrel
     by_cases hltj:j < met.length
     ·obtain ⟨g7,o7,u7,rfl,hg7,_,hu7,hc7⟩:=RowW.at HMET.out j hltj
      obtain rfl:u7=.int .i64 met[j]:=hu7
      have a0:=(hc7 0 (by decide)).trans rfl
      simp only [cellsL,Value.cells,List.getElem?_cons_zero,Nat.add_zero,Nat.mul_one] at a0
      have hj0:(0:Int)≤(j:Int):=by omega
      have hj1:(j:Int) < (met.length:Int):=by omega
      have hdj:decide (j < met.length)=true:=by simpa using hltj
      have HLJ:=Lib.hid hltj
      clear hc7
      by_cases he:met[j]=x.var
      ·have hb:(met[j] == x.var)=true:=by simpa using he
       have hin:x.var ∈ met:=he ▸ List.getElem_mem hltj
       have hpos:=posI_first hltj he HN.out
       rw [if_pos ⟨HK4.out,hin⟩,hpos] at hrx
       have HRX:=Lib.hid hrx
       clear hrx hin hpos
       go_upto_region 12 with fail
       have hq:=put2b (.int .i64 (j:Int)) HXB.out
       have hkq:=kput1 wr X 2 (.int .i64 (j:Int))
       generalize (wr.setCell ⟨X,2,none⟩ (.int .i64 (j:Int)))=WB at hq hkq ⊢
       have HBX:=Lib.hid hq
       have HBW:=Lib.hid (HBZ.out.trans (hkq.below HBZ.out.size (fun k (e:k=X)=>by rw [e];exact HXL.out)))
       have HROW:=Lib.hid (RowW.step (TyW.step d') _ (fun k=>(Vol k ∨ s'=some ⟨k,0,none⟩) ∨ k=X) _ _ _ _ HROW.out (hkq.wider (fun k _ e=>.inr e)) (fun _ _ e=>e))
       have HMET:=Lib.hid (RowW.step IntH.step _ (fun k=>(Vol k ∨ s'=some ⟨k,0,none⟩) ∨ k=X) _ _ _ _ HMET.out (hkq.wider (fun k _ e=>.inr e)) (fun _ _ e=>e))
       have HMW:Hid (∀ k,((Vol k ∨ s'=some ⟨k,0,none⟩) ∨ k=X)→k < WB.heap.size):=Lib.hid (fun k e=>Nat.lt_of_lt_of_le (HMW.out k e) hkq.size)
       clear hq hkq x0 x1 x2 fx2 a0
       have b3:=(cellH HBX.out 3).trans rfl
       have f3:=frozenH HBX.out 3
       have HX:=Lib.hid (HC.out d' HDD.out (fun k=>(Vol k ∨ s'=some ⟨k,0,none⟩) ∨ k=X) met _ x.args _ WB HROW.out HMET.out (by have:=HSX.out;rw [size_args] at this;omega) HML.out HMW.out)
       go_wp2_with (first
        | (go_at_call 70;have hxq:=HX.out;with_reducible refine hxq.mono ?_;clear hxq;rintro e w5 ⟨v5,rfl,hv5,hb5⟩;obtain ⟨A5,c5,rfl⟩:=hv5.slice;have hl5:(rnTs met x.args).length=x.args.length:=rnTs_length _ _;generalize hr5:rnTs met x.args=r5 at hv5 hl5;have HE5:=Lib.hid hr5;clear hr5;have HV5:=Lib.hid hv5;have hx5:=(hb5.block X (Array.getElem?_eq_some_iff.1 HBX.out).1).trans HBX.out;have hq5:=put3b (.slice A5 r5.length c5) hx5;have hk5:=kput1 w5 X 3 (.slice A5 r5.length c5);have z0:=(cellH hq5 0).trans rfl;have z1:=(cellH hq5 1).trans rfl;have z2:=(cellH hq5 2).trans rfl;have z3:=(cellH hq5 3).trans rfl;have y3:=(cellH hx5 3).trans rfl;have g3:=frozenH hx5 3;have HB5:=Lib.hid (HBW.out.trans ((hb5.mono HBW.out.size).trans (hk5.below (Nat.le_trans HBW.out.size hb5.size) (fun k (e:k=X)=>by rw [e];exact HXL.out))));have HVY:=Lib.hid (mk_after (k:=x.kind) (s:=x.name) (n:=((j:Int))) HV5.out hk5);have HO5:=Lib.hid (own_belowN HR.out.own HB5.out);have hs5:=HB5.out.size;clear hv5 hb5 hx5 hq5 hk5 hl5)
        | (at_builtin;refine wpList_append_lies _ rfl _ _ 27 rfl w.heap.size 32 i0 (.agg #[.int .i64 0,.string ⟨#[]⟩,.int .i64 0,.slice none 0 0]) 4 56 Tryd.underlying27 HI0.out HI1.out HI2.out HI3.out rfl (by decide) _ _ _ rfl (HO5.out.alloc _) ⟨w5.heap.size,0,none⟩ 1 1 [.int .i64 x.kind,.string x.name,.int .i64 ((j:Int)),.slice A5 r5.length c5] rfl rfl (cells_new _ #[.int .i64 x.kind,.string x.name,.int .i64 ((j:Int)),.slice A5 r5.length c5] _ _ (by simp)) (by simp [Value.oneCell']) (by decide) (by unfold maxLen;omega) (by omega) (by simp at hs5 ⊢;omega) _ rfl ?_;intro g2 cap2 w6 hown6 hg6 hat6 _;have HO6:=Lib.hid hown6;have HG6:=Lib.hid hg6;have HA6:=Lib.hid hat6;clear hown6 hg6 hat6))
       have HNX:=Lib.hid (HR.out.snoc TyE.step HVL.out HB5.out HVY.out HO6.out HG6.out HA6.out)
       go_roundw
       case rel=>exact ⟨k+1,some ⟨g2,0,none⟩,cap2,_,by have:=HLT.out;omega,by rw [HNK.out,HRX.out,HE5.out,List.length_append];rfl,by go_num,by rw [HNK.out,HRX.out,HE5.out];exact HNX⟩
       case measure=>have:=HLT.out;simp [intOf];omega
      ·have hb:(met[j] == x.var)=false:=by simpa using he
       go_wp2_with fail
       go_roundw
       case rel=>exact ⟨j+1,by have:=HLJ.out;omega,by go_num,by first | trivial | rfl,Lib.hid (fun i h hi=>by
        by_cases e:i=j
        ·subst e;exact he
        ·exact HN.out i h (by omega))⟩
       case measure=>have:=HLJ.out;simp [intOf];omega
     ·obtain rfl:j=met.length:=by omega
      have hdj:decide (met.length < met.length)=false:=by simp
      have hin:¬ x.var ∈ met:=fun h=>by
       obtain ⟨i,hi,e⟩:=List.getElem_of_mem h
       exact HN.out i hi hi e
      rw [if_neg (fun h=>hin h.2)] at hrx
      have HRX:=Lib.hid hrx
      have HBX:=HXB
      have HBW:=HBZ
      clear hrx hin
      go_upto_region 12 with fail
      have b3:=(cellH HBX.out 3).trans rfl
      have f3:=frozenH HBX.out 3
      have HX:=Lib.hid (HC.out d' HDD.out (fun k=>(Vol k ∨ s'=some ⟨k,0,none⟩) ∨ k=X) met _ x.args _ wr HROW.out HMET.out (by have:=HSX.out;rw [size_args] at this;omega) HML.out HMW.out)
      go_wp2_with (first
       | (go_at_call 70;have hxq:=HX.out;with_reducible refine hxq.mono ?_;clear hxq;rintro e w5 ⟨v5,rfl,hv5,hb5⟩;obtain ⟨A5,c5,rfl⟩:=hv5.slice;have hl5:(rnTs met x.args).length=x.args.length:=rnTs_length _ _;generalize hr5:rnTs met x.args=r5 at hv5 hl5;have HE5:=Lib.hid hr5;clear hr5;have HV5:=Lib.hid hv5;have hx5:=(hb5.block X (Array.getElem?_eq_some_iff.1 HBX.out).1).trans HBX.out;have hq5:=put3b (.slice A5 r5.length c5) hx5;have hk5:=kput1 w5 X 3 (.slice A5 r5.length c5);have z0:=(cellH hq5 0).trans rfl;have z1:=(cellH hq5 1).trans rfl;have z2:=(cellH hq5 2).trans rfl;have z3:=(cellH hq5 3).trans rfl;have y3:=(cellH hx5 3).trans rfl;have g3:=frozenH hx5 3;have HB5:=Lib.hid (HBW.out.trans ((hb5.mono HBW.out.size).trans (hk5.below (Nat.le_trans HBW.out.size hb5.size) (fun k (e:k=X)=>by rw [e];exact HXL.out))));have HVY:=Lib.hid (mk_after (k:=x.kind) (s:=x.name) (n:=(x.var)) HV5.out hk5);have HO5:=Lib.hid (own_belowN HR.out.own HB5.out);have hs5:=HB5.out.size;clear hv5 hb5 hx5 hq5 hk5 hl5)
       | (at_builtin;refine wpList_append_lies _ rfl _ _ 27 rfl w.heap.size 32 i0 (.agg #[.int .i64 0,.string ⟨#[]⟩,.int .i64 0,.slice none 0 0]) 4 56 Tryd.underlying27 HI0.out HI1.out HI2.out HI3.out rfl (by decide) _ _ _ rfl (HO5.out.alloc _) ⟨w5.heap.size,0,none⟩ 1 1 [.int .i64 x.kind,.string x.name,.int .i64 (x.var),.slice A5 r5.length c5] rfl rfl (cells_new _ #[.int .i64 x.kind,.string x.name,.int .i64 (x.var),.slice A5 r5.length c5] _ _ (by simp)) (by simp [Value.oneCell']) (by decide) (by unfold maxLen;omega) (by omega) (by simp at hs5 ⊢;omega) _ rfl ?_;intro g2 cap2 w6 hown6 hg6 hat6 _;have HO6:=Lib.hid hown6;have HG6:=Lib.hid hg6;have HA6:=Lib.hid hat6;clear hown6 hg6 hat6))
      have HNX:=Lib.hid (HR.out.snoc TyE.step HVL.out HB5.out HVY.out HO6.out HG6.out HA6.out)
      go_roundw
      case rel=>exact ⟨k+1,some ⟨g2,0,none⟩,cap2,_,by have:=HLT.out;omega,by rw [HNK.out,HRX.out,HE5.out,List.length_append];rfl,by go_num,by rw [HNK.out,HRX.out,HE5.out];exact HNX⟩
      case measure=>have:=HLT.out;simp [intOf];omega
   ·have e4:(x.kind == 4)=false:=by simpa using k4
    rw [if_neg (fun h=>k4 h.1)] at hrx
    have HRX:=Lib.hid hrx
    have HBX:=HXB
    have HBW:=HBZ
    clear hrx k4
    go_upto_region 12 with fail
    have b3:=(cellH HBX.out 3).trans rfl
    have f3:=frozenH HBX.out 3
    have HX:=Lib.hid (HC.out d' HDD.out (fun k=>(Vol k ∨ s'=some ⟨k,0,none⟩) ∨ k=X) met _ x.args _ W HROW.out HMET.out (by have:=HSX.out;rw [size_args] at this;omega) HML.out HMW.out)
    go_wp2_with (first
     | (go_at_call 70;have hxq:=HX.out;with_reducible refine hxq.mono ?_;clear hxq;rintro e w5 ⟨v5,rfl,hv5,hb5⟩;obtain ⟨A5,c5,rfl⟩:=hv5.slice;have hl5:(rnTs met x.args).length=x.args.length:=rnTs_length _ _;generalize hr5:rnTs met x.args=r5 at hv5 hl5;have HE5:=Lib.hid hr5;clear hr5;have HV5:=Lib.hid hv5;have hx5:=(hb5.block X (Array.getElem?_eq_some_iff.1 HBX.out).1).trans HBX.out;have hq5:=put3b (.slice A5 r5.length c5) hx5;have hk5:=kput1 w5 X 3 (.slice A5 r5.length c5);have z0:=(cellH hq5 0).trans rfl;have z1:=(cellH hq5 1).trans rfl;have z2:=(cellH hq5 2).trans rfl;have z3:=(cellH hq5 3).trans rfl;have y3:=(cellH hx5 3).trans rfl;have g3:=frozenH hx5 3;have HB5:=Lib.hid (HBW.out.trans ((hb5.mono HBW.out.size).trans (hk5.below (Nat.le_trans HBW.out.size hb5.size) (fun k (e:k=X)=>by rw [e];exact HXL.out))));have HVY:=Lib.hid (mk_after (k:=x.kind) (s:=x.name) (n:=(x.var)) HV5.out hk5);have HO5:=Lib.hid (own_belowN HR.out.own HB5.out);have hs5:=HB5.out.size;clear hv5 hb5 hx5 hq5 hk5 hl5)
     | (at_builtin;refine wpList_append_lies _ rfl _ _ 27 rfl w.heap.size 32 i0 (.agg #[.int .i64 0,.string ⟨#[]⟩,.int .i64 0,.slice none 0 0]) 4 56 Tryd.underlying27 HI0.out HI1.out HI2.out HI3.out rfl (by decide) _ _ _ rfl (HO5.out.alloc _) ⟨w5.heap.size,0,none⟩ 1 1 [.int .i64 x.kind,.string x.name,.int .i64 (x.var),.slice A5 r5.length c5] rfl rfl (cells_new _ #[.int .i64 x.kind,.string x.name,.int .i64 (x.var),.slice A5 r5.length c5] _ _ (by simp)) (by simp [Value.oneCell']) (by decide) (by unfold maxLen;omega) (by omega) (by simp at hs5 ⊢;omega) _ rfl ?_;intro g2 cap2 w6 hown6 hg6 hat6 _;have HO6:=Lib.hid hown6;have HG6:=Lib.hid hg6;have HA6:=Lib.hid hat6;clear hown6 hg6 hat6))
    have HNX:=Lib.hid (HR.out.snoc TyE.step HVL.out HB5.out HVY.out HO6.out HG6.out HA6.out)
    go_roundw
    case rel=>exact ⟨k+1,some ⟨g2,0,none⟩,cap2,_,by have:=HLT.out;omega,by rw [HNK.out,HRX.out,HE5.out,List.length_append];rfl,by go_num,by rw [HNK.out,HRX.out,HE5.out];exact HNX⟩
    case measure=>have:=HLT.out;simp [intOf];omega
  ·obtain rfl:k=l.length:=by omega
   have hdc:decide (l.length < l.length)=false:=by simp
   rw [List.take_length] at HR ⊢
   go_wp2_with fail
   go_ret
   exact ⟨_,rfl,HR.out.held TyE.step tyECells HVL.out,HR.out.below⟩
theorem renum_any (d:Nat):RenumC d:=by
 induction d using Nat.strongRecOn with
 | _ d ih=>exact renum_step d (Lib.hid ih)
set_option maxRecDepth 100000 in
theorem rplain_any (d:Nat) (Vol:Nat→Prop) (l:List TyT) (v:Value) (w:World) (hv:RowW 4 (TyW d) Vol l v w) (hsz:sizeTs l≤2000000) (hvl:∀ k,Vol k→k < w.heap.size) :
  Calls Tryd.prog 33 #[v] w fun e w'=>∃ v',e=.returned v'∧RowW 4 TyE Vol (pis [] l).2 v' w'∧Below w.heap.size w w':=by
 obtain ⟨A,c,rfl⟩:=hv.slice
 have hml:(dd [] (occsL l)).length≤2000000:=by
  have h1:=dd_few (occsL l) []
  have h2:=occsL_few l
  simp only [List.length_nil] at h1
  omega
 have HF:=Lib.hid (frees_any d Vol l _ w hv hsz hvl)
 have HV:=Lib.hid hv
 have HVL:=Lib.hid hvl
 have HML:=Lib.hid hml
 clear hv hvl hml
 go_enter Tryd.func33,Tryd.ntmps33
 go_wp2_with fail
 refine HF.out.mono ?_
 rintro e w1 ⟨v1,rfl,hv1,hb1⟩
 have HR:=Lib.hid (renum_any d Vol _ v1 l _ w1 ((RowW.step (TyW.step d)).below HV.out hb1) hv1 hsz HML.out (fun k e=>Nat.lt_of_lt_of_le (HVL.out k e) hb1.size))
 have HB1:=Lib.hid hb1
 obtain ⟨A1,c1,rfl⟩:=hv1.slice
 clear hv1 hb1
 go_wp2_with fail
 refine HR.out.mono ?_
 rintro e w2 ⟨v2,rfl,hv2,hb2⟩
 have HV2:=Lib.hid hv2
 have HB2:=Lib.hid (HB1.out.trans (hb2.mono HB1.out.size))
 clear hv2 hb2
 go_wp2_with fail
 go_ret
 exact ⟨_,rfl,by rw [plain_rn];exact HV2.out,HB2.out⟩
end Lx
end Go.Proofs.YtnpacamcgifabaaDoor
