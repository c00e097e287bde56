/- Package unify: occurs in general: whether an unknown stands in what a type comes to. Conditions: as each states. -/
import Derived.Test.YtnpacamcgifabaaDoorVe
import Derived.Test.YtnpacamcgifabaaDoorUn
namespace Go.Proofs.YtnpacamcgifabaaDoor
set_option linter.unusedSimpArgs false
set_option linter.unusedVariables false
namespace Lx
open Go Go.RowKit
/-- A table as it stands: its types come to r; just the unknowns of F are not bound. -/
def TSt (Vol:Nat→Prop) (b g m cap:Nat) (r:Rho) (rk:Nat→Nat) (F:Nat→Prop) (w:World):Prop:=∃ Bd,Bds m r Bd rk∧(∀ i,Bd i=none ↔ F i)∧TabT Vol b g m cap Bd w
section
variable {Vol Vol':Nat→Prop} {b g m cap:Nat} {r:Rho} {rk:Nat→Nat} {F:Nat→Prop} {w w':World}
theorem TSt.below (h:TSt Vol b g m cap r rk F w) (hb:Below w.heap.size w w'):TSt Vol b g m cap r rk F w':=by
 obtain ⟨Bd,h1,h2,h3⟩:=h
 exact ⟨Bd,h1,h2,h3.below hb⟩
theorem TSt.kb {S:Nat→Prop} (h:TSt Vol b g m cap r rk F w) (hk:Kb S w w') (hS:∀ k,S k→Vol k) (hg:¬ S g):TSt Vol b g m cap r rk F w':=by
 obtain ⟨Bd,h1,h2,h3⟩:=h
 exact ⟨Bd,h1,h2,h3.kb hk hS hg⟩
theorem TSt.vol (h:TSt Vol b g m cap r rk F w) (hv:∀ k,k < w.heap.size→Vol' k→Vol k) (hg:Vol' g):TSt Vol' b g m cap r rk F w:=by
 obtain ⟨Bd,h1,h2,h3⟩:=h
 exact ⟨Bd,h1,h2,h3.vol hv hg⟩
theorem TSt.glt (h:TSt Vol b g m cap r rk F w):g < w.heap.size:=by
 obtain ⟨Bd,_,_,h3⟩:=h
 exact h3.glt
theorem TSt.volg (h:TSt Vol b g m cap r rk F w):Vol g:=by
 obtain ⟨Bd,_,_,h3⟩:=h
 exact h3.volg
theorem TSt.res (h:TSt Vol b g m cap r rk F w):Res m r:=by
 obtain ⟨Bd,h1,_,_⟩:=h
 exact h1.res
/-- A head, by the table's state alone. -/
theorem head_st (h:TSt Vol b g m cap r rk F w) (t:TyT) (gt:goodT m t) (v:Value) (hv:∃ d,TyW d Vol t v w) (hvl:∀ k,Vol k→k < w.heap.size) :
  Calls Tryd.prog 85 #[.pointer (some ⟨b,0,none⟩),v] w fun e w'=>∃ t' v',e=.returned v'∧goodT m t'∧sub r t'=sub r t∧(t'.kind=4→sub r t'=t')∧(∃ d,TyW d Vol t' v' w')∧TSt Vol b g m cap r rk F w'∧HeadK g w w':=by
 obtain ⟨Bd,h1,h2,h3⟩:=h
 refine (head_gen Vol b g m cap r Bd rk h1 t gt v w hv h3 hvl).mono ?_
 rintro e w' ⟨t',v',Bd',e1,e2,e3,e4,e5,e6,e7,e8,e9⟩
 exact ⟨t',v',e1,e2,e3,e4,e5,⟨Bd',e6,fun i=>(e7 i).trans (h2 i),e8⟩,e9⟩
end
/-- The two boxed arguments. -/
def BoxV (b:Nat) (v:Int) (N:Nat) (W:World):Prop:=W.heap[N]?=some (.cells #[.pointer (some ⟨b,0,none⟩)] 24 (0,0))∧W.heap[N+1]?=some (.cells #[.int .i64 v] 3 (0,0))
theorem BoxV.keep {b:Nat} {v:Int} {N g:Nat} {W X:World} (h:BoxV b v N W) (hk:Kb (fun k=>k=g) W X) (hg:g < N):BoxV b v N X :=
 ⟨(hk.block _ (Array.getElem?_eq_some_iff.1 h.1).1 (by omega)).trans h.1,(hk.block _ (Array.getElem?_eq_some_iff.1 h.2).1 (by omega)).trans h.2⟩
theorem HoldW_keep {d:Nat} {Vol:Nat→Prop} {g:Nat} {l:List TyT} {v:Value} {w w':World} (h:RowW 4 (TyW d) Vol l v w) (hk:Kb (fun k=>k=g) w w') (hg:Vol g):RowW 4 (TyW d) Vol l v w' :=
 RowW.step (TyW.step d) _ _ _ _ _ _ h (hk.wider (fun k _ (e:k=g)=>by subst e;exact hg)) (fun _ _ e=>e)
def OccC (b g m cap:Nat) (r:Rho) (rk:Nat→Nat) (v s:Nat):Prop:=∀ (Vol:Nat→Prop) (F:Nat→Prop) (t:TyT) (val:Value) (w:World),(∃ d,TyW d Vol t val w)→goodT m t→sizeT (sub r t) < s→TSt Vol b g m cap r rk F w→(∀ k,Vol k→k < w.heap.size) →
 Calls Tryd.prog 106 #[.pointer (some ⟨b,0,none⟩),.int .i64 v,val] w fun e w'=>e=.returned (.bool (decide (occT v (sub r t) ≠ 0)))∧TSt Vol b g m cap r rk F w'∧HeadK g w w'
section
variable (b g m cap:Nat) (r:Rho) (rk:Nat→Nat) (v s:Nat) (Vol F:Nat→Prop)
theorem occ_in (HC:Hid (OccC b g m cap r rk v s)) (N:Nat) (t:TyT) (val:Value) (w:World) (hbx:BoxV b v N w) (hv:∃ d,TyW d Vol t val w) (gt:goodT m t) (hs:sizeT (sub r t) < s) (hT:TSt Vol b g m cap r rk F w) (hvl:∀ k,Vol k→k < w.heap.size) :
  Calls Tryd.prog 116 #[val,.pointer (some ⟨N,0,none⟩),.pointer (some ⟨N+1,0,none⟩)] w fun e w'=>e=.returned (.bool (decide (occT v (sub r t) ≠ 0)))∧TSt Vol b g m cap r rk F w'∧HeadK g w w':=by
 obtain ⟨d,hv⟩:=hv
 obtain ⟨A,l,c,rfl⟩:=hv.this
 have hb0:=below_alloc w (.cells #[.int .i64 t.kind,.string t.name,.int .i64 t.var,.slice A l c] 32)
 have HX:=Lib.hid (HC.out Vol F t _ _ ⟨d,(TyW.step d).below hv hb0⟩ gt hs (hT.below hb0) (fun k e=>Nat.lt_of_lt_of_le (hvl k e) hb0.size))
 have HK:=Lib.hid (HeadK.of_below hT.glt hb0)
 have p0:=(cellH ((hb0.block N (Array.getElem?_eq_some_iff.1 hbx.1).1).trans hbx.1) 0).trans rfl
 have p1:=(cellH ((hb0.block (N+1) (Array.getElem?_eq_some_iff.1 hbx.2).1).trans hbx.2) 0).trans rfl
 clear hb0 hbx hv gt hs hT hvl
 generalize decide (occT v (sub r t) ≠ 0)=p at HX ⊢
 go_enter Tryd.func116,Tryd.ntmps116
 go_wp2_with fail
 refine HX.out.mono ?_
 rintro e w3 ⟨rfl,h3,h4⟩
 have H3:=Lib.hid h3
 have H4:=Lib.hid (HK.out.trans h4)
 clear h3 h4 p0 p1
 go_wp2_with fail
 go_ret
 exact ⟨rfl,H3.out,H4.out⟩
set_option maxRecDepth 100000 in
set_option maxHeartbeats 4000000 in
theorem occ_contains (HC:Hid (OccC b g m cap r rk v s)) (N d:Nat) (l:List TyT) (va:Value) (w:World) (hbx:BoxV b v N w) (hgN:g < N) (hv:RowW 4 (TyW d) Vol l va w) (gt:goodTs m l) (hs:∀ (i:Nat) (h:i < l.length),sizeT (sub r l[i]) < s) (hT:TSt Vol b g m cap r rk F w) (hvl:∀ k,Vol k→k < w.heap.size) :
  Calls Tryd.prog 82 #[va,.func (.func 116) #[] #[.pointer (some ⟨N,0,none⟩),.pointer (some ⟨N+1,0,none⟩)]] w fun e w'=>e=.returned (.bool (l.any (fun t=>decide (occT v (sub r t) ≠ 0))))∧TSt Vol b g m cap r rk F w'∧HeadK g w w':=by
 have HI:Hid (Calls Tryd.prog 104 #[va,.func (.func 116) #[] #[.pointer (some ⟨N,0,none⟩),.pointer (some ⟨N+1,0,none⟩)]] w fun e w'=>∃ z:Int,e=.returned (.int .i64 z)∧decide (z ≥ 0)=l.any (fun t=>decide (occT v (sub r t) ≠ 0))∧TSt Vol b g m cap r rk F w'∧HeadK g w w'):=Lib.hid (by
  obtain ⟨A,c,rfl⟩:=hv.slice
  have hfew:=hv.few
  unfold maxLen at hfew
  have HV:=Lib.hid hv
  have HBX:=Lib.hid hbx
  have HGT:=Lib.hid gt
  have HSZ:=Lib.hid hs
  have HT:=Lib.hid hT
  have HVL:=Lib.hid hvl
  have HGN:=Lib.hid hgN
  have HVG:=Lib.hid hT.volg
  clear hv hbx gt hs hT hvl hgN
  go_enter Tryd.func104,Tryd.ntmps104
  go_wp2_with fail
  go_loopw [8] (fun t wr=>∃ k:Nat,k≤l.length∧t=.int .i64 k∧Hid (HeadK g w wr)∧Hid (TSt Vol b g m cap r rk F wr)∧Hid (∀ (j:Nat) (h:j < l.length),j < k→decide (occT v (sub r l[j]) ≠ 0)=false)) (fun t _=>l.length - (intOf t).toNat)
  case atStart=>exact ⟨0,Nat.zero_le _,rfl,Lib.hid (HeadK.refl _ _),HT,Lib.hid (fun j _ h=>by omega)⟩
  case round =>
   obtain ⟨k,hk,rfl,HK,HTK,HN⟩:=hrel
   by_cases hlt:k < l.length
   ·obtain ⟨gg,o,vi,rfl,hg,_,hvi,hc⟩:=RowW.at (HoldW_keep HV.out HK.out.kb HVG.out) k hlt
    obtain ⟨B1,n1,c1,rfl⟩:=hvi.this
    have a0:=(hc 0 (by decide)).trans rfl
    have a1:=(hc 1 (by decide)).trans rfl
    have a2:=(hc 2 (by decide)).trans rfl
    have a3:=(hc 3 (by decide)).trans rfl
    simp only [cellsL,Value.cells,List.getElem?_cons_zero,List.getElem?_cons_succ,Nat.add_zero] at a0 a1 a2 a3
    have HX:=Lib.hid (occ_in b g m cap r rk v s Vol F HC N l[k] _ _ (HBX.out.keep HK.out.kb HGN.out) ⟨d,hvi⟩ (goodTs_mem HGT.out hlt) (HSZ.out k hlt) HTK.out (fun k e=>Nat.lt_of_lt_of_le (HVL.out k e) HK.out.kb.size))
    have hk0:(0:Int)≤(k:Int):=by omega
    have hk1:(k:Int) < (l.length:Int):=by omega
    have hdc:decide (k < l.length)=true:=by simpa using hlt
    clear hc hvi
    cases hp:decide (occT v (sub r l[k]) ≠ 0)
    all_goals
     rw [hp] at HX
     go_wp2_with (go_at_call 116;refine HX.out.mono ?_;rintro e w3 ⟨rfl,ht3,hk3⟩;have HT3:=Lib.hid ht3;have HK3:=Lib.hid (HK.out.trans hk3);clear ht3 hk3)
    ·go_roundw
     case rel=>exact ⟨k+1,by omega,by go_num,HK3,HT3,Lib.hid (fun j h hj=>by
      by_cases e:j=k
      ·subst e;exact hp
      ·exact HN.out j h (by omega))⟩
     case measure=>simp [intOf];omega
    ·go_ret
     exact ⟨(k:Int),rfl,by
      have:l.any (fun t=>decide (occT v (sub r t) ≠ 0))=true:=List.any_eq_true.2 ⟨l[k],List.getElem_mem _,hp⟩
      rw [this];simp,HT3.out,HK3.out⟩
   ·obtain rfl:k=l.length:=by omega
    have hdc:decide (l.length < l.length)=false:=by simp
    go_wp2_with fail
    go_ret
    exact ⟨-1,rfl,by
     have:l.any (fun t=>decide (occT v (sub r t) ≠ 0))=false:=by
      rw [List.any_eq_false]
      intro x hx
      obtain ⟨j,hj,rfl⟩:=List.getElem_of_mem hx
      rw [HN.out j hj hj];simp
     rw [this];rfl,HTK.out,HK.out⟩)
 clear hbx hgN hv gt hs hT hvl
 go_enter Tryd.func82,Tryd.ntmps82
 go_wp2_with fail
 refine HI.out.mono ?_
 rintro e w3 ⟨z,rfl,hz,ht,hk⟩
 have HZ:=Lib.hid hz
 have HT:=Lib.hid ht
 have HK:=Lib.hid hk
 clear hz ht hk
 go_wp2_with fail
 go_ret
 exact ⟨by rw [HZ.out];rfl,HT.out,HK.out⟩
theorem occTs_any (v:Nat):∀ l:List TyT,decide (occTs v l ≠ 0)=l.any (fun t=>decide (occT v t ≠ 0))
 | []=>by simp [occTs]
 | x :: l=>by
  have:=occTs_any v l
  simp only [List.any_cons,occTs,← this]
  by_cases h1:occT v x=0 <;> by_cases h2:occTs v l=0 <;> simp [h1,h2]
theorem occT_args {v:Nat} {t:TyT} (hk:t.kind ≠ 4):occT v t=occTs v t.args:=by
 obtain ⟨k,s,n,l⟩:=t
 have hk:k ≠ 4:=hk
 simp [occT,hk,TyT.args]
theorem size_args:∀ t:TyT,sizeT t=1+sizeTs t.args
 | .mk _ _ _ _=>rfl
theorem sizeTs_mem:∀ {l:List TyT} {i:Nat} (h:i < l.length),sizeT l[i]≤sizeTs l
 | [],_,h=>by simp at h
 | x :: l,0,_=>by simp [sizeTs]
 | x :: l,i+1,h=>by
  have:=sizeTs_mem (l:=l) (i:=i) (by simpa using h)
  simp [sizeTs];omega
theorem TyW.row {d:Nat} {Vol:Nat→Prop} {t:TyT} {a0 a1 a2 va:Value} {w:World} (h:TyW d Vol t (.agg #[a0,a1,a2,va]) w):∃ d',RowW 4 (TyW d') Vol t.args va w:=by
 cases d with
 | zero=>exact h.elim
 | succ d =>
  obtain ⟨k,s,n,l⟩:=t
  obtain ⟨va',e,h⟩:=h
  have e2:va=va':=by
   injection e with e
   have:=congrArg (fun x:Array Value=>x[3]?) e
   simpa using this
  subst e2
  exact ⟨d,h⟩
set_option maxRecDepth 100000 in
set_option maxHeartbeats 4000000 in
theorem occ_step (HC:Hid (OccC b g m cap r rk v s)):OccC b g m cap r rk v (s+1):=by
 intro Vol F t val w hv gt hs hT hvl
 obtain ⟨d,hv⟩:=hv
 obtain ⟨A,l,c,rfl⟩:=hv.this
 obtain ⟨p,hp⟩:∃ p,decide (occT v (sub r t) ≠ 0)=p:=⟨_,rfl⟩
 rw [hp]
 have HPP:=Lib.hid hp
 clear hp
 have hB:Below w.heap.size w (((w.alloc (.cells #[.pointer (some ⟨b,0,none⟩)] 24)).alloc (.cells #[.int .i64 v] 3)).alloc (.cells #[.int .i64 t.kind,.string t.name,.int .i64 t.var,.slice A l c] 32)):=((below_alloc _ _).alloc (by simp) _).alloc (by simp;omega) _
 have h0:(((w.alloc (.cells #[.pointer (some ⟨b,0,none⟩)] 24)).alloc (.cells #[.int .i64 v] 3)).alloc (.cells #[.int .i64 t.kind,.string t.name,.int .i64 t.var,.slice A l c] 32)).heap[w.heap.size]?=some (.cells #[.pointer (some ⟨b,0,none⟩)] 24 (0,0)):=(Below.heap_alloc _ _ w.heap.size (by simp;omega)).trans ((Below.heap_alloc _ _ w.heap.size (by simp)).trans (heap_alloc_new _ _))
 have h1:(((w.alloc (.cells #[.pointer (some ⟨b,0,none⟩)] 24)).alloc (.cells #[.int .i64 v] 3)).alloc (.cells #[.int .i64 t.kind,.string t.name,.int .i64 t.var,.slice A l c] 32)).heap[w.heap.size+1]?=some (.cells #[.int .i64 v] 3 (0,0)):=by
  refine (Below.heap_alloc _ _ (w.heap.size+1) (by simp)).trans ?_
  have:=heap_alloc_new (w.alloc (.cells #[.pointer (some ⟨b,0,none⟩)] 24)) (.cells #[.int .i64 v] 3)
  simpa using this
 have h2:(((w.alloc (.cells #[.pointer (some ⟨b,0,none⟩)] 24)).alloc (.cells #[.int .i64 v] 3)).alloc (.cells #[.int .i64 t.kind,.string t.name,.int .i64 t.var,.slice A l c] 32)).heap[w.heap.size+1+1]?=some (.cells #[.int .i64 t.kind,.string t.name,.int .i64 t.var,.slice A l c] 32 (0,0)):=by
  have:=heap_alloc_new ((w.alloc (.cells #[.pointer (some ⟨b,0,none⟩)] 24)).alloc (.cells #[.int .i64 v] 3)) (.cells #[.int .i64 t.kind,.string t.name,.int .i64 t.var,.slice A l c] 32)
  simpa using this
 have hsz:w.heap.size+3≤(((w.alloc (.cells #[.pointer (some ⟨b,0,none⟩)] 24)).alloc (.cells #[.int .i64 v] 3)).alloc (.cells #[.int .i64 t.kind,.string t.name,.int .i64 t.var,.slice A l c] 32)).heap.size:=by simp
 have hback:∀ k,k < w.heap.size→(Vol k ∨ k=w.heap.size+1+1)→Vol k:=fun k hk e=>e.elim id (fun e=>by omega)
 have HG:=Lib.hid hT.glt
 have HVG:=Lib.hid hT.volg
 have HT:=Lib.hid ((hT.vol hback (.inl hT.volg)).below hB)
 have HV:=Lib.hid (TyW.step d _ _ _ _ _ _ hv (Kb.of_below hB) hback)
 have HBX:Hid (BoxV b v w.heap.size _):=Lib.hid ⟨h0,h1⟩
 have H2:=Lib.hid h2
 have HSZ:=Lib.hid hsz
 have HKB:=Lib.hid (HeadK.of_below hT.glt hB)
 have HVL:=Lib.hid hvl
 have HGT:=Lib.hid gt
 have HS:=Lib.hid hs
 clear hB h0 h1 h2 hsz hback hT hv gt hs hvl
 go_enter Tryd.func106,Tryd.ntmps106
 go_wp2_with fail
 generalize (((w.alloc (.cells #[.pointer (some ⟨b,0,none⟩)] 24)).alloc (.cells #[.int .i64 v] 3)).alloc (.cells #[.int .i64 t.kind,.string t.name,.int .i64 t.var,.slice A l c] 32))=Z at HT HV HBX H2 HSZ HKB ⊢
 have hvz:∀ k,(Vol k ∨ k=w.heap.size+1+1)→k < Z.heap.size:=fun k e=>by
  have:=HSZ.out
  rcases e with e | e
  ·have:=HVL.out k e;omega
  ·omega
 refine (head_st HT.out t HGT.out _ ⟨d,HV.out⟩ hvz).mono ?_
 rintro e w1 ⟨t',v',rfl,gt',es,hun,⟨d',hv'⟩,hT1,hK1⟩
 obtain ⟨A',l',c',rfl⟩:=hv'.this
 have HT1:=Lib.hid hT1
 have HV1:=Lib.hid hv'
 have HG1:=Lib.hid gt'
 have HES:=Lib.hid es
 have HUN:=Lib.hid hun
 have HBX1:=Lib.hid (HBX.out.keep hK1.kb HG.out)
 have H21:=Lib.hid ((hK1.kb.block _ (by have:=HSZ.out;omega) (by have:=HG.out;omega)).trans H2.out)
 have HKB1:=Lib.hid (HKB.out.trans hK1)
 have HSZ1:=Lib.hid (Nat.le_trans HSZ.out hK1.kb.size)
 have HVZ1:=Lib.hid (fun k e=>Nat.lt_of_lt_of_le (hvz k e) hK1.kb.size)
 clear hT1 hv' gt' es hun hK1 hvz HT HV HBX H2 HKB HSZ
 have x0:=(cellH H21.out 0).trans rfl
 have x1:=(cellH H21.out 1).trans rfl
 have x2:=(cellH H21.out 2).trans rfl
 have x3:=(cellH H21.out 3).trans rfl
 have f0:=frozenH H21.out 0
 have f1:=frozenH H21.out 1
 have f2:=frozenH H21.out 2
 have f3:=frozenH H21.out 3
 have hk:=kput4 w1 (w.heap.size+1+1) (.int .i64 t'.kind) (.string t'.name) (.int .i64 t'.var) (.slice A' l' c')
 have hq:=put4 (.int .i64 t'.kind) (.string t'.name) (.int .i64 t'.var) (.slice A' l' c') H21.out
 have hTW:=HT1.out.kb hk (fun k e=>.inr e) (by have:=HG.out;omega)
 have hbw:=(show BoxV b v w.heap.size _ from ⟨(hk.block _ (by have:=HSZ1.out;omega) (by omega)).trans HBX1.out.1,(hk.block _ (by have:=HSZ1.out;omega) (by omega)).trans HBX1.out.2⟩)
 have HKW:Hid (HeadK g w _):=Lib.hid (by
  have k0:=HKB1.out.kb
  exact (⟨⟨hk.os.trans k0.os,hk.tape.trans k0.tape,hk.output.trans k0.output,Nat.le_trans k0.size hk.size,fun j hj hn=>(hk.block j (Nat.lt_of_lt_of_le hj k0.size) (fun e=>by omega)).trans (k0.block j hj hn)⟩,fun i j h1 h2=>(World.cell?_of_block (hk.block g HT1.out.glt (by have:=HG.out;omega))).trans (HKB1.out.rest i j h1 h2)⟩:HeadK g w _))
 have HVW:=Lib.hid (TyW.step d' _ _ _ _ _ _ HV1.out (hk.wider (fun k _ e=>.inr e)) (fun _ _ e=>e))
 have HTW:=Lib.hid hTW
 have HBW:=Lib.hid hbw
 have HQ:=Lib.hid hq
 have HSW:=Lib.hid hk.size
 clear hk hq hTW hbw
 by_cases k4:t'.kind=4
 ·obtain ⟨u,hu,rfl⟩:=good_free HG1.out k4
  have HR:Hid (p=((fr u).var == (v:Int))):=Lib.hid (by
   rw [← HPP.out,← HES.out,HUN.out k4,occ_fr]
   show _=((u:Int) == (v:Int))
   by_cases e:u=v
   ·subst e;simp
   ·have h1:((u:Int) == (v:Int))=false:=by simp;omega
    rw [h1];simp [e])
  have ek:((fr u).kind == 4)=true:=rfl
  have y0:=(cellH HQ.out 0).trans rfl
  have y2:=(cellH HQ.out 2).trans rfl
  have p0:=(cellH HBW.out.2 0).trans rfl
  clear k4
  generalize fr u=T at *
  go_wp2_with fail
  go_ret
  refine ⟨by rw [HR.out];rfl,?_,HKW.out⟩
  exact HTW.out.vol (fun k _ e=>.inl e) HVG.out
 ·have e4:(t'.kind == 4)=false:=by simpa using k4
  have y0:=(cellH HQ.out 0).trans rfl
  have y3:=(cellH HQ.out 3).trans rfl
  obtain ⟨dr,hrow⟩:=HVW.out.row
  have HROW:=Lib.hid hrow
  have HSS:Hid (∀ (i:Nat) (h:i < t'.args.length),sizeT (sub r t'.args[i]) < s):=Lib.hid (fun i h=>by
   have h1:=HS.out
   rw [← HES.out,sub_args k4,size_args] at h1
   have h1:1+sizeTs (subs r t'.args) < s+1:=h1
   have h2:=sizeTs_mem (l:=subs r t'.args) (i:=i) (by rw [subs_length];exact h)
   have h3:(subs r t'.args)[i]'(by rw [subs_length];exact h)=sub r t'.args[i]:=by simp [subs_map]
   rw [h3] at h2
   omega)
  have HR:Hid (p=t'.args.any (fun t=>decide (occT v (sub r t) ≠ 0))):=Lib.hid (by
   rw [← HPP.out,← HES.out,sub_args k4,occT_args (by exact k4)]
   show decide (occTs v (subs r t'.args) ≠ 0)=_
   rw [occTs_any,subs_map,List.any_map]
   rfl)
  have HGA:=Lib.hid (good_args HG1.out k4)
  clear hrow
  have HCC:=Lib.hid (occ_contains b g m cap r rk v s _ F HC w.heap.size dr t'.args _ _ HBW.out HG.out HROW.out HGA.out HSS.out HTW.out (fun k e=>Nat.lt_of_lt_of_le (HVZ1.out k e) HSW.out))
  have hp:=HR.out
  rw [← hp] at HCC
  clear hp HR
  go_wp2_with fail
  refine HCC.out.mono ?_
  rintro e w3 ⟨rfl,ht3,hk3⟩
  have HT3:=Lib.hid ht3
  have HK3:=Lib.hid (HKW.out.trans hk3)
  clear ht3 hk3 x0 x1 x2 x3 f0 f1 f2 f3 y0 y3
  go_wp2_with fail
  go_ret
  exact ⟨rfl,HT3.out.vol (fun k _ e=>.inl e) HVG.out,HK3.out⟩
theorem occ_any:∀ s,OccC b g m cap r rk v s
 | 0=>fun _ _ _ _ _ _ _ h _ _=>absurd h (by omega)
 | s+1=>occ_step b g m cap r rk v s (Lib.hid (occ_any s))
end
end Lx
end Go.Proofs.YtnpacamcgifabaaDoor
