/- What the statement UnifyForms has known so far: a map of names to types, the names' row and the types' row; each goes on while another is written. Conditions: as each states. -/
/- Steps of the statement UnifyForms: an append of a text in a region that draws its order; the values of a row that comes in; the entries so far. Conditions: as each states. -/
import Derived.Test.YtnpacamcgifabaaDoorZxK
import Derived.Test.YtnpacamcgifabaaDoorUv
import Derived.Deep.Slices
import Derived.Lib.AppendIntMem
namespace Go.Proofs.YtnpacamcgifabaaDoor
set_option linter.unusedSimpArgs false
set_option linter.unusedVariables false
namespace Lx
open Go Go.RowKit
theorem tyCellsT (n:Nat) (Vol:Nat→Prop) (x:TyT) (v:Value) (w:World) (h:TyW n Vol x v w):(cellsL v).length=4:=by
 obtain ⟨A,l,c,rfl⟩:=h.this
 rfl
theorem own_kbF {S:Nat→Prop} {x y:World} {base sz n:Nat} {e:TypeId} {v:Value} {xs:List Value} (h:x.ownsRow base e sz v n xs) (hk:Kb S x y) (hn:∀ k,v.ownBlock=some k→¬ S k):y.ownsRow base e sz v n xs:=by
 refine ⟨h.1,?_⟩
 rcases h.2 with h1 | ⟨g,cap,cur,e,h2,h3,h4⟩
 ·exact .inl h1
 ·refine .inr ⟨g,cap,cur,e,h2,?_,h4⟩
  subst e
  exact (hk.block g (Array.getElem?_eq_some_iff.1 h3).1 (hn g rfl)).trans h3
theorem own_obj {x:World} {base sz n k:Nat} {e:TypeId} {v:Value} {xs:List Value} (h:x.ownsRow base e sz v n xs) (hk:v.ownBlock=some k):∃ cs,x.heap[k]?=some (.cells cs e (0,0)):=by
 rcases h.2 with ⟨rfl,_⟩ | ⟨g,cap,cur,e,h2,h3,h4⟩
 ·exact absurd hk (by simp [Value.ownBlock])
 ·subst e
  have:g=k:=Option.some.inj hk
  subst this
  exact ⟨_,h3⟩
theorem own_map {x:World} {base sz n mp:Nat} {e t:TypeId} {v:Value} {xs:List Value} {m:List (Value × Value)} (h:x.ownsRow base e sz v n xs) (hm:MapB Tryd.prog t mp m x) {k:Nat} (hk:v.ownBlock=some k):¬ k=mp:=by
 intro ek
 obtain ⟨cs,h1⟩:=own_obj h hk
 obtain ⟨es,clock,h2,_⟩:=hm
 rw [ek,h2] at h1
 cases h1
theorem own_own {x:World} {base base2 sz sz2 n n2:Nat} {e e2:TypeId} {v v2:Value} {xs xs2:List Value} (hne:e ≠ e2) (h:x.ownsRow base e sz v n xs) (h2:x.ownsRow base2 e2 sz2 v2 n2 xs2) {k:Nat} (hk:v.ownBlock=some k):¬ v2.ownBlock=some k:=by
 intro ek
 obtain ⟨cs,h1⟩:=own_obj h hk
 obtain ⟨cs2,h3⟩:=own_obj h2 ek
 rw [h1] at h3
 injection h3 with h3
 injection h3 with _ h3
 exact hne h3
theorem str_ty:(9:TypeId) ≠ 32:=by decide
theorem ty_str:(32:TypeId) ≠ 9:=by decide
theorem runPutV {mp:Nat} {m:List (Value × Value)} {n:ByteArray} {W:World} (v:Value) (h:MapB Tryd.prog 9 mp m W) (hn:n.size≤maxLen) (hin:∀ p ∈ m,p.1 ≠ .string n) :
  ∃ W1,(Instr.mapUpdate 51 (.map (some mp)) (.string n) v).run Tryd.prog W=.ok () W1∧MapB Tryd.prog 9 mp (m++[(.string n,v)]) W1∧Kb (fun k=>k=mp) W W1:=by
 obtain ⟨kl,hkl⟩:=keyS hn
 exact h.put keyStr Tryd.underlying51 hkl hin
abbrev Ent:=(ByteArray × TyT) × Value
def entFM (es:List Ent):List (Value × Value):=es.map fun e=>(.string e.1.1,e.2)
def entFN (es:List Ent):List ByteArray:=es.map fun e=>e.1.1
def entFV (es:List Ent):List Value:=(es.map fun e=>e.2).flatMap cellsL
/-- The map, the names' row, the types' row. -/
structure RegP (B mp:Nat) (w0:World) (M:List (Value × Value)) (N:List ByteArray) (v:Value) (n:Nat) (T:List Value) (u:Value) (w:World):Prop where
 map:MapB Tryd.prog 9 mp M w
 names:OwnS B N v w
 types:w.ownsRow B 32 4 u n T
 low:Below B w0 w
 mpB:B≤mp
 szB:B≤w.heap.size
abbrev KnS (B mp:Nat) (w0:World) (es:List Ent) (vk vt:Value) (w:World):Prop:=RegP B mp w0 (entFM es) (entFN es) vk es.length (entFV es) vt w
theorem kb_grow {w w':World} {row:Option Nat} (hg:w.grownBy w' row):Kb (fun k=>row=some k) w w':=(Kb.refl _ w).grown hg (fun _ e=>e)
section
variable {B mp n:Nat} {w0 w w':World} {M M':List (Value × Value)} {N N':List ByteArray} {v v' u u':Value} {T T':List Value}
theorem RegP.below (h:RegP B mp w0 M N v n T u w) (hb:Below w.heap.size w w'):RegP B mp w0 M N v n T u w' :=
 ⟨h.map.below hb,h.names.below hb,own_belowN h.types hb,h.low.trans (hb.mono h.szB),h.mpB,Nat.le_trans h.szB hb.size⟩
theorem RegP.put (h:RegP B mp w0 M N v n T u w) (hk:Kb (fun k=>k=mp) w w') (hm:MapB Tryd.prog 9 mp M' w'):RegP B mp w0 M' N v n T u w' :=
 ⟨hm,own_kbF h.names hk (fun k hk=>own_map h.names h.map hk),own_kbF h.types hk (fun k hk=>own_map h.types h.map hk),h.low.trans (hk.below h.szB (fun k e=>e ▸ h.mpB)),h.mpB,Nat.le_trans h.szB hk.size⟩
theorem RegP.addN (h:RegP B mp w0 M N v n T u w) (hg:w.grownBy w' v.ownBlock) (ho:OwnS B N' v' w'):RegP B mp w0 M N' v' n T u w' :=
 have hk:=kb_grow hg
 ⟨h.map.kb hk (fun e=>own_map h.names h.map e rfl),ho,own_kbF h.types hk (fun k e=>own_own ty_str h.types h.names e),h.low.trans (hk.below h.szB (fun k e=>(h.names.lt k e).1)),h.mpB,Nat.le_trans h.szB hk.size⟩
theorem RegP.addT {n':Nat} (h:RegP B mp w0 M N v n T u w) (hg:w.grownBy w' u.ownBlock) (ho:w'.ownsRow B 32 4 u' n' T'):RegP B mp w0 M N v n' T' u' w' :=
 have hk:=kb_grow hg
 ⟨h.map.kb hk (fun e=>own_map h.types h.map e rfl),own_kbF h.names hk (fun k e=>own_own str_ty h.names h.types e),ho,h.low.trans (hk.below h.szB (fun k e=>(h.types.lt k e).1)),h.mpB,Nat.le_trans h.szB hk.size⟩
/-- A block of one thing's own, made on the way: it lies behind all that was. -/
structure TmpB (Z T:Nat) (o:Obj) (w:World):Prop where
 blk:w.heap[T]?=some o
 low:Z≤T
theorem TmpB.below {Z t:Nat} {o:Obj} (h:TmpB Z t o w) (hb:Below w.heap.size w w'):TmpB Z t o w':=⟨(hb.block t (Array.getElem?_eq_some_iff.1 h.blk).1).trans h.blk,h.low⟩
theorem TmpB.grown {Z t:Nat} {o:Obj} {row:Option Nat} (h:TmpB Z t o w) (hg:w.grownBy w' row) (hr:∀ k,row=some k→k < Z):TmpB Z t o w' :=
 ⟨(hg.block t (Array.getElem?_eq_some_iff.1 h.blk).1 (fun e=>by have:=hr t e.symm;have:=h.low;omega)).trans h.blk,h.low⟩
end
section
variable {B mp:Nat} {es:List Ent} {vk vt vk' vt':Value} {w0 w w':World}
theorem KnS.start (w:World):KnS w.heap.size w.heap.size w [] (.slice (some ⟨w.heap.size+1,0,none⟩) 0 0) (.slice (some ⟨w.heap.size+2,0,none⟩) 0 0) (((w.alloc (.map #[] 0)).alloc (.cells #[] 9)).alloc (.cells #[] 32)):=by
 have hb1:=below_alloc w (.map #[] 0)
 have hb2:=below_alloc (w.alloc (.map #[] 0)) (.cells #[] 9)
 have hb3:=below_alloc ((w.alloc (.map #[] 0)).alloc (.cells #[] 9)) (.cells #[] 32)
 have h1:=MapB.made (P:=Tryd.prog) (k:=9) w
 have h2:=heap_alloc_new (w.alloc (.map #[] 0)) (.cells #[] 9)
 have h3:=heap_alloc_new ((w.alloc (.map #[] 0)).alloc (.cells #[] 9)) (.cells #[] 32)
 have z1:(w.alloc (.map #[] 0)).heap.size=w.heap.size+1:=by simp
 have z2:((w.alloc (.map #[] 0)).alloc (.cells #[] 9)).heap.size=w.heap.size+2:=by simp
 have z3:(((w.alloc (.map #[] 0)).alloc (.cells #[] 9)).alloc (.cells #[] 32)).heap.size=w.heap.size+3:=by simp
 rw [z1] at h2
 rw [z2] at h3
 have hb:Below w.heap.size w (((w.alloc (.map #[] 0)).alloc (.cells #[] 9)).alloc (.cells #[] 32)):=hb1.trans ((hb2.mono (by omega)).trans (hb3.mono (by omega)))
 refine ⟨(h1.below hb2).below hb3,⟨rfl,.inr ⟨w.heap.size+1,0,#[],rfl,by omega,(hb3.block _ (by omega)).trans h2,Nat.le_refl _,Nat.zero_le _,rfl,rfl⟩⟩,⟨rfl,.inr ⟨w.heap.size+2,0,#[],rfl,by omega,h3,Nat.le_refl _,Nat.zero_le _,rfl,rfl⟩⟩,hb,Nat.le_refl _,by omega⟩
theorem entFN_len (es:List Ent):(entFN es).length=es.length:=by simp [entFN]
theorem entFM_in {es:List Ent} {n:ByteArray} (h:n ∉ entFN es):∀ p ∈ entFM es,p.1 ≠ .string n:=by
 intro p hp e
 obtain ⟨x,hx,rfl⟩:=List.mem_map.1 hp
 injection e with e
 exact h (List.mem_map.2 ⟨x,hx,e⟩)
theorem entFM_snoc (es:List Ent) (x:Ent):entFM (es++[x])=entFM es++[(.string x.1.1,x.2)]:=by simp [entFM]
theorem entFN_snoc (es:List Ent) (x:Ent):entFN (es++[x])=entFN es++[x.1.1]:=by simp [entFN]
theorem entFV_snoc (es:List Ent) (x:Ent):entFV (es++[x])=entFV es++cellsL x.2:=by simp [entFV]
/-- A row of types of one's own, from the cells of its values. -/
theorem own_tys {D:Nat} {Vol:Nat→Prop} {l:List TyT} {vs:List Value} {v:Value} (h:w.ownsRow B 32 4 v l.length (vs.flatMap cellsL)) (hlen:vs.length=l.length) (hel:∀ (i:Nat) (h:i < l.length) (h':i < vs.length),TyW D Vol l[i] vs[i] w) (hv:∀ k,Vol k→k < B):RowW 4 (TyW D) Vol l v w:=by
 have hcc:∃ A c,v=.slice A l.length c∧l.length≤c∧c≤maxLen:=by
  rcases h.2 with ⟨rfl,h0⟩ | ⟨g,cap,cur,rfl,_,_,h1,h2,_⟩
  ·exact ⟨none,0,by rw [h0],by omega,Nat.zero_le _⟩
  ·exact ⟨_,cap,rfl,h1,h2⟩
 obtain ⟨A,c,rfl,h1,h2⟩:=hcc
 refine ⟨A,c,rfl,h1,h2,fun i hi=>?_⟩
 rcases h.2 with ⟨_,e⟩ | ⟨g,cap',cur,e,hg,hb,_⟩
 ·omega
 ·injection e with e _ _
  subst e
  have hi2:i < vs.length:=by omega
  refine ⟨g,0,vs[i],rfl,(Array.getElem?_eq_some_iff.1 hb).1,fun e=>by have:=hv g e;omega,hel i hi hi2,fun j hj=>?_⟩
  have hbd:i * 4+j < l.length * 4:=by omega
  rw [Nat.zero_add,h.cellAt _ hbd]
  refine flat_at 4 vs (fun v hvm=>?_) i j hi2 hj
  obtain ⟨n,hn,rfl⟩:=List.getElem_of_mem hvm
  exact tyCellsT _ _ _ _ _ (hel n (by omega) hn)
/-- What the instances are asked of. -/
theorem KnS.rows {D:Nat} {Vol:Nat→Prop} (h:KnS B mp w0 es vk vt w) (hel:∀ (i:Nat) (h:i < es.length),TyW D Vol es[i].1.2 es[i].2 w) (hno:∀ (i j:Nat) (hi:i < es.length) (hj:j < es.length),j < i→es[j].1.1 ≠ es[i].1.1) (hf:∀ (i:Nat) (h:i < es.length),fewT es[i].1.2) (hv:∀ k,Vol k→k < B) :
  VarsM D Vol mp (es.map (·.1)) w∧RowW 1 StrH Vol ((es.map (·.1)).map Prod.fst) vk w∧RowW 4 (TyW D) Vol ((es.map (·.1)).map Prod.snd) vt w:=by
 refine ⟨⟨entFM es,h.map,by simp [entFM],fun i hi hi'=>?_,fun i j hi hj hji=>?_,fun i hi=>?_⟩,?_,?_⟩
 ·have hi2:i < es.length:=by simpa using hi
  simp only [entFM,List.getElem_map]
  exact ⟨trivial,hel i hi2⟩
 ·simp only [List.getElem_map]
  exact hno i j (by simpa using hi) (by simpa using hj) hji
 ·simp only [List.getElem_map]
  exact hf i (by simpa using hi)
 ·have e:(es.map (·.1)).map Prod.fst=entFN es:=by simp [entFN]
  rw [e]
  exact h.names.row hv
 ·refine own_tys (vs:=es.map fun e=>e.2) ?_ (by simp) (fun i h1 h2=>?_) hv
  ·have e:((es.map (·.1)).map Prod.snd).length=es.length:=by simp
   rw [e]
   exact h.types
  ·simp only [List.getElem_map]
   exact hel i (by simpa using h2)
end
/-- Each name stands once. -/
theorem mets_nodup {out:List ByteArray} {n:ByteArray} (h:out.Nodup):(mets out n).Nodup:=by
 unfold mets
 split
 ·exact h
 ·rename_i hn
  rw [List.nodup_append]
  refine ⟨h,List.nodup_cons.2 ⟨List.not_mem_nil,List.nodup_nil⟩,fun a ha b hb e=>?_⟩
  rw [List.mem_singleton.1 hb] at e
  exact hn (e ▸ ha)
theorem ds_nodup:∀ (xs out:List ByteArray),out.Nodup→(ds out xs).Nodup
 | [],_,h=>h
 | x :: xs,out,h=>by
  rw [ds_cons]
  exact ds_nodup xs _ (mets_nodup h)
theorem nodup_ne {l:List ByteArray} (h:l.Nodup) {i j:Nat} (hi:i < l.length) (hj:j < l.length) (hji:j < i):l[j] ≠ l[i]:=by
 intro e
 have:=(List.getElem_inj (h₀:=hj) (h₁:=hi) h).1 e
 omega
end Lx
end Go.Proofs.YtnpacamcgifabaaDoor
namespace Go.Proofs.YtnpacamcgifabaaDoor
set_option linter.unusedSimpArgs false
set_option linter.unusedVariables false
namespace Lx
open Go Go.RowKit
set_option maxRecDepth 100000 in
theorem step_str {ops:Array Oper} {o:Oper} {a:Act} {W:World} {K:Act→World→Prop} {Q:Exit→Act→World→Prop} {E:Prop} (hgd:o.guard=none) (s x:Operand)
  (ho:o.op=.call { callee:=.builtin .append,args:=#[s,x],argTypes:=#[49,49] })
  (base:Nat) (v:Value) (l:List ByteArray) (hs:a.eval s=v) (hown:OwnS base l v W) (B:Nat) (y:ByteArray) (hx:a.eval x=.slice (some ⟨B,0,none⟩) 1 1) (hB:W.heap[B]?=some (.cells #[.string y] 9 (0,0))) (hn:l.length≤5000000) (hbase:base≤W.heap.size)
  (h:∀ v' w',OwnS base (l++[y]) v' w'→W.grownBy w' v.ownBlock→K (a.put o.dst v') w') :
  if Region.wanted o (yielded ops a.tmps)=true then Oper.wp Tryd.prog o a W K Q else E:=by
 obtain ⟨i0,hi,hz0,hz1,hz2⟩:=info_parts infoStr
 exact step_append_lies W hgd s x _ ho base _ i0 _ 1 16 Tryd.underlying49 hi hz0 hz1 hz2 rfl (by decide) v l.length (l.map Value.string) hs hown ⟨B,0,none⟩ 1 1 [.string y] hx rfl (World.news_of_block (cs:=#[.string y]) hB) (by simp [Value.oneCell'])
  (by omega) (by unfold maxLen;omega) (by omega) hbase _ rfl (fun g cap w' h2 h3 h4 _=>h _ w' (by unfold OwnS;simpa using h2) h3)
theorem cell_low {B b o:Nat} {w X:World} {v:Value} (hb:Below B w X) (hlt:b < B) (h:w.cell? ⟨b,o,none⟩=some v):X.cell? ⟨b,o,none⟩=some v:=(World.cell?_of_block (hb.block b hlt)).trans h
theorem RowW.pick {α:Type} {sz:Nat} {V:HoldW α} {Vol:Nat→Prop} {l:List α} {A:Option Addr} {n c:Nat} {w:World} (h:RowW sz V Vol l (.slice A n c) w) :
  ∃ q:Nat→Value,∀ (i:Nat) (hi:i < l.length),∃ b off,A=some ⟨b,off,none⟩∧b < w.heap.size∧¬ Vol b∧V Vol l[i] (q i) w∧∀ j,j < sz→w.cell? ⟨b,off+i * sz+j,none⟩=(cellsL (q i))[j]?:=by
 haveI:Inhabited Value:=⟨undef⟩
 obtain ⟨q,hq⟩:=Deep.choose_lt (n:=l.length) (p:=fun i (u:Value)=>∀ hi:i < l.length,∃ b off,A=some ⟨b,off,none⟩∧b < w.heap.size∧¬ Vol b∧V Vol l[i] u w∧∀ j,j < sz→w.cell? ⟨b,off+i * sz+j,none⟩=(cellsL u)[j]?) (fun i hi=>by
  obtain ⟨b,off,vi,h1,h2,h3,h4,h5⟩:=RowW.at h i hi
  exact ⟨vi,fun _=>⟨b,off,h1,h2,h3,h4,h5⟩⟩)
 exact ⟨q,fun i hi=>hq i hi hi⟩
def entF (D:List ByteArray) (l:List TyT) (q:Nat→Value) (k:Nat):List Ent:=(List.range (min k l.length)).map fun i=>((D.getD i ⟨#[]⟩,l.getD i (.mk 0 ⟨#[]⟩ 0 [])),q i)
section
variable {D:List ByteArray} {l:List TyT} {q:Nat→Value} {k:Nat}
theorem entF_zero:entF D l q 0=[]:=by simp [entF]
theorem entF_more (h:k < l.length) (hD:k < D.length):entF D l q (k+1)=entF D l q k++[((D[k],l[k]),q k)]:=by
 unfold entF
 rw [show min (k+1) l.length=k+1 by omega,show min k l.length=k by omega,List.range_succ,List.map_append]
 simp [h,hD]
theorem entF_same (h:¬ k < l.length):entF D l q (k+1)=entF D l q k:=by
 unfold entF
 rw [show min (k+1) l.length=min k l.length by omega]
theorem entF_len:(entF D l q k).length=min k l.length:=by simp [entF]
theorem entF_at (i:Nat) (h:i < (entF D l q k).length) (hl:i < l.length) (hD:i < D.length):(entF D l q k)[i]=((D[i],l[i]),q i):=by
 simp [entF,hl,hD]
theorem entF_new (hn:D.Nodup) (hD:k < D.length):D[k] ∉ entFN (entF D l q k):=by
 intro h
 obtain ⟨x,hx,e⟩:=List.mem_map.1 h
 obtain ⟨i,hi,rfl⟩:=List.getElem_of_mem hx
 have h1:=hi
 rw [entF_len] at h1
 rw [entF_at i hi (by omega) (by omega)] at e
 exact nodup_ne hn hD (by omega) (by omega:i < k) e
end
theorem tab_on {P:Program} {w W:World} {name:String} {k:IntKind} {zs:List Int} (ht:Lib.TabBelow P w.heap.size w name k zs) (hb:Below w.heap.size w W):Lib.TabBelow P W.heap.size W name k zs:=fun w' h'=>ht w' (hb.trans (h'.mono hb.size))
theorem same_eqF {Vol Vol2:Nat→Prop} {x:TyT} {v1 v2:Value} {w:World} (h1:TyE Vol x v1 w) (h2:TyE Vol2 x v2 w):Calls Tryd.prog 14 #[v1,v2] w fun e w'=>e=.returned (.bool true)∧Below w.heap.size w w':=by
 obtain ⟨d1,h1⟩:=h1
 obtain ⟨d2,h2⟩:=h2
 have h:=same_any (max d1 d2) Vol Vol2 x x v1 v2 w (TyW.ups (Nat.le_max_left _ _) h1) (TyW.ups (Nat.le_max_right _ _) h2)
 rw [eqT_self] at h
 exact h
theorem same_rowsF {Vol Vol2:Nat→Prop} {l:List TyT} {v1 v2:Value} {w:World} (h1:RowW 4 TyE Vol l v1 w) (h2:RowW 4 TyE Vol2 l v2 w):Calls Tryd.prog 31 #[v1,v2] w fun e w'=>e=.returned (.bool true)∧Below w.heap.size w w':=by
 obtain ⟨D1,h1⟩:=rowE h1
 obtain ⟨D2,h2⟩:=rowE h2
 have q1:RowW 4 (TyW (max D1 D2)) Vol l v1 w:=RowW.imp (fun x v h=>TyW.ups (Nat.le_max_left _ _) h) h1
 have q2:RowW 4 (TyW (max D1 D2)) Vol2 l v2 w:=RowW.imp (fun x v h=>TyW.ups (Nat.le_max_right _ _) h) h2
 have h:=sameTypes_of (max D1 D2) (Lib.hid (same_any _)) Vol Vol2 l l v1 v2 w q1 q2
 rw [(eqTs_iff l l).2 rfl] at h
 exact h
end Lx
end Go.Proofs.YtnpacamcgifabaaDoor
