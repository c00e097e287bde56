/- Rows of bytes of one's own; the eight bytes of a number. Conditions: as each states. -/
/- The program: appendData. Conditions: the bytes fit the memory. -/
/- The program: Encode; and the example that each statement of layer 10 begins with. Conditions: the error variables hold their errors. -/
import Derived.Test.YtiljemkglhloeaaGreatDoorLexA
import Derived.Test.YtiljemkglhloeaaGreatDoorDxA
import Derived.Lib.AppendStr
import Derived.Lib.OwnKind
import Derived.Deep.Cut
import Derived.Deep.RegionHeld
import Derived.Lib.BufferRead
import Derived.BigQuiet
namespace Go.Proofs.YtiljemkglhloeaaGreatDoor
set_option linter.unusedSimpArgs false
set_option linter.unusedVariables false
namespace Lx
open Go Go.RowKit
theorem bs_app (a b:List UInt8):bs a++bs b=bs (a++b):=ByteArray.ext (by simp [bs])
theorem bs_len (a:List UInt8):(bs a).size=a.length:=by simp [bs,ByteArray.size]
theorem bs_back (s:ByteArray):bs s.data.toList=s:=ByteArray.ext (by simp [bs])
theorem infoB:(Tryz.prog.info? 5).map (fun i=>(i.zero,i.size,i.bytes))=some (some (.int .u8 0),1,1):=by kernel_rfl
/-- A row of bytes of one's own. -/
def OwnB (B:Nat) (l:List UInt8) (v:Value) (w:World):Prop:=w.ownsRow B 5 1 v l.length (Lib.byteCells l)
section
variable {B:Nat} {l:List UInt8} {v:Value} {w w':World}
theorem OwnB.shapeN (h:OwnB B l v w):∃ A n c,v=.slice A n c:=by
 rcases h.2 with ⟨rfl,h0⟩ | ⟨g,cap,cur,rfl,_⟩
 ·exact ⟨none,0,0,rfl⟩
 ·exact ⟨_,_,cap,rfl⟩
theorem OwnB.shape (h:OwnB B l v w):∃ A c,v=.slice A l.length c:=by
 rcases h.2 with ⟨rfl,h0⟩ | ⟨g,cap,cur,rfl,_⟩
 ·exact ⟨none,0,by rw [h0]⟩
 ·exact ⟨_,cap,rfl⟩
theorem OwnB.below (h:OwnB B l v w) (hb:Below w.heap.size w w'):OwnB B l v w':=own_belowN h hb
theorem byteCells_app (a b:List UInt8):Lib.byteCells (a++b)=Lib.byteCells a++Lib.byteCells b:=by simp [Lib.byteCells]
end
/-- 'append(own, b)'. -/
theorem append_byte {w:World} {ops:Array Oper} {rest:List Oper} {o:Oper} {a:Act} {Q:Exit→Act→World→Prop} (hgd:o.guard=none) (s x:Operand)
  (ho:o.op=.call { callee:=.builtin .append,args:=#[s,x],argTypes:=#[47,47] })
  (B:Nat) (l:List UInt8) (v:Value) (hs:a.eval s=v) (hown:OwnB B l v w) (N:Nat) (b:UInt8) (hx:a.eval x=.slice (some ⟨N,0,none⟩) 1 1) (hN:w.heap[N]?=some (.cells #[.int .u8 b.toNat] 5 (0,0))) (hl:l.length≤100000000000000) (hbase:B≤w.heap.size)
  (h:∀ A n c w',OwnB B (l++[b]) (.slice A n c) w'→w.grownBy w' v.ownBlock→wpList Tryz.prog ops Q rest (a.put o.dst (.slice A n c)) w'):wpList Tryz.prog ops Q (o :: rest) a w:=by
 obtain ⟨i0,hi,hz0,hz1,hz2⟩:=info_parts infoB
 refine wpList_append_lies w hgd s x 47 ho B 5 i0 _ 1 1 Tryz.underlying47 hi hz0 hz1 hz2 rfl (by decide) v l.length (Lib.byteCells l) hs hown ⟨N,0,none⟩ 1 1 [.int .u8 b.toNat] hx rfl (World.news_of_block (cs:=#[.int .u8 b.toNat]) hN) (by simp [Value.oneCell']) (by decide) (by unfold maxLen;omega) (by omega) hbase _ rfl ?_
 intro g cap w' h2 h3 _ _
 exact h _ _ cap w' (by unfold OwnB;rw [byteCells_app,List.length_append];exact h2) h3
/-- 'append(own, s...)'. -/
theorem append_text {w:World} {ops:Array Oper} {rest:List Oper} {o:Oper} {a:Act} {Q:Exit→Act→World→Prop} (hgd:o.guard=none) (s x:Operand)
  (ho:o.op=.call { callee:=.builtin .append,args:=#[s,x],argTypes:=#[47,9] })
  (B:Nat) (l:List UInt8) (v:Value) (hs:a.eval s=v) (hown:OwnB B l v w) (t:List UInt8) (hx:a.eval x=.string (bs t)) (hl:l.length+t.length≤100000000000000) (hbase:B≤w.heap.size)
  (h:∀ A n c w',OwnB B (l++t) (.slice A n c) w'→w.grownBy w' v.ownBlock→wpList Tryz.prog ops Q rest (a.put o.dst (.slice A n c)) w'):wpList Tryz.prog ops Q (o :: rest) a w:=by
 obtain ⟨i0,hi,hz0,hz1,hz2⟩:=info_parts infoB
 have hbl:=bs_len t
 refine Lib.wpList_append_own_string w hgd s x 47 9 ho B 5 i0 Tryz.underlying47 Tryz.underlying9 hi hz0 hz1 hz2 v l.length (Lib.byteCells l) hs hown (bs t) hx (by unfold maxLen;omega) (by omega) hbase ?_
 intro v' w' h2 h3 _
 have h4:OwnB B (l++t) v' w':=by
  unfold OwnB
  rw [byteCells_app,List.length_append,← hbl]
  exact h2
 obtain ⟨A,c,rfl⟩:=h4.shape
 exact h A _ c w' h4 h3
theorem below_grownB {b:Nat} {a c d:World} {row:Option Nat} (h:Below b a c) (hg:c.grownBy d row) (hr:∀ k,row=some k→b≤k) (hb:b≤c.heap.size):Below b a d :=
 ⟨hg.os.trans h.os,hg.tape.trans h.tape,hg.output.trans h.output,Nat.le_trans h.size hg.size,fun j hj=>(hg.block j (by omega) (fun e=>by have:=hr j e.symm;omega)).trans (h.block j hj)⟩
/-- A number's low byte. -/
def byteZ (z:Int):UInt8:=UInt8.ofNat (z % 256).toNat
theorem byteZ_nat (z:Int):((byteZ z).toNat:Int)=z % 256:=by
 have h1:0≤z % 256:=Int.emod_nonneg _ (by decide)
 have h2:z % 256 < 256:=Int.emod_lt_of_pos _ (by decide)
 rw [byteZ,UInt8.toNat_ofNat']
 omega
/-- The eight bytes of a number, the low one first. -/
def le8 (n:Int):List UInt8:=(List.range 8).map fun i=>byteZ (n / 2 ^ (8 * i))
theorem ty_u8:(5:TypeId) ≠ 46:=by decide
/-- Boxes of data stand. -/
def KeepD (w w':World):Prop:=∀ (X:Nat) (cs:Array Value) (fr:Nat × Nat),w.heap[X]?=some (.cells cs 46 fr)→w'.heap[X]?=some (.cells cs 46 fr)
theorem KeepD.refl (w:World):KeepD w w:=fun _ _ _ h=>h
theorem KeepD.trans {a b c:World} (h:KeepD a b) (k:KeepD b c):KeepD a c:=fun X cs fr e=>k X cs fr (h X cs fr e)
theorem KeepD.low {a b:World} (h:Below a.heap.size a b):KeepD a b:=fun X cs fr e=>(h.block X (Array.getElem?_eq_some_iff.1 e).1).trans e
theorem KeepD.grown {B:Nat} {l:List UInt8} {v:Value} {a b:World} (ho:OwnB B l v a) (hg:a.grownBy b v.ownBlock):KeepD a b:=fun X cs fr e=>(hg.block X (Array.getElem?_eq_some_iff.1 e).1 (owner_neF ty_u8 ho e)).trans e
set_option maxRecDepth 100000 in
set_option maxHeartbeats 2000000 in
theorem appendInt_any (B:Nat) (acc:List UInt8) (sv:Value) (n:Int) (w:World) (ho:OwnB B acc sv w) (hl:acc.length≤10000000000000) (hB:B≤w.heap.size) :
  Calls Tryz.prog 79 #[sv,.int .i64 n] w fun e w'=>∃ A m c,e=.returned (.slice A m c)∧OwnB B (acc++le8 n) (.slice A m c) w'∧Below B w w'∧KeepD w w':=by
 obtain ⟨A0,n0,c0,rfl⟩:=ho.shapeN
 have HO:=Lib.hid ho
 clear ho
 go_enter Tryz.func79,Tryz.ntmps79
 go_wp2_with fail
 go_loopw [0,6] (fun u t wr=>∃ (i:Nat) (A:Option Addr) (m c:Nat),i≤8∧t=.int .i64 i∧u=.slice A m c∧Hid (OwnB B (acc++(le8 n).take i) u wr)∧Hid (Below B w wr)∧Hid (KeepD w wr)) (fun _ t _=>8 - (intOf t).toNat)
 case atStart=>exact ⟨0,_,_,_,Nat.zero_le _,rfl,rfl,by rw [List.take_zero,List.append_nil];exact HO,Lib.hid (Below.refl _ _),Lib.hid (KeepD.refl _)⟩
 case round =>
  obtain ⟨i,A,m,c,hi,rfl,rfl,HOR,HBR,HKR⟩:=hrel
  by_cases hlt:i < 8
  ·have hdc:decide (i < 8)=true:=by simpa using hlt
   have hd2:decide ((i:Int) < (8:Int))=true:=by simp;omega
   have hs:=HBR.out.size
   have hle:(acc++(le8 n).take i).length≤100000000000000:=by
    simp only [List.length_append,List.length_take]
    omega
   have hnx:(le8 n).take (i+1)=(le8 n).take i++[byteZ (n / 2 ^ (8 * i))]:=by
    have h8:i < (le8 n).length:=by simp [le8];omega
    rw [List.take_succ_eq_append_getElem h8]
    simp [le8]
   have HNX:=Lib.hid hnx
   have HLE:=Lib.hid hle
   clear hnx hle
   go_wp2_with (at_builtin;refine append_byte rfl _ _ rfl B (acc++(le8 n).take i) _ rfl (OwnB.below HOR.out (below_alloc _ _)) wr.heap.size (byteZ (n / 2 ^ (8 * i))) rfl (by rw [byteZ_nat];exact heap_alloc_new wr _) HLE.out (by simp;omega) ?_;intro A3 m3 c3 w6 hown6 hg6;have HO6:=Lib.hid hown6;have HG6:=Lib.hid hg6;clear hown6 hg6)
   have HB6:Hid (Below B w w6):=Lib.hid (below_grownB (HBR.out.trans ((below_alloc wr (.cells #[.int .u8 (n / 2 ^ (8 * i) % 256)] 5)).mono (by omega))) HG6.out (fun k e=>(HOR.out.lt k e).1) (by simp;omega))
   have HK6:=Lib.hid (HKR.out.trans ((KeepD.low (below_alloc wr (.cells #[.int .u8 (n / 2 ^ (8 * i) % 256)] 5))).trans (KeepD.grown (OwnB.below HOR.out (below_alloc wr (.cells #[.int .u8 (n / 2 ^ (8 * i) % 256)] 5))) HG6.out)))
   go_roundw
   case rel=>exact ⟨i+1,A3,m3,c3,by omega,by go_num,rfl,by rw [HNX.out,← List.append_assoc];exact HO6,HB6,HK6⟩
   case measure=>simp [intOf];omega
  ·obtain rfl:i=8:=by omega
   have HT:Hid ((le8 n).take 8=le8 n):=Lib.hid (List.take_of_length_le (by simp [le8]))
   rw [HT.out] at HOR
   go_wp2_with fail
   go_ret
   exact ⟨_,_,_,rfl,HOR.out,HBR.out,HKR.out⟩
end Lx
end Go.Proofs.YtiljemkglhloeaaGreatDoor
namespace Go.Proofs.YtiljemkglhloeaaGreatDoor
set_option linter.unusedSimpArgs false
set_option linter.unusedVariables false
namespace Lx
open Go Go.RowKit
mutual
/-- The bytes of data. -/
def encD:DaT→List UInt8
 | .mk c n s l=>if c=true then ((([1,byteZ s.size]++s.data.toList)++[byteZ l.length])++encDs l) else [0]++le8 n
def encDs:List DaT→List UInt8
 | []=>[]
 | x :: l=>encD x++encDs l
end
theorem encDs_snoc:∀ (a:List DaT) (x:DaT),encDs (a++[x])=encDs a++encD x
 | [],x=>by simp [encDs]
 | y :: a,x=>by rw [List.cons_append,encDs,encDs,encDs_snoc a x,List.append_assoc]
theorem encDs_take {l:List DaT} {k:Nat} (h:k < l.length):encDs (l.take (k+1))=encDs (l.take k)++encD l[k]:=by rw [List.take_succ_eq_append_getElem h,encDs_snoc]
theorem encDs_part (l:List DaT) (k:Nat):(encDs (l.take k)).length≤(encDs l).length:=by
 induction h:l.length - k generalizing k with
 | zero=>rw [List.take_of_length_le (by omega)];exact Nat.le_refl _
 | succ n ih =>
  have h1:=ih (k+1) (by omega)
  rw [encDs_take (by omega:k < l.length),List.length_append] at h1
  omega
theorem kbN {N:Nat} {w w':World} (h:Below N w w'):Kb (fun k=>N≤k) w w':=⟨h.os,h.tape,h.output,h.size,fun k _ hn=>h.block k (by omega)⟩
/-- 'append(own, b, c)'. -/
theorem append_two {w:World} {ops:Array Oper} {rest:List Oper} {o:Oper} {a:Act} {Q:Exit→Act→World→Prop} (hgd:o.guard=none) (s x:Operand)
  (ho:o.op=.call { callee:=.builtin .append,args:=#[s,x],argTypes:=#[47,47] })
  (B:Nat) (l:List UInt8) (v:Value) (hs:a.eval s=v) (hown:OwnB B l v w) (N:Nat) (b c:UInt8) (hx:a.eval x=.slice (some ⟨N,0,none⟩) 2 2) (hN:w.heap[N]?=some (.cells #[.int .u8 b.toNat,.int .u8 c.toNat] 5 (0,0))) (hl:l.length≤10000000000000) (hbase:B≤w.heap.size)
  (h:∀ A n c' w',OwnB B (l++[b,c]) (.slice A n c') w'→w.grownBy w' v.ownBlock→wpList Tryz.prog ops Q rest (a.put o.dst (.slice A n c')) w'):wpList Tryz.prog ops Q (o :: rest) a w:=by
 obtain ⟨i0,hi,hz0,hz1,hz2⟩:=info_parts infoB
 refine wpList_append_lies w hgd s x 47 ho B 5 i0 _ 1 1 Tryz.underlying47 hi hz0 hz1 hz2 rfl (by decide) v l.length (Lib.byteCells l) hs hown ⟨N,0,none⟩ 2 2 [.int .u8 b.toNat,.int .u8 c.toNat] hx rfl (World.news_of_block (cs:=#[.int .u8 b.toNat,.int .u8 c.toNat]) hN) (by simp [Value.oneCell']) (by decide) (by unfold maxLen;omega) (by omega) hbase _ rfl ?_
 intro g cap w' h2 h3 _ _
 exact h _ _ cap w' (by unfold OwnB;rw [byteCells_app,List.length_append];exact h2) h3
theorem step_byte {ops:Array Oper} {o:Oper} {a:Act} {W:World} {K:Act→World→Prop} {Q:Exit→Act→World→Prop} {E:Prop} (hgd:o.guard=none) (s x:Operand)
  (ho:o.op=.call { callee:=.builtin .append,args:=#[s,x],argTypes:=#[47,47] })
  (B:Nat) (l:List UInt8) (v:Value) (hs:a.eval s=v) (hown:OwnB B l v W) (N:Nat) (b:UInt8) (hx:a.eval x=.slice (some ⟨N,0,none⟩) 1 1) (hN:W.heap[N]?=some (.cells #[.int .u8 b.toNat] 5 (0,0))) (hl:l.length≤100000000000000) (hbase:B≤W.heap.size)
  (h:∀ A n c w',OwnB B (l++[b]) (.slice A n c) w'→W.grownBy w' v.ownBlock→K (a.put o.dst (.slice A n c)) w') :
  if Region.wanted o (yielded ops a.tmps)=true then Oper.wp Tryz.prog o a W K Q else E:=by
 obtain ⟨i0,hi,hz0,hz1,hz2⟩:=info_parts infoB
 refine step_append_lies W hgd s x 47 ho B 5 i0 _ 1 1 Tryz.underlying47 hi hz0 hz1 hz2 rfl (by decide) v l.length (Lib.byteCells l) hs hown ⟨N,0,none⟩ 1 1 [.int .u8 b.toNat] hx rfl (World.news_of_block (cs:=#[.int .u8 b.toNat]) hN) (by simp [Value.oneCell']) (by decide) (by unfold maxLen;omega) (by omega) hbase _ rfl ?_
 intro g cap w' h2 h3 _ _
 exact h _ _ cap w' (by unfold OwnB;rw [byteCells_app,List.length_append];exact h2) h3
def AppD (d:Nat):Prop:=∀ (B:Nat) (acc:List UInt8) (sv:Value) (x:DaT) (v:Value) (w:World),OwnB B acc sv w→DaW d (fun k=>B≤k) x v w→acc.length+(encD x).length≤1000000000000→B≤w.heap.size →
 Calls Tryz.prog 43 #[sv,v] w fun e w'=>∃ A m c,e=.returned (.slice A m c)∧OwnB B (acc++encD x) (.slice A m c) w'∧Below B w w'
set_option maxRecDepth 100000 in
set_option maxHeartbeats 8000000 in
theorem appd_step (d:Nat) (HC:Hid (AppD d)):AppD (d+1):=by
 rintro B acc sv ⟨c,n,s,l⟩ v w ho ⟨va,rfl,hr⟩ hlen hB
 obtain ⟨A,k,rfl⟩:=hr.slice
 have hfew:=hr.few
 unfold maxLen at hfew
 obtain ⟨A0,n0,c0,rfl⟩:=ho.shapeN
 have hb:=below_alloc w (.cells #[.bool c,.int .i64 n,.string s,.slice A l.length k] 46)
 have HB0:=Lib.hid (hb.mono hB)
 have HO:=Lib.hid (ho.below hb)
 have HR:=Lib.hid (RowW.step (DaW.step d) _ _ _ _ _ _ hr (Kb.of_below hb) (fun _ _ e=>e))
 have HX:=Lib.hid (heap_alloc_new w (.cells #[.bool c,.int .i64 n,.string s,.slice A l.length k] 46))
 have HBS:Hid (B≤(w.alloc (.cells #[.bool c,.int .i64 n,.string s,.slice A l.length k] 46)).heap.size):=Lib.hid (Nat.le_trans hB hb.size)
 have HLEN:=Lib.hid hlen
 clear hr hb ho hlen
 cases c
 ·have hen:encD (.mk false n s l)=[0]++le8 n:=by rw [encD];simp
  have HEN:=Lib.hid hen
  have hla:acc.length≤1000000000000:=by have:=HLEN.out;omega
  clear hen
  go_enter Tryz.func43,Tryz.ntmps43
  have x0:=(cellH HX.out 0).trans rfl
  go_upto_region 2 with fail
  clear x0
  generalize (w.alloc (.cells #[.bool false,.int .i64 n,.string s,.slice A l.length k] 46))=W at HB0 HO HR HX HBS ⊢
  generalize w.heap.size=X at HX ⊢
  refine wp_region_held_drew (S:=fun V=>V.cell? ⟨X,1,none⟩=some (.int .i64 n)) (by kernel_rfl) ((cellH HX.out 1).trans rfl) (fun hHeld=>?_)
  have HB1:=Lib.hid (below_drw HB0.out)
  have HO1:=Lib.hid (HO.out.below (below_drw (Below.refl _ _)))
  have HX1:Hid (W.drew.heap[X]?=_):=HX
  have HBS1:Hid (B≤W.drew.heap.size):=HBS
  generalize W.drew=Y at hHeld HB1 HO1 HX1 HBS1 ⊢
  clear HB0 HO HX HBS HR
  (refine wpAnyH_take (i:=0) (oi:=_) (v:=?_) rfl (by kernel_rfl) (by kernel_rfl) (by kernel_rfl) (fun _ _ _ h=>h) (Or.inl ⟨by kernel_rfl,?_⟩) (by assumption) ?_;rotate_left;(focus (intro w hSw;(try dsimp only at hSw);go_simp;(try with_reducible rfl);done));(try simp only [Act.put,List.setIfInBounds_toArray,List.set_cons_zero,List.set_cons_succ]))
  (refine wpAnyH_take (i:=3) (oi:=_) (v:=?_) rfl (by kernel_rfl) (by kernel_rfl) (by kernel_rfl) (fun _ _ _ h=>h) (Or.inl ⟨by kernel_rfl,?_⟩) (by assumption) ?_;rotate_left;(focus (intro w hSw;(try dsimp only at hSw);go_simp;(try with_reducible rfl);done));(try simp only [Act.put,List.setIfInBounds_toArray,List.set_cons_zero,List.set_cons_succ]))
  (refine wpAnyH_take (i:=4) (oi:=_) (v:=?_) rfl (by kernel_rfl) (by kernel_rfl) (by kernel_rfl) (fun _ _ _ h=>h) (Or.inl ⟨by kernel_rfl,?_⟩) (by assumption) ?_;rotate_left;(focus (intro w hSw;(try dsimp only at hSw);go_simp;(try with_reducible rfl);done));(try simp only [Act.put,List.setIfInBounds_toArray,List.set_cons_zero,List.set_cons_succ]))
  refine wpAnyH_ready (rs:=[1]) (by kernel_rfl) (by simp) ?_
  refine AllReadyH.cons (o:=_) rfl (fun K hK=>?_) AllReadyH.nil
  go_simp
  have hbl:=below_alloc Y (.cells #[.int .u8 0] 5)
  have HT:=Lib.hid (heap_alloc_new Y (.cells #[.int .u8 0] 5))
  have HX2:=Lib.hid ((hbl.block X (Array.getElem?_eq_some_iff.1 HX1.out).1).trans HX1.out)
  have HB2:=Lib.hid (HB1.out.trans (hbl.mono HBS1.out))
  have HO2:=Lib.hid (HO1.out.below hbl)
  have HBS2:Hid (B≤(Y.alloc (.cells #[.int .u8 0] 5)).heap.size):=Lib.hid (Nat.le_trans HBS1.out hbl.size)
  generalize (Y.alloc (.cells #[.int .u8 0] 5))=Y2 at HT HX2 HB2 HO2 HBS2 ⊢
  clear hbl
  generalize Y.heap.size=t1 at HT ⊢
  refine hK.out _ _ ((cellH HX2.out 1).trans rfl) (fun hHeld=>?_)
  clear hK K
  try simp only [Act.put,List.setIfInBounds_toArray,List.set_cons_zero,List.set_cons_succ]
  refine wpAnyH_ready (rs:=[2]) (by kernel_rfl) (by simp) ?_
  refine AllReadyH.cons (o:=_) rfl (fun K hK=>?_) AllReadyH.nil
  refine step_byte rfl (.tmp 10) (.tmp 11) rfl B acc _ (by kernel_rfl) HO2.out t1 0 (by kernel_rfl) HT.out (by omega) HBS2.out ?_
  intro A3 n3 c3 Y3 hown3 hg3
  have HX3:=Lib.hid ((hg3.block X (Array.getElem?_eq_some_iff.1 HX2.out).1 (owner_neF ty_u8 HO2.out HX2.out)).trans HX2.out)
  have HO3:=Lib.hid hown3
  have HB3:=Lib.hid (below_grownB HB2.out hg3 (fun k e=>(HO2.out.lt k e).1) HBS2.out)
  have HBS3:=Lib.hid (Nat.le_trans HBS2.out hg3.size)
  clear hown3 hg3
  refine hK.out _ _ ((cellH HX3.out 1).trans rfl) (fun hHeld=>?_)
  clear hK K
  try simp only [Act.put,List.setIfInBounds_toArray,List.set_cons_zero,List.set_cons_succ]
  refine wpAnyH_ready (rs:=[5]) (by kernel_rfl) (by simp) ?_
  refine AllReadyH.cons (o:=_) rfl (fun K hK=>?_) AllReadyH.nil
  go_simp
  try go_at_call 79
  refine (appendInt_any B (acc++[0]) _ n Y3 HO3.out (by simp;omega) HBS3.out).mono ?_
  rintro e Y4 ⟨A4,m4,c4,rfl,ho4,hb4,hk4⟩
  have HO4:=Lib.hid ho4
  have HB4:=Lib.hid (HB3.out.trans hb4)
  have HX4:Hid (Y4.cell? ⟨X,1,none⟩=some (.int .i64 n)):=Lib.hid ((cellH (hk4 _ _ _ HX3.out) 1).trans rfl)
  clear ho4 hb4 hk4
  go_simp
  refine hK.out _ _ HX4.out (fun hHeld=>?_)
  clear hK K
  try simp only [Act.put,List.setIfInBounds_toArray,List.set_cons_zero,List.set_cons_succ]
  refine wpAnyH_ready (rs:=[6]) (by kernel_rfl) (by simp) ?_
  refine AllReadyH.cons (o:=_) rfl (fun K hK=>?_) AllReadyH.nil
  go_simp
  refine hK.out _ _ HX4.out (fun hHeld=>?_)
  clear hK K
  try simp only [Act.put,List.setIfInBounds_toArray,List.set_cons_zero,List.set_cons_succ]
  refine wpAnyH_done (by kernel_rfl) ?_ _
  go_wp2_with fail
  exact bodyPost_ret (v:=.slice A4 m4 c4) (by simp [results,Tryz.results43,go_sem]) rfl ⟨A4,m4,c4,rfl,by rw [HEN.out,← List.append_assoc];exact HO4.out,HB4.out⟩
 ·have hen:encD (.mk true n s l)=(([1,byteZ s.size]++s.data.toList)++[byteZ l.length])++encDs l:=by rw [encD];simp
  have hsl:s.data.toList.length=s.size:=by simp
  have hle:acc.length+3+s.size+(encDs l).length≤1000000000000:=by
   have h:=HLEN.out
   rw [hen] at h
   simp only [List.length_append,List.length_cons,List.length_nil] at h
   omega
  have HEN:=Lib.hid hen
  have HLE:=Lib.hid hle
  have HSL:=Lib.hid hsl
  clear hen hle hsl
  go_enter Tryz.func43,Tryz.ntmps43
  have x0:=(cellH HX.out 0).trans rfl
  go_upto_region 3 with fail
  clear x0
  generalize (w.alloc (.cells #[.bool true,.int .i64 n,.string s,.slice A l.length k] 46))=W at HB0 HO HR HX HBS ⊢
  generalize w.heap.size=X at HX ⊢
  have x2:=(cellH HX.out 2).trans rfl
  go_upto_region 4 with (at_builtin;refine append_two rfl _ _ rfl B acc _ rfl (OwnB.below HO.out (below_alloc W _)) W.heap.size 1 (byteZ s.size) rfl (by rw [byteZ_nat];exact heap_alloc_new W _) (by have:=HLE.out;omega) (by have:=HBS.out;simp;omega) ?_;intro A3 n3 c3 W3 hown3 hg3;have HO3:=Lib.hid hown3;have HG3:=Lib.hid hg3;clear hown3 hg3)
  clear x2
  have HK3:=Lib.hid ((KeepD.low (below_alloc W (.cells #[.int .u8 1,.int .u8 ((s.size:Int) % 256)] 5))).trans (KeepD.grown (OwnB.below HO.out (below_alloc W _)) HG3.out))
  have HX3:=Lib.hid (HK3.out _ _ _ HX.out)
  have HB3:=Lib.hid (below_grownB (HB0.out.trans ((below_alloc W (.cells #[.int .u8 1,.int .u8 ((s.size:Int) % 256)] 5)).mono HBS.out)) HG3.out (fun k e=>(HO.out.lt k e).1) (by have:=HBS.out;simp;omega))
  have HW3:=Lib.hid (below_grownB ((below_alloc W (.cells #[.int .u8 1,.int .u8 ((s.size:Int) % 256)] 5)).mono HBS.out) HG3.out (fun k e=>(HO.out.lt k e).1) (by have:=HBS.out;simp;omega))
  have HBS3:Hid (B≤W3.heap.size):=Lib.hid (Nat.le_trans HBS.out HW3.out.size)
  clear HK3 HG3
  have x2:=(cellH HX3.out 2).trans rfl
  go_upto_region 5 with (at_builtin;refine append_text rfl _ _ rfl B (acc++[1,byteZ s.size]) _ rfl HO3.out s.data.toList (by rw [bs_back];rfl) (by have:=HLE.out;have:=HSL.out;simp only [List.length_append,List.length_cons,List.length_nil];omega) HBS3.out ?_;intro A4 n4 c4 W4 hown4 hg4;have HO4:=Lib.hid hown4;have HG4:=Lib.hid hg4;clear hown4 hg4)
  clear x2
  have HX4:=Lib.hid (KeepD.grown HO3.out HG4.out _ _ _ HX3.out)
  have HB4:=Lib.hid (below_grownB HB3.out HG4.out (fun k e=>(HO3.out.lt k e).1) HBS3.out)
  have HW4:=Lib.hid (below_grownB HW3.out HG4.out (fun k e=>(HO3.out.lt k e).1) HBS3.out)
  have HBS4:Hid (B≤W4.heap.size):=Lib.hid (Nat.le_trans HBS3.out HG4.out.size)
  clear HG4
  have x3:=(cellH HX4.out 3).trans rfl
  go_upto_region 6 with (at_builtin;refine append_byte rfl _ _ rfl B (acc++[1,byteZ s.size]++s.data.toList) _ rfl (OwnB.below HO4.out (below_alloc W4 _)) W4.heap.size (byteZ l.length) rfl (by rw [byteZ_nat];exact heap_alloc_new W4 _) (by have:=HLE.out;have:=HSL.out;simp only [List.length_append,List.length_cons,List.length_nil];omega) (by have:=HBS4.out;simp;omega) ?_;intro A5 n5 c5 W5 hown5 hg5;have HO5:=Lib.hid hown5;have HG5:=Lib.hid hg5;clear hown5 hg5)
  clear x3
  have HX5:=Lib.hid (((KeepD.low (below_alloc W4 (.cells #[.int .u8 ((l.length:Int) % 256)] 5))).trans (KeepD.grown (OwnB.below HO4.out (below_alloc W4 _)) HG5.out)) _ _ _ HX4.out)
  have HB5:=Lib.hid (below_grownB (HB4.out.trans ((below_alloc W4 (.cells #[.int .u8 ((l.length:Int) % 256)] 5)).mono HBS4.out)) HG5.out (fun k e=>(HO4.out.lt k e).1) (by have:=HBS4.out;simp;omega))
  have HW5:=Lib.hid (below_grownB (HW4.out.trans ((below_alloc W4 (.cells #[.int .u8 ((l.length:Int) % 256)] 5)).mono HBS4.out)) HG5.out (fun k e=>(HO4.out.lt k e).1) (by have:=HBS4.out;simp;omega))
  have HR5:=Lib.hid (RowW.step (DaW.step d) _ _ _ _ _ _ HR.out (kbN HW5.out) (fun _ _ e=>e))
  have HBS5:Hid (B≤W5.heap.size):=Lib.hid (Nat.le_trans HBS.out HW5.out.size)
  clear HG5 HX HX3 HX4 HO HO3 HO4 HB0 HB3 HB4 HW3 HW4 HW5 HBS HBS3 HBS4 HR
  have x3:=(cellH HX5.out 3).trans rfl
  generalize hac:(acc++[1,byteZ s.size]++s.data.toList++[byteZ l.length])=ac at HO5
  have hacl:ac.length+(encDs l).length≤1000000000000:=by
   rw [← hac]
   have:=HLE.out
   have:=HSL.out
   simp only [List.length_append,List.length_cons,List.length_nil]
   omega
  have HACL:=Lib.hid hacl
  have HAC:Hid (acc++encD (.mk true n s l)=ac++encDs l):=Lib.hid (by rw [HEN.out,← hac];simp only [List.append_assoc])
  clear hac hacl HEN HLE HSL
  go_wp2_with fail
  clear x3 HX5
  go_loopw [0,37] (fun u t wr=>∃ (i:Nat) (A6:Option Addr) (m6 c6:Nat),i≤l.length∧t=.int .i64 i∧u=.slice A6 m6 c6∧Hid (OwnB B (ac++encDs (l.take i)) u wr)∧Hid (Below B W5 wr)) (fun _ t _=>l.length - (intOf t).toNat)
  case atStart=>exact ⟨0,_,_,_,Nat.zero_le _,rfl,rfl,by rw [List.take_zero,encDs,List.append_nil];exact HO5,Lib.hid (Below.refl _ _)⟩
  case round =>
   obtain ⟨i,A6,m6,c6,hi,rfl,rfl,HOR,HBR⟩:=hrel
   by_cases hlt:i < l.length
   ·obtain ⟨gg,o,vi,rfl,hg,_,hvi,hc⟩:=RowW.at (RowW.step (DaW.step d) _ _ _ _ _ _ HR5.out (kbN HBR.out) (fun _ _ e=>e)) i hlt
    obtain ⟨B1,n1,m1,rfl⟩:=hvi.this
    have a0:=(hc 0 (by decide)).trans rfl
    have a1:=(hc 1 (by decide)).trans rfl
    have a2:=(hc 2 (by decide)).trans rfl
    have a3:=(hc 3 (by decide)).trans rfl
    simp only [cellsL,Value.cells,List.getElem?_cons_zero,List.getElem?_cons_succ,Nat.add_zero] at a0 a1 a2 a3
    have hi0:(0:Int)≤(i:Int):=by omega
    have hi1:(i:Int) < (l.length:Int):=by omega
    have hdc:decide (i < l.length)=true:=by simpa using hlt
    have hnx:=encDs_take hlt
    have hpt:=encDs_part l (i+1)
    rw [hnx] at hpt
    have HLT:=Lib.hid hlt
    generalize hyy:l[i]=y at hvi a0 a1 a2 a3 hnx hpt
    have hbx:=below_alloc wr (.cells #[.bool y.ctor,.int .i64 y.int,.string y.name,.slice B1 n1 m1] 46)
    have hws:B≤wr.heap.size:=Nat.le_trans HBS5.out HBR.out.size
    have HVI:=Lib.hid (DaW.step d _ _ _ _ _ _ hvi (Kb.of_below hbx) (fun _ _ e=>e))
    have HXB:=Lib.hid (heap_alloc_new wr (.cells #[.bool y.ctor,.int .i64 y.int,.string y.name,.slice B1 n1 m1] 46))
    have HBX:=Lib.hid (HBR.out.trans (hbx.mono hws))
    have HOX:=Lib.hid (HOR.out.below hbx)
    have HWS:Hid (B≤(wr.alloc (.cells #[.bool y.ctor,.int .i64 y.int,.string y.name,.slice B1 n1 m1] 46)).heap.size):=Lib.hid (Nat.le_trans hws hbx.size)
    have HNX:=Lib.hid hnx
    have HPT:=Lib.hid hpt
    clear hvi hbx hnx hpt hyy hlt hc hws
    have b0:=(cellH HXB.out 0).trans rfl
    have b1:=(cellH HXB.out 1).trans rfl
    have b2:=(cellH HXB.out 2).trans rfl
    have b3:=(cellH HXB.out 3).trans rfl
    go_wp2_with fail
    clear a0 a1 a2 a3 b0 b1 b2 b3 hdc
    try go_at_call 43
    refine (HC.out B _ _ y _ _ HOX.out HVI.out (by have h1:=HPT.out;have h2:=HACL.out;simp only [List.length_append] at h1 ⊢;omega) HWS.out).mono ?_
    rintro e w3 ⟨A7,m7,c7,rfl,ho7,hb7⟩
    have HO7:=Lib.hid ho7
    have HB7:=Lib.hid (HBX.out.trans hb7)
    clear ho7 hb7
    go_wp2_with fail
    go_roundw
    case rel=>exact ⟨i+1,A7,m7,c7,by have:=HLT.out;omega,by go_num,rfl,by rw [HNX.out,← List.append_assoc];exact HO7,HB7⟩
    case measure=>have:=HLT.out;simp [intOf];omega
   ·obtain rfl:i=l.length:=by omega
    have hdc:decide (l.length < l.length)=false:=by simp
    rw [List.take_length] at HOR
    go_wp2_with fail
    go_ret
    exact ⟨_,_,_,rfl,by rw [HAC.out];exact HOR.out,HB5.out.trans HBR.out⟩
theorem appd_any:∀ d,AppD d
 | 0=>fun _ _ _ _ _ _ _ h=>h.elim
 | d+1=>appd_step d (Lib.hid (appd_any d))
end Lx
end Go.Proofs.YtiljemkglhloeaaGreatDoor
namespace Go.Proofs.YtiljemkglhloeaaGreatDoor
set_option linter.unusedSimpArgs false
set_option linter.unusedVariables false
namespace Lx
open Go Go.RowKit
theorem own_text {B:Nat} {l:List UInt8} {v:Value} {w:World} (h:OwnB B l v w):(convert 47 9 v).run Tryz.prog w=.ok (.string (bs l)) w:=by
 rcases h.2 with ⟨rfl,h0⟩ | ⟨g,cap,cur,rfl,hg,hb,_⟩
 ·have hl:l=[]:=List.eq_nil_of_length_eq_zero h0
  subst hl
  exact Lib.run_convert_nil_bytes w 47 9 5 0 Tryz.underlying47 Tryz.underlying5 Tryz.underlying9
 ·refine run_convert_bytes_back w 47 9 5 ⟨g,0,none⟩ cap l Tryz.underlying47 Tryz.underlying5 Tryz.underlying9 (fun j hj=>?_)
  have e:((⟨g,0,none⟩:Addr).add j)=⟨g,j,none⟩:=by
   by_cases h0:j=0
   ·subst h0;rfl
   ·simp [Addr.add,h0]
  have hraw:w.ownsRow B 5 1 (.slice (some ⟨g,0,none⟩) l.length cap) l.length (Lib.byteCells l):=h
  have h3:w.cell? ⟨g,j,none⟩=(Lib.byteCells l)[j]?:=hraw.cellAt j (by omega)
  rw [e,h3,Lib.byteCells,List.getElem?_map,List.getElem?_eq_getElem hj]
  rfl
mutual
theorem enc_len:∀ x:DaT,fitD x=true→(encD x).length≤35 * sizeD x
 | .mk c n s l,h=>by
  rw [fitD] at h
  rw [encD,sizeD]
  cases c
  ·simp [le8]
  ·rw [if_pos rfl] at h
   rw [if_pos rfl,if_pos rfl]
   simp only [Bool.and_eq_true,decide_eq_true_eq] at h
   have h1:=encs_len l h.2
   have h2:s.data.toList.length=s.size:=by simp
   simp only [List.length_append,List.length_cons,List.length_nil]
   omega
theorem encs_len:∀ l:List DaT,fitDs l=true→(encDs l).length≤35 * sizeDs l
 | [],_=>by rw [encDs];exact Nat.zero_le _
 | x :: l,h=>by
  rw [fitDs,Bool.and_eq_true] at h
  rw [encDs,sizeDs,List.length_append]
  have h1:=enc_len x h.1
  have h2:=encs_len l h.2
  omega
end
/-- The error variables. -/
structure ErrD (f:Nat→Addr) (w:World):Prop where
 large:w.cell? ⟨0,0,none⟩=some (.iface 231 (.pointer (some (f 0))))
 data:w.cell? ⟨1,0,none⟩=some (.iface 231 (.pointer (some (f 1))))
def errV (a:Addr):Value:=.iface 231 (.pointer (some a))
theorem ErrD.stay {f:Nat→Addr} {w w':World} (h:ErrD f w) (hb:Below w.heap.size w w'):ErrD f w' :=
 ⟨(World.cell?_of_block (hb.block _ (World.block_lt_of_cell? _ _ h.large))).trans h.large,(World.cell?_of_block (hb.block _ (World.block_lt_of_cell? _ _ h.data))).trans h.data⟩
/-- What Encode gives. -/
def EncP (f:Nat→Addr) (x:DaT) (w:World):Ending→World→Prop:=fun e w'=>Below w.heap.size w w' ∧
 ((goodD x=true∧fitD x=true∧∃ A m c,e=.returned (.tuple #[.slice A m c,.nilIface])∧OwnB w.heap.size (encD x) (.slice A m c) w') ∨
 (goodD x=false∧e=.returned (.tuple #[.slice none 0 0,errV (f 0)])) ∨ (goodD x=true∧fitD x=false∧e=.returned (.tuple #[.slice none 0 0,errV (f 1)])))
set_option maxRecDepth 100000 in
set_option maxHeartbeats 4000000 in
theorem encode_any (f:Nat→Addr) (d:Nat) (x:DaT) (v:Value) (w:World) (hv:DaW d (fun k=>w.heap.size≤k) x v w) (he:ErrD f w) :
  Calls Tryz.prog 16 #[v] w (EncP f x w):=by
 obtain ⟨A0,l0,c0,rfl⟩:=hv.this
 have hb:=below_alloc w (.cells #[.bool x.ctor,.int .i64 x.int,.string x.name,.slice A0 l0 c0] 46)
 have HB:=Lib.hid hb
 have HV:=Lib.hid ((DaW.step d).below hv hb)
 have HX:=Lib.hid (heap_alloc_new w (.cells #[.bool x.ctor,.int .i64 x.int,.string x.name,.slice A0 l0 c0] 46))
 have HE:=Lib.hid (he.stay hb)
 have HZ:=Lib.hid hb.size
 clear hv hb he
 unfold EncP
 go_enter Tryz.func16,Tryz.ntmps16
 have x0:=(cellH HX.out 0).trans rfl
 have x1:=(cellH HX.out 1).trans rfl
 have x2:=(cellH HX.out 2).trans rfl
 have x3:=(cellH HX.out 3).trans rfl
 go_wp2_with fail
 clear x0 x1 x2 x3
 generalize (w.alloc (.cells #[.bool x.ctor,.int .i64 x.int,.string x.name,.slice A0 l0 c0] 46))=W at HB HV HX HE HZ ⊢
 generalize hXX:w.heap.size=X at HX HV HB HZ ⊢
 have HXX:=Lib.hid hXX
 clear hXX
 try go_at_call 18
 refine (good_any d _ x _ W HV.out).mono ?_
 rintro e w1 ⟨rfl,hb1⟩
 have HB1:=Lib.hid (HB.out.trans (hb1.mono HZ.out))
 have HX1:=Lib.hid ((hb1.block X (Array.getElem?_eq_some_iff.1 HX.out).1).trans HX.out)
 have HV1:=Lib.hid ((DaW.step d).below HV.out hb1)
 have HE1:=Lib.hid (HE.out.stay hb1)
 have HZ1:Hid (X≤w1.heap.size):=Lib.hid (Nat.le_trans HZ.out hb1.size)
 clear hb1 HB HX HV HE HZ
 obtain ⟨G,hG⟩:∃ G,goodD x=G:=⟨_,rfl⟩
 have HG:=Lib.hid hG
 rw [hG]
 clear hG
 cases G
 ·have el:=HE1.out.large
  go_wp2_with fail
  go_quiet (fail)
  go_wp2_with fail
  exact bodyPost_ret (v:=.tuple #[.slice none 0 0,errV (f 0)]) (by simp [results,Tryz.results16,go_sem,errV]) rfl ⟨by rw [HXX.out];exact below_drewN HB1.out nq,.inr (.inl ⟨HG.out,rfl⟩)⟩
 ·have x0:=(cellH HX1.out 0).trans rfl
  have x1:=(cellH HX1.out 1).trans rfl
  have x2:=(cellH HX1.out 2).trans rfl
  have x3:=(cellH HX1.out 3).trans rfl
  go_wp2_with fail
  clear x0 x1 x2 x3
  try go_at_call 42
  refine (fits_any d _ x _ w1 HV1.out).mono ?_
  rintro e w2 ⟨rfl,hb2⟩
  have HB2:=Lib.hid (HB1.out.trans (hb2.mono HZ1.out))
  have HX2:=Lib.hid ((hb2.block X (Array.getElem?_eq_some_iff.1 HX1.out).1).trans HX1.out)
  have HV2:=Lib.hid ((DaW.step d).below HV1.out hb2)
  have HE2:=Lib.hid (HE1.out.stay hb2)
  have HZ2:Hid (X≤w2.heap.size):=Lib.hid (Nat.le_trans HZ1.out hb2.size)
  clear hb2 HB1 HX1 HV1 HE1 HZ1
  obtain ⟨F,hF⟩:∃ F,fitD x=F:=⟨_,rfl⟩
  have HF:=Lib.hid hF
  rw [hF]
  clear hF
  cases F
  ·have el:=HE2.out.data
   go_wp2_with fail
   go_quiet (fail)
   go_wp2_with fail
   exact bodyPost_ret (v:=.tuple #[.slice none 0 0,errV (f 1)]) (by simp [results,Tryz.results16,go_sem,errV]) rfl ⟨by rw [HXX.out];exact below_drewN HB2.out nq,.inr (.inr ⟨HG.out,HF.out,rfl⟩)⟩
  ·have hen:=enc_len x HF.out
   have hgz:sizeD x≤4096:=by
    have h:=HG.out
    unfold goodD at h
    simp only [Bool.and_eq_true,decide_eq_true_eq] at h
    exact h.1
   have HLN:Hid ((encD x).length≤200000):=Lib.hid (by omega)
   clear hen hgz
   have x0:=(cellH HX2.out 0).trans rfl
   have x1:=(cellH HX2.out 1).trans rfl
   have x2:=(cellH HX2.out 2).trans rfl
   have x3:=(cellH HX2.out 3).trans rfl
   go_wp2_with fail
   clear x0 x1 x2 x3
   try go_at_call 43
   refine (appd_any d X [] _ x _ w2 (World.ownsRow_nil _ _ _ _) HV2.out (by have:=HLN.out;simp only [List.length_nil];omega) HZ2.out).mono ?_
   rintro e w3 ⟨A3,m3,c3,rfl,ho3,hb3⟩
   rw [List.nil_append] at ho3
   have HO3:=Lib.hid ho3
   have HB3:=Lib.hid (HB2.out.trans hb3)
   clear ho3 hb3
   go_wp2_with fail
   exact bodyPost_ret (v:=.tuple #[.slice A3 m3 c3,.nilIface]) (by simp [results,Tryz.results16,go_sem]) rfl ⟨by rw [HXX.out];exact HB3.out,.inl ⟨HG.out,HF.out,A3,m3,c3,rfl,by rw [HXX.out];exact HO3.out⟩⟩
/-- The example's data. -/
def exD:DaT:=.mk true 0 ⟨#[99,111,110,115]⟩ [.mk false 1 ⟨#[]⟩ [],.mk true 0 ⟨#[110,105,108]⟩ []]
theorem ex_good:goodD exD=true:=by decide +kernel
theorem ex_fit:fitD exD=true:=by decide +kernel
theorem ex_bytes:encD exD=[1,4,99,111,110,115,2,0,1,0,0,0,0,0,0,0,1,3,110,105,108,0]:=by decide +kernel
set_option maxRecDepth 100000 in
set_option maxHeartbeats 4000000 in
theorem dalive_any (f:Nat→Addr) (w:World) (he:ErrD f w) :
  Calls Tryz.prog 15 #[] w fun e w'=>e=.returned (.bool true)∧Below w.heap.size w w':=by
 have hb:=below_alloc w (.cells #[.bool false,.int .i64 1,.string ⟨#[]⟩,.slice none 0 0,.bool true,.int .i64 0,.string ⟨#[110,105,108]⟩,.slice none 0 0] 46)
 have hx:=heap_alloc_new w (.cells #[.bool false,.int .i64 1,.string ⟨#[]⟩,.slice none 0 0,.bool true,.int .i64 0,.string ⟨#[110,105,108]⟩,.slice none 0 0] 46)
 have hsz:(w.alloc (.cells #[.bool false,.int .i64 1,.string ⟨#[]⟩,.slice none 0 0,.bool true,.int .i64 0,.string ⟨#[110,105,108]⟩,.slice none 0 0] 46)).heap.size=w.heap.size+1:=by simp
 have hleaf:∀ (c:Bool) (n:Int) (s:ByteArray) (Vol:Nat→Prop) (W:World),DaW 1 Vol (.mk c n s []) (.agg #[.bool c,.int .i64 n,.string s,.slice none 0 0]) W:=fun c n s Vol W=>⟨_,rfl,RowW.nil _ _⟩
 have hv:DaW 2 (fun k=>w.heap.size+1≤k) exD (.agg #[.bool true,.int .i64 0,.string ⟨#[99,111,110,115]⟩,.slice (some ⟨w.heap.size,0,none⟩) 2 2]) (w.alloc (.cells #[.bool false,.int .i64 1,.string ⟨#[]⟩,.slice none 0 0,.bool true,.int .i64 0,.string ⟨#[110,105,108]⟩,.slice none 0 0] 46)):=by
  refine ⟨_,rfl,some ⟨w.heap.size,0,none⟩,2,rfl,Nat.le_refl _,by decide,fun i hi=>?_⟩
  have hi2:i < 2:=hi
  rcases (show i=0 ∨ i=1 by omega) with rfl | rfl
  ·refine ⟨w.heap.size,0,_,rfl,by omega,by omega,hleaf _ _ _ _ _,fun j hj=>?_⟩
   rw [cellH hx]
   rcases (show j=0 ∨ j=1 ∨ j=2 ∨ j=3 by omega) with rfl | rfl | rfl | rfl <;> rfl
  ·refine ⟨w.heap.size,0,_,rfl,by omega,by omega,hleaf _ _ _ _ _,fun j hj=>?_⟩
   rw [cellH hx]
   rcases (show j=0 ∨ j=1 ∨ j=2 ∨ j=3 by omega) with rfl | rfl | rfl | rfl <;> rfl
 rw [← hsz] at hv
 have HC:=Lib.hid (encode_any f 2 exD _ _ hv (he.stay hb))
 have HB:=Lib.hid hb
 clear hb hx hsz hleaf hv he
 go_enter Tryz.func15,Tryz.ntmps15
 go_wp2_with fail
 generalize (w.alloc (.cells #[.bool false,.int .i64 1,.string ⟨#[]⟩,.slice none 0 0,.bool true,.int .i64 0,.string ⟨#[110,105,108]⟩,.slice none 0 0] 46))=W at HC HB ⊢
 try go_at_call 16
 refine HC.out.mono ?_
 rintro e w1 ⟨hb1,⟨_,_,A,m,c,rfl,ho⟩ | ⟨h,_⟩ | ⟨_,h,_⟩⟩
 ·have HB1:=Lib.hid (HB.out.trans (hb1.mono HB.out.size))
  have hcv:=own_text ho
  rw [ex_bytes] at hcv
  have hq:((⟨#[1,4,99,111,110,115,2,0,1,0,0,0,0,0,0,0,1,3,110,105,108,0]⟩:ByteArray).toList == (⟨#[1,4,99,111,110,115,2,0,1,0,0,0,0,0,0,0,1,3,110,105,108,0]⟩:ByteArray).toList)=true:=beq_self_eq_true _
  rw [show bs [1,4,99,111,110,115,2,0,1,0,0,0,0,0,0,0,1,3,110,105,108,0]=⟨#[1,4,99,111,110,115,2,0,1,0,0,0,0,0,0,0,1,3,110,105,108,0]⟩ from rfl] at hcv
  clear hb1 ho HC HB
  go_wp2_with fail
  go_ret
  exact ⟨rfl,HB1.out⟩
 ·rw [ex_good] at h
  cases h
 ·rw [ex_fit] at h
  cases h
end Lx
end Go.Proofs.YtiljemkglhloeaaGreatDoor
