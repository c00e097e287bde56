/- Rows of bytes of one's own; the eight bytes of a number. Conditions: as each states. -/
import Derived.Test.YtnpacamcgifabaaDoorDa
import Derived.Lib.AppendStr
import Derived.Lib.OwnKind
namespace Go.Proofs.YtnpacamcgifabaaDoor
set_option linter.unusedSimpArgs false
set_option linter.unusedVariables false
namespace Lx
open Go Go.RowKit
def bs (l:List UInt8):ByteArray:=⟨l.toArray⟩
theorem bs_app (a b:List UInt8):bs a++bs b=bs (a++b):=ByteArray.ext (by simp [bs])
theorem bs_len (a:List UInt8):(bs a).size=a.length:=by simp [bs,ByteArray.size]
theorem bs_back (s:ByteArray):bs s.data.toList=s:=ByteArray.ext (by simp [bs])
theorem infoB:(Tryd.prog.info? 5).map (fun i=>(i.zero,i.size,i.bytes))=some (some (.int .u8 0),1,1):=by kernel_rfl
/-- A row of bytes of one's own. -/
def OwnB (B:Nat) (l:List UInt8) (v:Value) (w:World):Prop:=w.ownsRow B 5 1 v l.length (Lib.byteCells l)
section
variable {B:Nat} {l:List UInt8} {v:Value} {w w':World}
theorem OwnB.shapeN (h:OwnB B l v w):∃ A n c,v=.slice A n c:=by
 rcases h.2 with ⟨rfl,h0⟩ | ⟨g,cap,cur,rfl,_⟩
 ·exact ⟨none,0,0,rfl⟩
 ·exact ⟨_,_,cap,rfl⟩
theorem OwnB.shape (h:OwnB B l v w):∃ A c,v=.slice A l.length c:=by
 rcases h.2 with ⟨rfl,h0⟩ | ⟨g,cap,cur,rfl,_⟩
 ·exact ⟨none,0,by rw [h0]⟩
 ·exact ⟨_,cap,rfl⟩
theorem OwnB.below (h:OwnB B l v w) (hb:Below w.heap.size w w'):OwnB B l v w':=own_belowN h hb
theorem byteCells_app (a b:List UInt8):Lib.byteCells (a++b)=Lib.byteCells a++Lib.byteCells b:=by simp [Lib.byteCells]
end
/-- 'append(own, b)'. -/
theorem append_byte {w:World} {ops:Array Oper} {rest:List Oper} {o:Oper} {a:Act} {Q:Exit→Act→World→Prop} (hgd:o.guard=none) (s x:Operand)
  (ho:o.op=.call { callee:=.builtin .append,args:=#[s,x],argTypes:=#[64,64] })
  (B:Nat) (l:List UInt8) (v:Value) (hs:a.eval s=v) (hown:OwnB B l v w) (N:Nat) (b:UInt8) (hx:a.eval x=.slice (some ⟨N,0,none⟩) 1 1) (hN:w.heap[N]?=some (.cells #[.int .u8 b.toNat] 5 (0,0))) (hl:l.length≤100000000000000) (hbase:B≤w.heap.size)
  (h:∀ A n c w',OwnB B (l++[b]) (.slice A n c) w'→w.grownBy w' v.ownBlock→wpList Tryd.prog ops Q rest (a.put o.dst (.slice A n c)) w'):wpList Tryd.prog ops Q (o :: rest) a w:=by
 obtain ⟨i0,hi,hz0,hz1,hz2⟩:=info_parts infoB
 refine wpList_append_lies w hgd s x 64 ho B 5 i0 _ 1 1 Tryd.underlying64 hi hz0 hz1 hz2 rfl (by decide) v l.length (Lib.byteCells l) hs hown ⟨N,0,none⟩ 1 1 [.int .u8 b.toNat] hx rfl (World.news_of_block (cs:=#[.int .u8 b.toNat]) hN) (by simp [Value.oneCell']) (by decide) (by unfold maxLen;omega) (by omega) hbase _ rfl ?_
 intro g cap w' h2 h3 _ _
 exact h _ _ cap w' (by unfold OwnB;rw [byteCells_app,List.length_append];exact h2) h3
/-- 'append(own, s...)'. -/
theorem append_text {w:World} {ops:Array Oper} {rest:List Oper} {o:Oper} {a:Act} {Q:Exit→Act→World→Prop} (hgd:o.guard=none) (s x:Operand)
  (ho:o.op=.call { callee:=.builtin .append,args:=#[s,x],argTypes:=#[64,9] })
  (B:Nat) (l:List UInt8) (v:Value) (hs:a.eval s=v) (hown:OwnB B l v w) (t:List UInt8) (hx:a.eval x=.string (bs t)) (hl:l.length+t.length≤100000000000000) (hbase:B≤w.heap.size)
  (h:∀ A n c w',OwnB B (l++t) (.slice A n c) w'→w.grownBy w' v.ownBlock→wpList Tryd.prog ops Q rest (a.put o.dst (.slice A n c)) w'):wpList Tryd.prog ops Q (o :: rest) a w:=by
 obtain ⟨i0,hi,hz0,hz1,hz2⟩:=info_parts infoB
 have hbl:=bs_len t
 refine Lib.wpList_append_own_string w hgd s x 64 9 ho B 5 i0 Tryd.underlying64 Tryd.underlying9 hi hz0 hz1 hz2 v l.length (Lib.byteCells l) hs hown (bs t) hx (by unfold maxLen;omega) (by omega) hbase ?_
 intro v' w' h2 h3 _
 have h4:OwnB B (l++t) v' w':=by
  unfold OwnB
  rw [byteCells_app,List.length_append,← hbl]
  exact h2
 obtain ⟨A,c,rfl⟩:=h4.shape
 exact h A _ c w' h4 h3
theorem below_grownB {b:Nat} {a c d:World} {row:Option Nat} (h:Below b a c) (hg:c.grownBy d row) (hr:∀ k,row=some k→b≤k) (hb:b≤c.heap.size):Below b a d :=
 ⟨hg.os.trans h.os,hg.tape.trans h.tape,hg.output.trans h.output,Nat.le_trans h.size hg.size,fun j hj=>(hg.block j (by omega) (fun e=>by have:=hr j e.symm;omega)).trans (h.block j hj)⟩
/-- A number's low byte. -/
def byteZ (z:Int):UInt8:=UInt8.ofNat (z % 256).toNat
theorem byteZ_nat (z:Int):((byteZ z).toNat:Int)=z % 256:=by
 have h1:0≤z % 256:=Int.emod_nonneg _ (by decide)
 have h2:z % 256 < 256:=Int.emod_lt_of_pos _ (by decide)
 rw [byteZ,UInt8.toNat_ofNat']
 omega
/-- The eight bytes of a number, the low one first. -/
def le8 (n:Int):List UInt8:=(List.range 8).map fun i=>byteZ (n / 2 ^ (8 * i))
theorem ty_u8:(5:TypeId) ≠ 68:=by decide
/-- Boxes of data stand. -/
def KeepD (w w':World):Prop:=∀ (X:Nat) (cs:Array Value) (fr:Nat × Nat),w.heap[X]?=some (.cells cs 68 fr)→w'.heap[X]?=some (.cells cs 68 fr)
theorem KeepD.refl (w:World):KeepD w w:=fun _ _ _ h=>h
theorem KeepD.trans {a b c:World} (h:KeepD a b) (k:KeepD b c):KeepD a c:=fun X cs fr e=>k X cs fr (h X cs fr e)
theorem KeepD.low {a b:World} (h:Below a.heap.size a b):KeepD a b:=fun X cs fr e=>(h.block X (Array.getElem?_eq_some_iff.1 e).1).trans e
theorem KeepD.grown {B:Nat} {l:List UInt8} {v:Value} {a b:World} (ho:OwnB B l v a) (hg:a.grownBy b v.ownBlock):KeepD a b:=fun X cs fr e=>(hg.block X (Array.getElem?_eq_some_iff.1 e).1 (owner_ne ty_u8 ho e)).trans e
set_option maxRecDepth 100000 in
set_option maxHeartbeats 2000000 in
theorem appendInt_any (B:Nat) (acc:List UInt8) (sv:Value) (n:Int) (w:World) (ho:OwnB B acc sv w) (hl:acc.length≤10000000000000) (hB:B≤w.heap.size) :
  Calls Tryd.prog 101 #[sv,.int .i64 n] w fun e w'=>∃ A m c,e=.returned (.slice A m c)∧OwnB B (acc++le8 n) (.slice A m c) w'∧Below B w w'∧KeepD w w':=by
 obtain ⟨A0,n0,c0,rfl⟩:=ho.shapeN
 have HO:=Lib.hid ho
 clear ho
 go_enter Tryd.func101,Tryd.ntmps101
 go_wp2_with fail
 go_loopw [0,6] (fun u t wr=>∃ (i:Nat) (A:Option Addr) (m c:Nat),i≤8∧t=.int .i64 i∧u=.slice A m c∧Hid (OwnB B (acc++(le8 n).take i) u wr)∧Hid (Below B w wr)∧Hid (KeepD w wr)) (fun _ t _=>8 - (intOf t).toNat)
 case atStart=>exact ⟨0,_,_,_,Nat.zero_le _,rfl,rfl,by rw [List.take_zero,List.append_nil];exact HO,Lib.hid (Below.refl _ _),Lib.hid (KeepD.refl _)⟩
 case round =>
  obtain ⟨i,A,m,c,hi,rfl,rfl,HOR,HBR,HKR⟩:=hrel
  by_cases hlt:i < 8
  ·have hdc:decide (i < 8)=true:=by simpa using hlt
   have hd2:decide ((i:Int) < (8:Int))=true:=by simp;omega
   have hs:=HBR.out.size
   have hle:(acc++(le8 n).take i).length≤100000000000000:=by
    simp only [List.length_append,List.length_take]
    omega
   have hnx:(le8 n).take (i+1)=(le8 n).take i++[byteZ (n / 2 ^ (8 * i))]:=by
    have h8:i < (le8 n).length:=by simp [le8];omega
    rw [List.take_succ_eq_append_getElem h8]
    simp [le8]
   have HNX:=Lib.hid hnx
   have HLE:=Lib.hid hle
   clear hnx hle
   go_wp2_with (at_builtin;refine append_byte rfl _ _ rfl B (acc++(le8 n).take i) _ rfl (OwnB.below HOR.out (below_alloc _ _)) wr.heap.size (byteZ (n / 2 ^ (8 * i))) rfl (by rw [byteZ_nat];exact heap_alloc_new wr _) HLE.out (by simp;omega) ?_;intro A3 m3 c3 w6 hown6 hg6;have HO6:=Lib.hid hown6;have HG6:=Lib.hid hg6;clear hown6 hg6)
   have HB6:Hid (Below B w w6):=Lib.hid (below_grownB (HBR.out.trans ((below_alloc wr (.cells #[.int .u8 (n / 2 ^ (8 * i) % 256)] 5)).mono (by omega))) HG6.out (fun k e=>(HOR.out.lt k e).1) (by simp;omega))
   have HK6:=Lib.hid (HKR.out.trans ((KeepD.low (below_alloc wr (.cells #[.int .u8 (n / 2 ^ (8 * i) % 256)] 5))).trans (KeepD.grown (OwnB.below HOR.out (below_alloc wr (.cells #[.int .u8 (n / 2 ^ (8 * i) % 256)] 5))) HG6.out)))
   go_roundw
   case rel=>exact ⟨i+1,A3,m3,c3,by omega,by go_num,rfl,by rw [HNX.out,← List.append_assoc];exact HO6,HB6,HK6⟩
   case measure=>simp [intOf];omega
  ·obtain rfl:i=8:=by omega
   have HT:Hid ((le8 n).take 8=le8 n):=Lib.hid (List.take_of_length_le (by simp [le8]))
   rw [HT.out] at HOR
   go_wp2_with fail
   go_ret
   exact ⟨_,_,_,rfl,HOR.out,HBR.out,HKR.out⟩
end Lx
end Go.Proofs.YtnpacamcgifabaaDoor
