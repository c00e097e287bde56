/- The decoder, purely: what is written is read; what is cut short is not; more behind is left. No program stands in this text; no conditions. -/
/- Steps of the statement DataSlips: rows of bytes cut and appended. Conditions: as each states. -/
/- The decoder, purely: what is read was written so (its bytes are those of what came of it), and a number's value. No program stands in this text; no conditions. -/
import Derived.Test.YtiljemkglhloeaaGreatDoorDxR
import Derived.Test.YtiljemkglhloeaaGreatDoorDxE
namespace Go.Proofs.YtiljemkglhloeaaGreatDoor
set_option linter.unusedSimpArgs false
set_option linter.unusedVariables false
namespace Lx
open Go Go.RowKit
theorem byteZ_small {n:Nat} (h:n < 256):(byteZ (n:Int)).toNat=n:=by
 have h1:=byteZ_nat (n:Int)
 omega
theorem le8_len (n:Int):(le8 n).length=8:=by simp [le8]
end Lx
end Go.Proofs.YtiljemkglhloeaaGreatDoor
namespace Go.Proofs.YtiljemkglhloeaaGreatDoor
set_option linter.unusedSimpArgs false
set_option linter.unusedVariables false
namespace Lx
open Go Go.RowKit
theorem OwnB.row {B:Nat} {l:List UInt8} {v:Value} {w:World} (h:OwnB B l v w):RowW 1 ByH (fun _=>False) l v w:=by
 have hcc:∃ A c,v=.slice A l.length c∧l.length≤c∧c≤maxLen:=by
  rcases h.2 with ⟨rfl,h0⟩ | ⟨g,cap,cur,rfl,_,_,h1,h2,_⟩
  ·exact ⟨none,0,by rw [h0],by omega,Nat.zero_le _⟩
  ·exact ⟨_,cap,rfl,h1,h2⟩
 obtain ⟨A,c,rfl,h1,h2⟩:=hcc
 refine ⟨A,c,rfl,h1,h2,fun i hi=>?_⟩
 rcases h.2 with ⟨_,e⟩ | ⟨g,cap',cur,e,hg,hb,_⟩
 ·omega
 ·injection e with e _ _
  subst e
  refine ⟨g,0,.int .u8 l[i].toNat,rfl,(Array.getElem?_eq_some_iff.1 hb).1,fun e=>e,rfl,fun j hj=>?_⟩
  obtain rfl:j=0:=by omega
  have hraw:w.ownsRow B 5 1 (.slice (some ⟨g,0,none⟩) l.length c) l.length (Lib.byteCells l):=h
  have h3:w.cell? ⟨g,i,none⟩=(Lib.byteCells l)[i]?:=hraw.cellAt i (by omega)
  rw [Nat.zero_add,Nat.mul_one,Nat.add_zero,h3,Lib.byteCells,List.getElem?_map,List.getElem?_eq_getElem hi]
  rfl
set_option maxRecDepth 100000 in
/-- 'append(own, row...)'. -/
theorem append_row {w:World} {ops:Array Oper} {rest:List Oper} {o:Oper} {a:Act} {Q:Exit→Act→World→Prop} (hw:Region.wanted o (yielded ops a.tmps)=true) (s x:Operand)
  (ho:o.op=.call { callee:=.builtin .append,args:=#[s,x],argTypes:=#[47,47] })
  (B:Nat) (l:List UInt8) (v:Value) (hs:a.eval s=v) (hown:OwnB B l v w) (Vol:Nat→Prop) (m:List UInt8) (y:Value) (hx:a.eval x=y) (hy:RowW 1 ByH Vol m y w) (hy0:∀ n c,y=.slice none n c→c=0) (hl:l.length+m.length≤100000000000) (hbase:B≤w.heap.size)
  (h:∀ v' w',OwnB B (l++m) v' w'→w.grownBy w' v.ownBlock→wpList Tryz.prog ops Q rest (a.put o.dst v') w'):wpList Tryz.prog ops Q (o :: rest) a w:=by
 obtain ⟨i0,hi,hz0,hz1,hz2⟩:=info_parts infoB
 refine BigFrame.wpList_want hw fun K hK=>?_
 have hend:∀ v' w',w'.ownsRow B 5 1 v' (l.length+m.length) (Lib.byteCells l++Lib.byteCells m)→OwnB B (l++m) v' w':=fun v' w' h2=>by unfold OwnB;rw [byteCells_app,List.length_append];exact h2
 obtain ⟨A,c,rfl⟩:=hy.slice
 cases A with
 | none =>
  have hm:m=[]:=by
   rcases m with _ | ⟨b,m⟩
   ·rfl
   ·obtain ⟨_,_,e,_⟩:=By.at hy 0 (by simp)
    cases e
  subst hm
  obtain rfl:=hy0 _ _ rfl
  have hrun:=run_append_owned_none (P:=Tryz.prog) (w:=w) B 47 o.type 5 i0 1 Tryz.underlying47 hi v l.length _ hown
  have h2:=hK _ _ (h v w (by simpa using hown) (World.grownBy.refl w _))
  unfold Oper.wp
  simp [execOp,ho,resolve,invoke,builtin,hs,hx,hrun,Result.andThen]
  exact h2
 | some ad =>
  refine wp_append_own w s x 47 ho B 5 i0 _ 1 1 Tryz.underlying47 hi hz0 hz1 hz2 rfl (by decide) v l.length (Lib.byteCells l) hs hown ad m.length c (Lib.byteCells m) hx (by simp [Lib.byteCells]) ?_ (fun u hu=>?_)
   (by unfold maxLen;omega) (by omega) hbase (fun v' w' h1 h2 _=>hK _ _ (h v' w' (hend v' w' h1) h2))
  ·intro j u hu
   have hj:j < m.length:=by
    rcases Nat.lt_or_ge j m.length with h | h
    ·exact h
    ·rw [List.getElem?_eq_none (by simpa [Lib.byteCells] using h)] at hu;cases hu
   obtain ⟨b,off,e,_,_,hc⟩:=By.at hy j hj
   injection e with e
   subst e
   rw [addr_add,hc,← hu,Lib.byteCells,List.getElem?_map,List.getElem?_eq_getElem hj]
   rfl
  ·obtain ⟨n,_,rfl⟩:=List.mem_map.1 hu
   rfl
/-- What memory holds lies in blocks that are there. -/
theorem DaW.old:∀ {d:Nat} {x:DaT} {v:Value} {w:World} {B:Nat} (_:DaW d (fun _=>False) x v w) (_:w.heap.size≤B),DaW d (fun k=>B≤k) x v w
 | 0,_,_,_,_,h,_=>h.elim
 | d+1,.mk c n s l,v,w,B,⟨va,hv,A,c',e,h1,h2,h3⟩,hB=>⟨va,hv,A,c',e,h1,h2,fun i hi=>by
  obtain ⟨b,off,vi,e1,e2,_,e4,e5⟩:=h3 i hi
  exact ⟨b,off,vi,e1,e2,by omega,DaW.old e4 hB,e5⟩⟩
theorem ErrY.kb {a:Addr} {S:Nat→Prop} {w w':World} (h:ErrY a w) (hk:Kb S w w') (hn:¬ S 10):ErrY a w':=(World.cell?_of_block (hk.block _ (World.block_lt_of_cell? _ _ h) hn)).trans h
end Lx
end Go.Proofs.YtiljemkglhloeaaGreatDoor
namespace Go.Proofs.YtiljemkglhloeaaGreatDoor
set_option linter.unusedSimpArgs false
set_option linter.unusedVariables false
namespace Lx
open Go Go.RowKit
/-- A number by its bytes, the low one first. -/
def lowN:List UInt8→Nat
 | []=>0
 | b :: l=>b.toNat+256 * lowN l
theorem lowN_snoc:∀ (l:List UInt8) (b:UInt8),lowN (l++[b])=lowN l+b.toNat * 256 ^ l.length
 | [],b=>by simp [lowN]
 | a :: l,b=>by
  rw [List.cons_append,lowN,lowN,lowN_snoc l b,List.length_cons,Nat.pow_succ,Nat.mul_add,Nat.add_assoc]
  congr 2
  rw [Nat.mul_comm 256,Nat.mul_assoc]
theorem byte_lt (b:UInt8):b.toNat < 256:=b.toNat_lt
theorem lowN_lt:∀ l:List UInt8,lowN l < 256 ^ l.length
 | []=>by simp [lowN]
 | b :: l=>by
  have h:=lowN_lt l
  have hb:=byte_lt b
  rw [lowN,List.length_cons,Nat.pow_succ]
  omega
theorem ofInt_wrap (n:Nat):(BitVec.ofInt 64 (wrap64 (n:Int))).toNat=n % 18446744073709551616:=by
 rw [BitVec.toNat_ofInt]
 unfold wrap64
 omega
theorem or_i64 (a b i:Nat) (ha:a < 2 ^ i) (hs:a+b * 2 ^ i < 18446744073709551616):bits .or .i64 (wrap64 (a:Int)) (wrap64 ((b * 2 ^ i:Nat):Int))=wrap64 ((a+b * 2 ^ i:Nat):Int):=by
 show IntKind.i64.wrap ((BitVec.ofInt 64 (wrap64 (a:Int)) ||| BitVec.ofInt 64 (wrap64 ((b * 2 ^ i:Nat):Int))).toNat:Int)=_
 rw [BitVec.toNat_or,ofInt_wrap,ofInt_wrap,Nat.mod_eq_of_lt (by omega),Nat.mod_eq_of_lt (by omega),Nat.or_comm,← Nat.shiftLeft_eq,← Nat.shiftLeft_add_eq_or_of_lt ha,Nat.add_comm]
 generalize a+b <<< i=q
 unfold IntKind.wrap wrap64
 simp [IntKind.bits,IntKind.signed]
 split <;> omega
theorem numP_low (l:List UInt8):∀ i,i≤8→i≤l.length→numP l i=wrap64 ((lowN (l.take i):Nat):Int)
 | 0,_,_=>by simp [numP,lowN,wrap64]
 | i+1,h8,hl=>by
  have hlt:i < l.length:=by omega
  have hN:=lowN_lt (l.take i)
  have hb:=byte_lt (l.getD i 0)
  rw [List.length_take,Nat.min_eq_left (by omega)] at hN
  have hp:(256:Nat) ^ i=2 ^ (8 * i):=by rw [Nat.pow_mul]
  rw [hp] at hN
  have hle:(2:Nat) ^ (8 * i)≤2 ^ 56:=Nat.pow_le_pow_right (by decide) (by omega)
  have hsum:lowN (l.take i)+(l.getD i 0).toNat * 2 ^ (8 * i) < 18446744073709551616:=by
   have:=Nat.mul_le_mul (Nat.le_of_lt_succ hb) hle
   omega
  rw [numP,numP_low l i (by omega) (by omega),List.take_succ_eq_append_getElem hlt,lowN_snoc,List.length_take,Nat.min_eq_left (by omega),hp]
  have e1:wrap64 ((l.getD i 0).toNat:Int)=((l.getD i 0).toNat:Int):=by unfold wrap64;omega
  have e2:((l.getD i 0).toNat:Int) * 2 ^ (8 * i)=(((l.getD i 0).toNat * 2 ^ (8 * i):Nat):Int):=by push_cast;rfl
  have e3:l.getD i 0=l[i]:=by rw [List.getD_eq_getElem?_getD,List.getElem?_eq_getElem hlt];rfl
  rw [e1,e2,or_i64 _ _ _ hN hsum,e3]
end Lx
end Go.Proofs.YtiljemkglhloeaaGreatDoor
