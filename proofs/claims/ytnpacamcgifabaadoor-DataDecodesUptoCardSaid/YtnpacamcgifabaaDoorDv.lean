/- Steps of the statement DataSlips: rows of bytes cut and appended. Conditions: as each states. -/
import Derived.Test.YtnpacamcgifabaaDoorDu
import Derived.Test.YtnpacamcgifabaaDoorDt
namespace Go.Proofs.YtnpacamcgifabaaDoor
set_option linter.unusedSimpArgs false
set_option linter.unusedVariables false
namespace Lx
open Go Go.RowKit
theorem OwnB.row {B:Nat} {l:List UInt8} {v:Value} {w:World} (h:OwnB B l v w):RowW 1 ByH (fun _=>False) l v w:=by
 have hcc:∃ A c,v=.slice A l.length c∧l.length≤c∧c≤maxLen:=by
  rcases h.2 with ⟨rfl,h0⟩ | ⟨g,cap,cur,rfl,_,_,h1,h2,_⟩
  ·exact ⟨none,0,by rw [h0],by omega,Nat.zero_le _⟩
  ·exact ⟨_,cap,rfl,h1,h2⟩
 obtain ⟨A,c,rfl,h1,h2⟩:=hcc
 refine ⟨A,c,rfl,h1,h2,fun i hi=>?_⟩
 rcases h.2 with ⟨_,e⟩ | ⟨g,cap',cur,e,hg,hb,_⟩
 ·omega
 ·injection e with e _ _
  subst e
  refine ⟨g,0,.int .u8 l[i].toNat,rfl,(Array.getElem?_eq_some_iff.1 hb).1,fun e=>e,rfl,fun j hj=>?_⟩
  obtain rfl:j=0:=by omega
  have hraw:w.ownsRow B 5 1 (.slice (some ⟨g,0,none⟩) l.length c) l.length (Lib.byteCells l):=h
  have h3:w.cell? ⟨g,i,none⟩=(Lib.byteCells l)[i]?:=hraw.cellAt i (by omega)
  rw [Nat.zero_add,Nat.mul_one,Nat.add_zero,h3,Lib.byteCells,List.getElem?_map,List.getElem?_eq_getElem hi]
  rfl
theorem By.takeC {Vol:Nat→Prop} {l:List UInt8} {A:Option Addr} {c:Nat} {w:World} (h:RowW 1 ByH Vol l (.slice A l.length c) w) {size:Nat} (hs:size≤l.length):RowW 1 ByH Vol (l.take size) (.slice A size c) w:=by
 have hl:(l.take size).length=size:=by rw [List.length_take];omega
 have hcc:l.length≤c∧c≤maxLen:=by
  obtain ⟨A',c',e,h1,h2,_⟩:=h
  injection e with _ _ e3
  omega
 refine ⟨A,c,by rw [hl],by omega,hcc.2,fun i hi=>?_⟩
 have hi2:i < l.length:=by rw [hl] at hi;omega
 obtain ⟨b,off,vi,e1,e2,e3,e4,e5⟩:=RowW.at h i hi2
 exact ⟨b,off,vi,e1,e2,e3,by rw [List.getElem_take];exact e4,e5⟩
theorem run_head (A:Option Addr) (len cap size:Nat) (W:World) (h:size≤cap):(Instr.slice 64 (.slice A len cap) none (some (.int .i64 (size:Int))) none).run Tryd.prog W=.ok (.slice A size cap) W:=by
 rw [run_slice_h W 64 A len cap elB .i64 size (by omega) (by omega),sizeB]
 simp only [Result.andThen,sliced,Int.toNat_natCast,Nat.sub_zero,Nat.zero_mul]
 congr 2
 split
 ·rfl
 ·cases A with
  | none=>rfl
  | some a=>simp [Addr.add]
set_option maxRecDepth 100000 in
/-- 'append(own, row...)'. -/
theorem append_row {w:World} {ops:Array Oper} {rest:List Oper} {o:Oper} {a:Act} {Q:Exit→Act→World→Prop} (hw:Region.wanted o (yielded ops a.tmps)=true) (s x:Operand)
  (ho:o.op=.call { callee:=.builtin .append,args:=#[s,x],argTypes:=#[64,64] })
  (B:Nat) (l:List UInt8) (v:Value) (hs:a.eval s=v) (hown:OwnB B l v w) (Vol:Nat→Prop) (m:List UInt8) (y:Value) (hx:a.eval x=y) (hy:RowW 1 ByH Vol m y w) (hy0:∀ n c,y=.slice none n c→c=0) (hl:l.length+m.length≤100000000000) (hbase:B≤w.heap.size)
  (h:∀ v' w',OwnB B (l++m) v' w'→w.grownBy w' v.ownBlock→wpList Tryd.prog ops Q rest (a.put o.dst v') w'):wpList Tryd.prog ops Q (o :: rest) a w:=by
 obtain ⟨i0,hi,hz0,hz1,hz2⟩:=info_parts infoB
 refine BigFrame.wpList_want hw fun K hK=>?_
 have hend:∀ v' w',w'.ownsRow B 5 1 v' (l.length+m.length) (Lib.byteCells l++Lib.byteCells m)→OwnB B (l++m) v' w':=fun v' w' h2=>by unfold OwnB;rw [byteCells_app,List.length_append];exact h2
 obtain ⟨A,c,rfl⟩:=hy.slice
 cases A with
 | none =>
  have hm:m=[]:=by
   rcases m with _ | ⟨b,m⟩
   ·rfl
   ·obtain ⟨_,_,e,_⟩:=By.at hy 0 (by simp)
    cases e
  subst hm
  obtain rfl:=hy0 _ _ rfl
  have hrun:=run_append_owned_none (P:=Tryd.prog) (w:=w) B 64 o.type 5 i0 1 Tryd.underlying64 hi v l.length _ hown
  have h2:=hK _ _ (h v w (by simpa using hown) (World.grownBy.refl w _))
  unfold Oper.wp
  simp [execOp,ho,resolve,invoke,builtin,hs,hx,hrun,Result.andThen]
  exact h2
 | some ad =>
  refine wp_append_own w s x 64 ho B 5 i0 _ 1 1 Tryd.underlying64 hi hz0 hz1 hz2 rfl (by decide) v l.length (Lib.byteCells l) hs hown ad m.length c (Lib.byteCells m) hx (by simp [Lib.byteCells]) ?_ (fun u hu=>?_)
   (by unfold maxLen;omega) (by omega) hbase (fun v' w' h1 h2 _=>hK _ _ (h v' w' (hend v' w' h1) h2))
  ·intro j u hu
   have hj:j < m.length:=by
    rcases Nat.lt_or_ge j m.length with h | h
    ·exact h
    ·rw [List.getElem?_eq_none (by simpa [Lib.byteCells] using h)] at hu;cases hu
   obtain ⟨b,off,e,_,_,hc⟩:=By.at hy j hj
   injection e with e
   subst e
   rw [addr_add,hc,← hu,Lib.byteCells,List.getElem?_map,List.getElem?_eq_getElem hj]
   rfl
  ·obtain ⟨n,_,rfl⟩:=List.mem_map.1 hu
   rfl
/-- What memory holds lies in blocks that are there. -/
theorem DaW.old:∀ {d:Nat} {x:DaT} {v:Value} {w:World} {B:Nat} (_:DaW d (fun _=>False) x v w) (_:w.heap.size≤B),DaW d (fun k=>B≤k) x v w
 | 0,_,_,_,_,h,_=>h.elim
 | d+1,.mk c n s l,v,w,B,⟨va,hv,A,c',e,h1,h2,h3⟩,hB=>⟨va,hv,A,c',e,h1,h2,fun i hi=>by
  obtain ⟨b,off,vi,e1,e2,_,e4,e5⟩:=h3 i hi
  exact ⟨b,off,vi,e1,e2,by omega,DaW.old e4 hB,e5⟩⟩
theorem ErrY.kb {a:Addr} {S:Nat→Prop} {w w':World} (h:ErrY a w) (hk:Kb S w w') (hn:¬ S 2):ErrY a w':=(World.cell?_of_block (hk.block _ (World.block_lt_of_cell? _ _ h) hn)).trans h
theorem kb_growB {B:Nat} {w w':World} {row:Option Nat} (hg:w.grownBy w' row) (hr:∀ k,row=some k→B≤k):Kb (fun j=>B≤j) w w':=⟨hg.os,hg.tape,hg.output,hg.size,fun j hj hn=>hg.block j hj (fun e=>hn (hr j e.symm))⟩
/-- A row that is held, and whose blocks lie low. -/
theorem by_low {l:List UInt8} {v:Value} {w w':World} (h:RowW 1 ByH (fun _=>False) l v w) (hb:Below w.heap.size w w'):RowW 1 ByH (fun j=>w.heap.size≤j) l v w':=by
 obtain ⟨A,c,e,h1,h2,h3⟩:=(RowW.step ByH.step).below h hb
 obtain ⟨A',c',e',_,_,h3'⟩:=h
 refine ⟨A,c,e,h1,h2,fun i hi=>?_⟩
 obtain ⟨b,off,vi,e1,e2,_,e4,e5⟩:=h3 i hi
 obtain ⟨b',off',vi',f1,f2,_⟩:=h3' i hi
 have hA:A=A':=by rw [e] at e';injection e'
 rw [hA,f1] at e1
 injection e1 with e1
 injection e1 with e1 _
 exact ⟨b,off,vi,by rw [hA,f1];simp_all,e2,by omega,e4,e5⟩
theorem by_old {l:List UInt8} {v:Value} {w w':World} {B:Nat} (_:RowW 1 ByH (fun _=>False) l v w) (hk:Kb (fun j=>B≤j) w w') (h2:RowW 1 ByH (fun j=>B≤j) l v w):RowW 1 ByH (fun _=>False) l v w':=RowW.step ByH.step _ _ _ _ _ _ h2 hk (fun _ _ e=>e.elim)
end Lx
end Go.Proofs.YtnpacamcgifabaaDoor
