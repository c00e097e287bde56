/- The contracts of the reference's read and done: a reader of a text's tokens, or of none where the text is refused; the error's number at the end. No conditions on the text. -/
import Derived.Test.YtiljemkglhloeaaGreatDoorRdkA
import Derived.Test.YtiljemkglhloeaaGreatDoorRefB
import Derived.Test.YtiljemkglhloeaaGreatDoorTextI
import Derived.Test.YtiljemkglhloeaaGreatDoorPlainA
namespace Go.Proofs.YtiljemkglhloeaaGreatDoor
set_option linter.unusedSimpArgs false
set_option linter.unusedVariables false
namespace Lx
open Go Go.RowKit
theorem endO_bind {α:Type} (n:Nat) (o:Out α):endO n o=bindO o (fun x k=>if k < n then .no 2 else .ok x k):=by
 cases o <;> rfl
theorem rd_made {w:World} {v:Value} {ts:List Tok} {base:Nat} (ho:w.ownsRow base 162 3 v ts.length (cellsT ts)) (hts:ts.length≤16384) (er:Int) (h0:-100000≤er) (h1:er≤100000) :
  ∃ A c,v=.slice A ts.length c∧Rd (w.alloc (.cells #[v,.int .i64 0,.int .i64 er] 147)) w.heap.size A c ts 0 er:=by
 have ho':=ho
 rcases ho.2 with ⟨rfl,h⟩ | ⟨g,cap,cur,rfl,_⟩
 ·refine ⟨none,0,by rw [h],?_,fun hn=>absurd (List.eq_nil_of_length_eq_zero h) hn,hts,by decide,h0,h1⟩
  rw [heap_alloc_new]
  unfold rdC
  rw [h]
  rfl
 ·refine ⟨_,cap,rfl,heap_alloc_new w _,fun _=>?_,hts,by decide,h0,h1⟩
  have hl:=(ho'.lt g rfl).2
  refine ⟨g,rfl,Nat.ne_of_lt hl,by simp;omega,fun j hj=>?_⟩
  exact (World.cell?_of_block (a:=⟨g,j,none⟩) (Below.heap_alloc w _ g hl)).trans (ho'.cellAt j (by omega))
set_option maxRecDepth 100000 in
set_option maxHeartbeats 2000000 in
theorem rread_any (s:ByteArray) (w:World) :
  Calls Tryz.prog 89 #[.string s] w fun e w'=>∃ B A c ts er,e=.returned (.pointer (some ⟨B,0,none⟩))∧w.heap.size≤B∧Rd w' B A c ts 0 er∧Below w.heap.size w w'∧WF ts ∧
   ∀ {α:Type} (rd:List Tok→Out α),Cont (textO rd s) er (bindO (rd ts) (fun x k=>if k < ts.length then .no 2 else .ok x k)=textO rd s):=by
 have HL:=Lib.hid (refLex_any s w)
 go_enter Tryz.func89,Tryz.ntmps89
 go_wp2_with fail
 go_at_call 116
 refine HL.out.mono ?_
 rintro e w1 ⟨hb1,⟨hs,rfl⟩ | ⟨hs,hw,rfl⟩ | ⟨hs,hw,v,rfl,ho⟩⟩
 ·go_wp2_with fail
  go_ret
  have ho:w1.ownsRow w1.heap.size 162 3 (.slice none 0 0) ([]:List Tok).length (cellsT []):=⟨rfl,.inl ⟨rfl,rfl⟩⟩
  obtain ⟨A,c,hv,hr⟩:=rd_made ho (by decide) 4 (by decide) (by decide)
  exact ⟨_,A,c,[],4,rfl,hb1.size,hr,hb1.alloc hb1.size _,fun t h=>absurd h (by simp),fun rd=>.inr ⟨1,rfl,textO_large rd hs⟩⟩
 ·go_wp2_with fail
  go_ret
  have ho:w1.ownsRow w1.heap.size 162 3 (.slice none 0 0) ([]:List Tok).length (cellsT []):=⟨rfl,.inl ⟨rfl,rfl⟩⟩
  obtain ⟨A,c,hv,hr⟩:=rd_made ho (by decide) 1 (by decide) (by decide)
  exact ⟨_,A,c,[],1,rfl,hb1.size,hr,hb1.alloc hb1.size _,fun t h=>absurd h (by simp),fun rd=>.inr ⟨3,rfl,textO_bad rd hs hw⟩⟩
 ·have hl:=toks_len s.data.toList
  rw [show s.data.toList.length=s.size by simp] at hl
  obtain ⟨A,c,rfl,hr⟩:=rd_made ho (by omega) 0 (by decide) (by decide)
  have HR:=Lib.hid hr
  have HW:=Lib.hid hw
  clear ho hr hl hw HL
  go_wp2_with fail
  go_ret
  refine ⟨_,A,c,toks s.data.toList,0,rfl,hb1.size,HR.out,hb1.alloc hb1.size _,fun t h=>toks_good h,fun rd=>.inl ⟨rfl,?_⟩⟩
  rw [textO_good rd hs HW.out,endO_bind]
def doneE (ts:List Tok) (k:Nat) (er:Int):Int:=if er=0∧k < ts.length then 2 else er
set_option maxHeartbeats 2000000 in
theorem rdone_any (w:World) (b:Nat) (A:Option Addr) (c:Nat) (ts:List Tok) (k:Nat) (er:Int) (h:Rd w b A c ts k er) :
  Calls Tryz.prog 91 #[.pointer (some ⟨b,0,none⟩)] w fun e w'=>e=.returned (.int .i64 (doneE ts k er))∧Rd w' b A c ts k (doneE ts k er)∧PFr b w w':=by
 have HP:=Lib.hid h
 have c0:=h.c0
 have c1:=h.c1
 have c2:=h.c2
 have f2:=h.f2
 unfold doneE
 by_cases hz:er=0
 ·subst hz
  rcases Nat.lt_or_ge k ts.length with hl | hl
  ·have hd:decide ((k:Int) < (ts.length:Int))=true:=by simp;omega
   have hd2:decide (k < ts.length)=true:=by simpa using hl
   rw [if_pos ⟨rfl,hl⟩]
   clear h
   go_enter Tryz.func91,Tryz.ntmps91
   go_wp2
   go_quiet (fail)
   go_wp2
   go_ret
   exact ⟨rfl,(HP.out.drewN nq).setErr 2 (by decide) (by decide),((PFr.refl b w).drewN nq).put 2 _⟩
  ·have hd:decide ((k:Int) < (ts.length:Int))=false:=by simp;omega
   have hd2:decide (k < ts.length)=false:=by simpa using hl
   rw [if_neg (fun q=>by omega)]
   clear h
   go_enter Tryz.func91,Tryz.ntmps91
   go_wp2
   go_quiet (fail)
   go_wp2
   go_ret
   exact ⟨rfl,HP.out.drewN nq,(PFr.refl b w).drewN nq⟩
 ·have hn:(er == 0)=false:=by simpa using hz
  rw [if_neg (fun q=>hz q.1)]
  clear h
  go_enter Tryz.func91,Tryz.ntmps91
  go_wp2
  go_quiet (fail)
  go_wp2
  go_ret
  exact ⟨rfl,HP.out.drewN nq,(PFr.refl b w).drewN nq⟩
end Lx
end Go.Proofs.YtiljemkglhloeaaGreatDoor
