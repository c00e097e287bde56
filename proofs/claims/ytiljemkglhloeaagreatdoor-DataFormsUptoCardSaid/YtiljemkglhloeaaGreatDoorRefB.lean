/- Plain facts: how far a left-to-right reading of a text has come: the tokens found so far and those still to come. No program stands in this text; no conditions. -/
/- The contract of the reference's All. Conditions: the text has at most 2000000 bytes. -/
/- The contract of the reference's Lex at every text: the tokens that the plain functions find, or no token and the error's number. No conditions. -/
import Derived.Test.YtiljemkglhloeaaGreatDoorPlainA
import Derived.Test.YtiljemkglhloeaaGreatDoorRefA
import Derived.Test.YtiljemkglhloeaaGreatDoorLexA
import Derived.Laws.AppendOwnNone
import Derived.BigFrame
import Derived.Deep.RegionHeld3
import Derived.Deep.AppendLies
import Derived.Deep.DrawnRows
namespace Go.Proofs.YtiljemkglhloeaaGreatDoor
set_option linter.unusedSimpArgs false
set_option linter.unusedVariables false
namespace Lx
open Go
/-- The tokens 'done' are found; at place k, in a comment or not, the rest is still to be read. -/
def LexAt (l:List UInt8) (done:List (Nat × Tok)) (cm:Bool) (k:Nat):Prop:=lex false 0 l=(done++(lex cm k (l.drop k)).1,(lex cm k (l.drop k)).2)
theorem lexAt_start (l:List UInt8):LexAt l [] false 0:=by
 unfold LexAt
 rw [List.drop_zero,List.nil_append]
theorem lexAt_end {l:List UInt8} {done:List (Nat × Tok)} {cm:Bool} {k:Nat} (h:LexAt l done cm k) (hk:l.length≤k):lex false 0 l=(done,true):=by
 unfold LexAt at h
 rw [List.drop_eq_nil_of_le hk,lex_nil,List.append_nil] at h
 exact h
theorem lexAt_cmt {l:List UInt8} {done:List (Nat × Tok)} {k:Nat} (h:LexAt l done true k) (hk:k < l.length):LexAt l done (cmtI ((l[k]).toNat:Int)) (k+1):=by
 unfold LexAt at h ⊢
 rw [List.drop_eq_getElem_cons hk,lex_cmt] at h
 exact h
theorem lexAt_blk {l:List UInt8} {done:List (Nat × Tok)} {k:Nat} (h:LexAt l done false k) (hk:k < l.length) (hb:blkI ((l[k]).toNat:Int)=true):LexAt l done false (k+1):=by
 unfold LexAt at h ⊢
 rw [List.drop_eq_getElem_cons hk,lex_blk _ _ _ hb] at h
 exact h
theorem lexAt_pct {l:List UInt8} {done:List (Nat × Tok)} {k:Nat} (h:LexAt l done false k) (hk:k < l.length) (hb:blkI ((l[k]).toNat:Int)=false) (hp:(((l[k]).toNat:Int) == 37)=true):LexAt l done true (k+1):=by
 unfold LexAt at h ⊢
 rw [List.drop_eq_getElem_cons hk,lex_pct _ _ _ hb hp] at h
 exact h
theorem lexAt_bad {l:List UInt8} {done:List (Nat × Tok)} {k:Nat} (h:LexAt l done false k) (hk:k < l.length) (hb:blkI ((l[k]).toNat:Int)=false) (hp:(((l[k]).toNat:Int) == 37)=false) (ht:tokAt (l.drop k)=none):lex false 0 l=(done,false):=by
 unfold LexAt at h
 rw [List.drop_eq_getElem_cons hk] at h ht
 rw [lex_bad _ _ _ hb hp ht,List.append_nil] at h
 exact h
theorem lexAt_tok {l:List UInt8} {done:List (Nat × Tok)} {k:Nat} (h:LexAt l done false k) (hk:k < l.length) (hb:blkI ((l[k]).toNat:Int)=false) (hp:(((l[k]).toNat:Int) == 37)=false) {t:Tok} (ht:tokAt (l.drop k)=some t) :
  LexAt l (done++[(k,t)]) false (k+t.text.length):=by
 unfold LexAt at h ⊢
 have hd:l.drop (k+t.text.length)=(l[k] :: l.drop (k+1)).drop t.text.length:=by rw [← List.drop_eq_getElem_cons hk,List.drop_drop]
 rw [List.drop_eq_getElem_cons hk] at h ht
 rw [lex_tok _ _ _ hb hp t ht] at h
 rw [hd,List.append_assoc]
 exact h
/-- A token found at a place lies in the text and is not empty. -/
theorem lexAt_len {l:List UInt8} {k:Nat} {t:Tok} (hk:k < l.length) (ht:tokAt (l.drop k)=some t):0 < t.text.length∧k+t.text.length≤l.length:=by
 have h:=tokAt_spec ht
 have h1:=congrArg List.length h.1
 have h2:=h.2.1
 refine ⟨h2,?_⟩
 have:=List.length_drop (i:=k) (l:=l)
 omega
end Lx
end Go.Proofs.YtiljemkglhloeaaGreatDoor
namespace Go.Proofs.YtiljemkglhloeaaGreatDoor
set_option linter.unusedSimpArgs false
set_option linter.unusedVariables false
namespace Lx
open Go Go.RowKit
def placesV (l:List (Nat × Tok)):List Value:=l.map (fun x=>.int .i64 x.1)
def AllEnd (s:ByteArray) (w:World) (e:Ending) (w':World):Prop :=
 Below w.heap.size w w'∧∃ pv ov,e=.returned (.tuple #[pv,ov,.bool (whole s.data.toList)])∧w'.ownsRow w.heap.size 3 1 pv (lex false 0 s.data.toList).1.length (placesV (lex false 0 s.data.toList).1) ∧
  w'.ownsRow w.heap.size 162 3 ov (lex false 0 s.data.toList).1.length (cellsT (toks s.data.toList))
/-- What the loop holds. -/
def AllAt (s:ByteArray) (w wr:World) (pv ov:Value) (cm:Bool) (k:Nat) (done:List (Nat × Tok)):Prop :=
 LexAt s.data.toList done cm k∧done.length≤k∧Below w.heap.size w wr∧wr.ownsRow w.heap.size 3 1 pv done.length (placesV done)∧wr.ownsRow w.heap.size 162 3 ov done.length (cellsT (done.map (·.2)))
theorem allEnd_of {s:ByteArray} {w wr:World} {pv ov:Value} {cm:Bool} {k:Nat} {done:List (Nat × Tok)} {b:Bool} (h:AllAt s w wr pv ov cm k done) (hl:lex false 0 s.data.toList=(done,b)):AllEnd s w (.returned (.tuple #[pv,ov,.bool b])) wr:=by
 obtain ⟨_,_,hb,h1,h2⟩:=h
 unfold AllEnd toks whole
 rw [hl]
 exact ⟨hb,pv,ov,rfl,h1,h2⟩
theorem AllAt.below {s:ByteArray} {w wr W:World} {pv ov:Value} {cm:Bool} {k:Nat} {done:List (Nat × Tok)} (h:AllAt s w wr pv ov cm k done) (hb:Below wr.heap.size wr W):AllAt s w W pv ov cm k done:=by
 refine ⟨h.1,h.2.1,h.2.2.1.trans (hb.mono h.2.2.1.size),h.2.2.2.1.kept (row:=none) ⟨hb.os,hb.tape,hb.output,hb.size,fun k hk _=>hb.block k hk⟩ ?_,h.2.2.2.2.kept (row:=none) ⟨hb.os,hb.tape,hb.output,hb.size,fun k hk _=>hb.block k hk⟩ ?_⟩
 ·cases pv.ownBlock <;> simp
 ·cases ov.ownBlock <;> simp
theorem rows_alloc {w:World} {base:Nat} {e:TypeId} {size n:Nat} {v:Value} {xs:List Value} (h:w.ownsRow base e size v n xs) (o:Obj):(w.alloc o).ownsRow base e size v n xs:=h.alloc o
theorem infoInt:(Tryz.prog.info? 3).map (fun i=>(i.zero,i.size,i.bytes))=some (some (.int .i64 0),1,8):=by kernel_rfl
/-- 'append(places, at)' at a step of a region that draws its order. -/
theorem step_int {ops:Array Oper} {o:Oper} {a:Act} {W:World} {K:Act→World→Prop} {Q:Exit→Act→World→Prop} {E:Prop} (hgd:o.guard=none) (s x:Operand)
  (ho:o.op=.call { callee:=.builtin .append,args:=#[s,x],argTypes:=#[175,175] })
  (base:Nat) (v:Value) (n:Nat) (xs:List Value) (hs:a.eval s=v) (hown:W.ownsRow base 3 1 v n xs) (B:Nat) (k:Int) (hx:a.eval x=.slice (some ⟨B,0,none⟩) 1 1) (hB:W.heap[B]?=some (.cells #[.int .i64 k] 3 (0,0))) (hn:n≤2000000) (hbase:base≤W.heap.size)
  (h:∀ g c w',w'.ownsRow base 3 1 (.slice (some ⟨g,0,none⟩) (n+1) c) (n+1) (xs++[.int .i64 k])→W.grownBy w' v.ownBlock→K (a.put o.dst (.slice (some ⟨g,0,none⟩) (n+1) c)) w') :
  if Region.wanted o (yielded ops a.tmps)=true then Oper.wp Tryz.prog o a W K Q else E:=by
 obtain ⟨i0,hi,hz0,hz1,hz2⟩:=info_parts infoInt
 exact step_append_lies W hgd s x _ ho base _ i0 _ 1 8 Tryz.underlying175 hi hz0 hz1 hz2 rfl (by decide) v n xs hs hown ⟨B,0,none⟩ 1 1 [.int .i64 k] hx rfl (World.news_of_block (cs:=#[.int .i64 k]) hB) (by simp [Value.oneCell'])
  (by omega) (by unfold maxLen;omega) (by omega) hbase _ rfl (fun g cap w' h2 h3 _ _=>h g cap w' h2 h3)
/-- 'append(out, t)' likewise. -/
theorem step_tok {ops:Array Oper} {o:Oper} {a:Act} {W:World} {K:Act→World→Prop} {Q:Exit→Act→World→Prop} {E:Prop} (hgd:o.guard=none) (s x:Operand)
  (ho:o.op=.call { callee:=.builtin .append,args:=#[s,x],argTypes:=#[109,109] })
  (base:Nat) (v:Value) (n:Nat) (xs:List Value) (hs:a.eval s=v) (hown:W.ownsRow base 162 3 v n xs) (B:Nat) (k m:Int) (y:ByteArray) (hx:a.eval x=.slice (some ⟨B,0,none⟩) 1 1) (hB:W.heap[B]?=some (.cells #[.int .i64 k,.string y,.int .i64 m] 162 (0,0))) (hn:n≤2000000) (hbase:base≤W.heap.size)
  (h:∀ g c w',w'.ownsRow base 162 3 (.slice (some ⟨g,0,none⟩) (n+1) c) (n+1) (xs++[.int .i64 k,.string y,.int .i64 m])→W.grownBy w' v.ownBlock→K (a.put o.dst (.slice (some ⟨g,0,none⟩) (n+1) c)) w') :
  if Region.wanted o (yielded ops a.tmps)=true then Oper.wp Tryz.prog o a W K Q else E:=by
 obtain ⟨i0,hi,hz0,hz1,hz2⟩:=info_parts infoTok
 exact step_append_lies W hgd s x _ ho base _ i0 _ 3 32 Tryz.underlying109 hi hz0 hz1 hz2 rfl (by decide) v n xs hs hown ⟨B,0,none⟩ 1 1 [.int .i64 k,.string y,.int .i64 m] hx rfl (World.news_of_block (cs:=#[.int .i64 k,.string y,.int .i64 m]) hB) (by simp [Value.oneCell'])
  (by omega) (by unfold maxLen;omega) (by omega) hbase _ rfl (fun g cap w' h2 h3 _ _=>h g cap w' h2 h3)
theorem heap_past {w:World} {b:Nat} {c:Obj} (h:w.heap[b]?=some c) (o:Obj):(w.alloc o).heap[b]?=some c :=
 (heap_alloc_old w o (Array.getElem?_eq_some_iff.1 h).1).trans h
theorem heap_new {w:World} {b:Nat} {c:Obj} (h:b=w.heap.size):(w.alloc c).heap[b]?=some c:=by
 subst h
 exact heap_alloc_new w c
theorem heap_newD {w:World} {b:Nat} {c:Obj} (h:b=w.heap.size):(w.alloc c).drew.heap[b]?=some c:=heap_new h
theorem heap_pastD {w:World} {b:Nat} {c:Obj} (h:w.heap[b]?=some c) (o:Obj):(w.alloc o).drew.heap[b]?=some c:=heap_past h o
theorem heap_grown {w w':World} {row:Option Nat} {b:Nat} {c:Obj} (h:w.heap[b]?=some c) (hg:w.grownBy w' row) (hne:some b ≠ row):w'.heap[b]?=some c :=
 (hg.block b (Array.getElem?_eq_some_iff.1 h).1 hne).trans h
theorem rows_ne {w:World} {base base' e e' s s' n n':Nat} {v v':Value} {xs xs':List Value} (h:w.ownsRow base e s v n xs) (h':w.ownsRow base' e' s' v' n' xs') (hne:e ≠ e'):v.ownBlock=none ∨ v.ownBlock ≠ v'.ownBlock:=by
 rcases h.2 with ⟨rfl,_⟩ | ⟨g,cap,cur,rfl,_,hg,_⟩
 ·exact .inl rfl
 ·right
  exact fun he=>owner_ne hne.symm h' hg he.symm
/-- Both rows grown by one token: the loop goes on. -/
theorem allAt_next {s:ByteArray} {w wx:World} {pv' ov':Value} {k k':Nat} {done:List (Nat × Tok)} {t:Tok} (hn:LexAt s.data.toList (done++[(k,t)]) false k') (hk:done.length+1≤k') (hb:Below w.heap.size w wx)
  (hp:wx.ownsRow w.heap.size 3 1 pv' (done.length+1) (placesV done++[.int .i64 k])) (ho:wx.ownsRow w.heap.size 162 3 ov' (done.length+1) (cellsT (done.map (·.2))++[.int .i64 t.kind,.string (bs t.text),.int .i64 t.num])) :
  AllAt s w wx pv' ov' false k' (done++[(k,t)]):=by
 refine ⟨hn,by rw [List.length_append];exact hk,hb,?_,?_⟩
 ·rw [List.length_append,show placesV (done++[(k,t)])=placesV done++[.int .i64 k] by simp [placesV]]
  exact hp
 ·rw [List.length_append,List.map_append,List.map_cons,List.map_nil,cellsT_snoc]
  exact ho
attribute [local go_sem ↓] Go.wp_at_zero Go.wp_at_succ
set_option maxRecDepth 100000 in
set_option maxHeartbeats 4000000 in
theorem refAll_any (s:ByteArray) (hs:s.size≤2000000) (w:World) :
  Calls Tryz.prog 134 #[.string s] w fun e w'=>AllEnd s w e w':=by
 have HW:=Lib.hid (fun p hp w=>refWord_any s (by omega) p hp w)
 have hsl:=Lib.hid (bytes_len s)
 go_enter Tryz.func134,Tryz.ntmps134
 go_wp2
 go_loopw [5,6,7,8] (fun pv ov cv av wr=>∃ (cm:Bool) (k:Nat) (done:List (Nat × Tok)),k≤s.size∧cv=.bool cm∧av=.int .i64 k∧Hid (AllAt s w wr pv ov cm k done)) (fun _ _ _ av _=>s.size - (intOf av).toNat)
 case atStart =>
  refine ⟨false,0,[],by omega,rfl,rfl,Lib.hid ⟨lexAt_start _,Nat.le_refl _,((Below.refl _ _).alloc (Nat.le_refl _) _).alloc (by simp) _,?_,?_⟩⟩
  ·have h:=World.ownsRow_made (e:=3) (size:=1) w #[] 0 (Nat.le_refl _) (by unfold maxLen;omega) rfl
   exact rows_alloc h _
  ·have h:=World.ownsRow_made (base:=w.heap.size) (e:=162) (size:=3) (w.alloc (.cells #[] 3)) #[] 0 (by simp) (by unfold maxLen;omega) rfl
   rw [show (w.alloc (.cells #[] 3)).heap.size=w.heap.size+1 by simp] at h
   exact h
 case round =>
  obtain ⟨cm,k,done,hk,rfl,rfl,hr⟩:=hrel
  by_cases hlt:k < s.size
  ·have hk0:(0:Int)≤(k:Int):=by omega
   have hk1:(k:Int) < (s.size:Int):=by omega
   have hll:k < s.data.toList.length:=by rw [hsl.out];exact hlt
   cases cm with
   | true =>
    have HN:=Lib.hid (lexAt_cmt hr.out.1 hll)
    go_wp2
    go_roundw
    case rel=>exact ⟨_,k+1,done,by omega,rfl,by go_num,Lib.hid ⟨HN.out,by have:=hr.out.2.1;omega,hr.out.2.2⟩⟩
    case measure=>simp [intOf];omega
   | false =>
    have hbq:blkI ((s[k]).toNat:Int)=(((s[k]).toNat:Int) == 9 || ((s[k]).toNat:Int) == 10 || ((s[k]).toNat:Int) == 13 || ((s[k]).toNat:Int) == 32):=rfl
    cases hb:blkI ((s[k]).toNat:Int) with
    | true =>
     have HN:=Lib.hid (lexAt_blk hr.out.1 hll hb)
     rw [hb] at hbq
     have h4:(((s[k]).toNat:Int) == 9)=true ∨ ((((s[k]).toNat:Int) == 9)=false∧(((s[k]).toNat:Int) == 10)=true) ∨ ((((s[k]).toNat:Int) == 9)=false∧(((s[k]).toNat:Int) == 10)=false∧(((s[k]).toNat:Int) == 13)=true) ∨ ((((s[k]).toNat:Int) == 9)=false∧(((s[k]).toNat:Int) == 10)=false∧(((s[k]).toNat:Int) == 13)=false∧(((s[k]).toNat:Int) == 32)=true):=by
      revert hbq
      cases ((s[k]).toNat:Int) == 9 <;> cases ((s[k]).toNat:Int) == 10 <;> cases ((s[k]).toNat:Int) == 13 <;> cases ((s[k]).toNat:Int) == 32 <;> simp
     clear hbq hb
     rcases h4 with e1 | ⟨e1,e2⟩ | ⟨e1,e2,e3⟩ | ⟨e1,e2,e3,e4⟩
     all_goals
      go_wp2
      go_roundw
      case rel=>exact ⟨_,k+1,done,by omega,rfl,by go_num,Lib.hid ⟨HN.out,by have:=hr.out.2.1;omega,hr.out.2.2⟩⟩
      case measure=>simp [intOf];omega
    | false =>
     rw [hb] at hbq
     obtain ⟨e1,e2,e3,e4⟩:(((s[k]).toNat:Int) == 9)=false∧(((s[k]).toNat:Int) == 10)=false∧(((s[k]).toNat:Int) == 13)=false∧(((s[k]).toNat:Int) == 32)=false:=by
      revert hbq
      cases ((s[k]).toNat:Int) == 9 <;> cases ((s[k]).toNat:Int) == 10 <;> cases ((s[k]).toNat:Int) == 13 <;> cases ((s[k]).toNat:Int) == 32 <;> simp
     cases hp:((s[k]).toNat:Int) == 37 with
     | true =>
      have HN:=Lib.hid (lexAt_pct hr.out.1 hll hb hp)
      clear hbq hb
      go_wp2
      go_roundw
      case rel=>exact ⟨_,k+1,done,by omega,rfl,by go_num,Lib.hid ⟨HN.out,by have:=hr.out.2.1;omega,hr.out.2.2⟩⟩
      case measure=>simp [intOf];omega
     | false =>
      have HC:=Lib.hid (HW.out k hlt)
      have HB:=Lib.hid (fun ht=>lexAt_bad hr.out.1 hll hb hp ht)
      have HT:=Lib.hid (fun t ht=>lexAt_tok hr.out.1 hll hb hp (t:=t) ht)
      clear hbq hb
      cases ht:tokAt (s.data.toList.drop k) with
      | none =>
       have hend:=Lib.hid (fun W hb=>allEnd_of (hr.out.below (W:=W) hb) (HB.out ht))
       rw [ht] at HC
       go_wp2_with (go_at_call 155;refine (HC.out _).mono ?_;rintro e w' ⟨⟨k1,x1,n1,b1,rfl,rfl,_⟩,hb'⟩)
       exact bodyPost_ret (v:=.tuple #[u5,u6,.bool false]) (by simp [results,Tryz.results134,go_sem]) rfl (hend.out _ (hb'.alloc hb'.size _))
      | some t =>
       rw [ht] at HC
       have HN:=Lib.hid (HT.out t ht)
       have HL:=lexAt_len hll ht
       go_wp2_with (go_at_call 155;refine (HC.out _).mono ?_;rintro e w' ⟨⟨k1,x1,n1,b1,rfl,rfl,hk3⟩,hb'⟩;obtain ⟨rfl,rfl,rfl⟩:=hk3 t rfl)
       have HA:=Lib.hid (hr.out.below (hb'.alloc hb'.size (.cells #[.int .i64 t.kind,.string (bs t.text),.int .i64 t.num] 162)))
       have hk7:=hr.out.2.1
       have hA1:=hr.out.below hb'
       have HP:=Lib.hid hA1.2.2.2.1
       have HO:=Lib.hid hA1.2.2.2.2
       have HB0:=Lib.hid hA1.2.2.1
       have hbs:=hA1.2.2.1.size
       have hpn:u5.ownBlock ≠ some w'.heap.size:=fun e=>by have:=(HP.out.lt _ e).2;omega
       have hon:u6.ownBlock ≠ some w'.heap.size:=fun e=>by have:=(HO.out.lt _ e).2;omega
       have HPN:=Lib.hid hpn
       have HON:=Lib.hid hon
       have hbz:(bs t.text).size=t.text.length:=bs_size t.text
       have HNX:Hid (LexAt s.data.toList (done++[(k,t)]) false (k+(bs t.text).size)):=by rw [hbz];exact HN.out
       have hx1:0 < (bs t.text).size:=by rw [hbz];exact HL.1
       have hx2:k+(bs t.text).size≤s.size:=by rw [hbz,← hsl.out];exact HL.2
       clear HN HL HT HB HC ht hA1 hpn hon HA hbz hr
       have HNE:=Lib.hid (rows_ne HO.out HP.out (by decide))
       have HPL:Hid (∀ b,w'.heap.size≤b→some b ≠ u5.ownBlock):=fun b hb e=>by have:=(HP.out.lt _ e.symm).2;omega
       go_region_held3 (fun W=>W.cell? ⟨w'.heap.size,0,none⟩=some (.int .i64 t.kind)∧W.cell? ⟨w'.heap.size,1,none⟩=some (.string (bs t.text))∧W.cell? ⟨w'.heap.size,2,none⟩=some (.int .i64 t.num))
        (refine ⟨?_,?_,?_⟩ <;> first
         | go_keep
         | (go_split_ands;rw [hgrow2.cell_far _ (by have:=hgrow1.size;simp at this ⊢;omega) (Ne.symm HON.out)];assumption)
         | (go_split_ands;rw [hgrow1.cell_far _ (by simp;omega) (Ne.symm HPN.out)];assumption))
        (first
         | ((refine step_int rfl (.tmp 31) (.tmp 33) rfl w.heap.size u5 done.length (placesV done) ?_ ?_ (w'.heap.size+1) k ?_ ?_ ?_ ?_ ?_);(rfl);(first | exact ((HP.out.alloc _).alloc _).drew | exact (((HP.out.alloc _).alloc _).alloc _).drew);(rfl);(first | exact heap_newD (by simp) | exact heap_pastD (heap_new (by simp)) _);(omega);(simp;omega);(intro g1 c1 wa hown1 hgrow1))
         | ((refine step_int rfl (.tmp 31) (.tmp 33) rfl w.heap.size u5 done.length (placesV done) ?_ ?_ (w'.heap.size+1+1) k ?_ ?_ ?_ ?_ ?_);(rfl);(first | exact ((HP.out.alloc _).alloc _).drew | exact (((HP.out.alloc _).alloc _).alloc _).drew);(rfl);(exact heap_newD (by simp));(omega);(simp;omega);(intro g1 c1 wa hown1 hgrow1))
         | ((refine step_tok rfl (.tmp 35) (.tmp 37) rfl w.heap.size u6 done.length (cellsT (done.map (·.2))) ?_ ?_ (wa.heap.size) t.kind t.num (bs t.text) ?_ ?_ ?_ ?_ ?_);(rfl);(exact ((((HO.out.alloc _).alloc _).drew.kept hgrow1 HNE.out).alloc _));(rfl);(exact heap_new rfl);(omega);(have:=hgrow1.size;simp at this ⊢;omega);(intro g2 c2 wb hown2 hgrow2))
         | ((refine step_tok rfl (.tmp 35) (.tmp 37) rfl w.heap.size u6 done.length (cellsT (done.map (·.2))) ?_ ?_ (w'.heap.size+1+1) t.kind t.num (bs t.text) ?_ ?_ ?_ ?_ ?_);(rfl);(exact ((((HO.out.alloc _).alloc _).alloc _).drew.kept hgrow1 HNE.out));(rfl);(exact heap_grown (heap_newD (by simp)) hgrow1 (HPL.out _ (by omega)));(omega);(have:=hgrow1.size;simp at this ⊢;omega);(intro g2 c2 wb hown2 hgrow2))
         | ((refine step_tok rfl (.tmp 35) (.tmp 37) rfl w.heap.size u6 done.length (cellsT (done.map (·.2))) ?_ ?_ (w'.heap.size+1) t.kind t.num (bs t.text) ?_ ?_ ?_ ?_ ?_);(rfl);(exact ((((HO.out.alloc _).alloc _).alloc _).drew.kept hgrow1 HNE.out));(rfl);(exact heap_grown (heap_pastD (heap_new (by simp)) _) hgrow1 (HPL.out _ (by omega)));(omega);(have:=hgrow1.size;simp at this ⊢;omega);(intro g2 c2 wb hown2 hgrow2)))
       all_goals
        have ho1:wa.ownsRow w.heap.size 162 3 u6 done.length (cellsT (done.map (·.2))):=by
         first
          | exact ((HO.out.alloc _).alloc _).drew.kept hgrow1 HNE.out
          | exact (((HO.out.alloc _).alloc _).alloc _).drew.kept hgrow1 HNE.out
        have hn1:=rows_ne hown1 ho1 (by decide)
        have hz1:=hgrow1.size
        have hp2:wb.ownsRow w.heap.size 3 1 (.slice (some ⟨g1,0,none⟩) (done.length+1) c1) (done.length+1) (placesV done++[.int .i64 k]):=by
         first
          | exact (hown1.alloc _).kept hgrow2 hn1
          | exact hown1.kept hgrow2 hn1
        have hb2:Below w.heap.size w wb:=by
         first
          | exact ((((((HB0.out.alloc hbs _).alloc (by simp;omega) _).drew).grown hgrow1 (by simp;omega) (fun b e=>(HP.out.lt b e).1)).alloc (by simp at hz1 ⊢;omega) _).grown hgrow2 (by simp at hz1 ⊢;omega) (fun b e=>(HO.out.lt b e).1))
          | exact ((((((HB0.out.alloc hbs _).alloc (by simp;omega) _).alloc (by simp;omega) _).drew).grown hgrow1 (by simp;omega) (fun b e=>(HP.out.lt b e).1)).grown hgrow2 (by simp at hz1 ⊢;omega) (fun b e=>(HO.out.lt b e).1))
        have HN2:=Lib.hid (allAt_next HNX.out (by omega) hb2 hp2 hown2)
        clear ho1 hn1 hz1 hp2 hb2 hown1 hown2 hgrow1 hgrow2 HB0 HP HO HNE HPL HPN HON HNX hbs
        go_wp2
        go_roundw
        case rel=>exact ⟨false,k+(bs t.text).size,done++[(k,t)],by omega,rfl,by go_num,HN2⟩
        case measure=>simp [intOf];omega
  ·have hend:=Lib.hid (allEnd_of hr.out (lexAt_end hr.out.1 (by rw [hsl.out];omega)))
   have hq:decide ((k:Int) < (s.size:Int))=false:=by simp;omega
   go_wp2
   exact bodyPost_ret (v:=.tuple #[u5,u6,.bool true]) (by simp [results,Tryz.results134,go_sem]) rfl hend.out
end Lx
end Go.Proofs.YtiljemkglhloeaaGreatDoor
namespace Go.Proofs.YtiljemkglhloeaaGreatDoor
set_option linter.unusedSimpArgs false
set_option linter.unusedVariables false
namespace Lx
open Go Go.RowKit
/-- What the reference's Lex returns. -/
def RefLexEnd (s:ByteArray) (w:World) (e:Ending) (w':World):Prop :=
 Below w.heap.size w w'∧(
  (16384 < s.size∧e=.returned (.tuple #[.slice none 0 0,.int .i64 4])) ∨
  (s.size≤16384∧whole s.data.toList=false∧e=.returned (.tuple #[.slice none 0 0,.int .i64 1])) ∨
  (s.size≤16384∧whole s.data.toList=true∧∃ v,e=.returned (.tuple #[v,.int .i64 0])∧w'.ownsRow w.heap.size 162 3 v (toks s.data.toList).length (cellsT (toks s.data.toList))))
theorem toks_length (l:List UInt8):(lex false 0 l).1.length=(toks l).length:=by unfold toks;rw [List.length_map]
theorem refLex_any (s:ByteArray) (w:World):Calls Tryz.prog 116 #[.string s] w fun e w'=>RefLexEnd s w e w':=by
 rcases Nat.lt_or_ge 16384 s.size with hs | hs
 ·have hq:decide ((16384:Int) < (s.size:Int))=true:=by simp;omega
  go_enter Tryz.func116,Tryz.ntmps116
  go_wp2
  go_ret2
  exact ⟨Below.refl _ _,.inl ⟨hs,rfl⟩⟩
 ·have hq:decide ((16384:Int) < (s.size:Int))=false:=by simp;omega
  have HA:=Lib.hid (fun w=>refAll_any s (by omega) w)
  cases hw:whole s.data.toList with
  | false =>
   have HW:=Lib.hid hw
   have hA:=fun w=>(HA.out w).mono (R':=fun e w'=>∃ pv ov,e=.returned (.tuple #[pv,ov,.bool false])∧Below w.heap.size w w') (by
    rintro e w' ⟨hb,pv,ov,he,_⟩
    exact ⟨pv,ov,by rw [he,HW.out],hb⟩)
   have HA2:=Lib.hid hA
   clear HA hA hw
   go_enter Tryz.func116,Tryz.ntmps116
   go_wp2_with (go_at_call 134;refine (HA2.out _).mono ?_;rintro e w' ⟨pv,ov,rfl,hb⟩)
   go_ret2
   exact ⟨hb,.inr (.inl ⟨hs,HW.out,rfl⟩)⟩
  | true =>
   have HW:=Lib.hid hw
   have hA:=fun w=>(HA.out w).mono (R':=fun e w'=>∃ pv ov,e=.returned (.tuple #[pv,ov,.bool true])∧Below w.heap.size w w'∧w'.ownsRow w.heap.size 162 3 ov (toks s.data.toList).length (cellsT (toks s.data.toList))) (by
    rintro e w' ⟨hb,pv,ov,he,_,ho⟩
    rw [toks_length] at ho
    exact ⟨pv,ov,by rw [he,HW.out],hb,ho⟩)
   have HA2:=Lib.hid hA
   clear HA hA hw
   go_enter Tryz.func116,Tryz.ntmps116
   go_wp2_with (go_at_call 134;refine (HA2.out _).mono ?_;rintro e w' ⟨pv,ov,rfl,hb,ho⟩)
   obtain ⟨A,c,rfl⟩:=owns_shape ho
   go_ret2
   exact ⟨hb,.inr (.inr ⟨hs,HW.out,_,rfl,ho⟩)⟩
end Lx
end Go.Proofs.YtiljemkglhloeaaGreatDoor
