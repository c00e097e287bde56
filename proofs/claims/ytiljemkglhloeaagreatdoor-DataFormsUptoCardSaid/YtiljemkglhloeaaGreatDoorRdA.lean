/- The contracts of the reference's reader's small methods: end, is, got, fail, need, nest, word. Conditions: the reader's block is its own; at most 16384 tokens, each of which is one by itself. -/
/- The contract of the reference's reader's word: a name that is no word of the language, or a variable. Conditions: the reader's block is its own; at most 16384 tokens. -/
/- The contract of the reference's reader's more: does a further thing of a row stand here? Conditions: the reader's block is its own; at most 16384 tokens, each of which is one by itself; no error stands yet. -/
/- A row as the reference's reader reads it, in the parser's plain words; the row as the reader's loop holds it. Conditions: the reader's block is its own. -/
import Derived.Test.YtiljemkglhloeaaGreatDoorParSpec
import Derived.Test.YtiljemkglhloeaaGreatDoorResvRef
import Derived.Test.YtiljemkglhloeaaGreatDoorPlainA
import Derived.Lib.QuietBelow
import Derived.Test.YtiljemkglhloeaaGreatDoorParTerm
namespace Go.Proofs.YtiljemkglhloeaaGreatDoor
set_option linter.unusedSimpArgs false
set_option linter.unusedVariables false
namespace Lx
open Go Go.RowKit
/-- The reader in block b: its row of tokens, the next one's place, the first error's number. -/
def rdC (A:Option Addr) (n c:Nat) (k:Nat) (ne:Int):Obj:=.cells #[.slice A n c,.int .i64 k,.int .i64 ne] 147 (0,0)
structure Rd (w:World) (b:Nat) (A:Option Addr) (c:Nat) (ts:List Tok) (k:Nat) (ne:Int):Prop where
 blk:w.heap[b]?=some (rdC A ts.length c k ne)
 row:ts ≠ []→∃ g,A=some ⟨g,0,none⟩∧g ≠ b∧g < w.heap.size∧∀ j,j < 3 * ts.length→w.cell? ⟨g,j,none⟩=(cellsT ts)[j]?
 few:ts.length≤16384
 near:k≤20000
 nest0:-100000≤ne
 nest1:ne≤100000
section
variable {w w':World} {b:Nat} {A:Option Addr} {c:Nat} {ts:List Tok} {k:Nat} {ne:Int}
theorem Rd.c0 (h:Rd w b A c ts k ne):w.cell? ⟨b,0,none⟩=some (.slice A ts.length c):=(Lib.cell_of_heap h.blk 0).trans rfl
theorem Rd.c1 (h:Rd w b A c ts k ne):w.cell? ⟨b,1,none⟩=some (.int .i64 k):=(Lib.cell_of_heap h.blk 1).trans rfl
theorem Rd.c2 (h:Rd w b A c ts k ne):w.cell? ⟨b,2,none⟩=some (.int .i64 ne):=(Lib.cell_of_heap h.blk 2).trans rfl
theorem Rd.f1 (h:Rd w b A c ts k ne):w.frozen? ⟨b,1,none⟩=false:=Lib.frozen_of_heap h.blk 1
theorem Rd.f2 (h:Rd w b A c ts k ne):w.frozen? ⟨b,2,none⟩=false:=Lib.frozen_of_heap h.blk 2
theorem Rd.lt (h:Rd w b A c ts k ne):b < w.heap.size:=(Array.getElem?_eq_some_iff.1 h.blk).1
theorem Rd.drewN (h:Rd w b A c ts k ne) (n:Nat):Rd (w.drewN n) b A c ts k ne:=⟨h.blk,h.row,h.few,h.near,h.nest0,h.nest1⟩
/-- A world in which the parser's block holds other numbers. -/
theorem Rd.move (h:Rd w b A c ts k ne) (hf:PFr b w w') {k':Nat} {ne':Int} (hb:w'.heap[b]?=some (rdC A ts.length c k' ne')) (hk:k'≤20000) (h0:-100000≤ne') (h1:ne'≤100000):Rd w' b A c ts k' ne' :=
 ⟨hb,fun hne=>by
  obtain ⟨g,e,hg,hl,hc⟩:=h.row hne
  exact ⟨g,e,hg,Nat.lt_of_lt_of_le hl hf.size,fun j hj=>(hf.cell (p:=⟨g,j,none⟩) hl hg).trans (hc j hj)⟩,h.few,hk,h0,h1⟩
theorem Rd.setAt (h:Rd w b A c ts k ne) (k':Nat) (hk:k'≤20000):Rd (w.setCell ⟨b,1,none⟩ (.int .i64 k')) b A c ts k' ne :=
 h.move ((PFr.refl b w).put 1 _) (blk_put w b 1 _ h.blk (by show 1 < 3;decide)) hk h.nest0 h.nest1
theorem Rd.setErr (h:Rd w b A c ts k ne) (ne':Int) (h0:-100000≤ne') (h1:ne'≤100000):Rd (w.setCell ⟨b,2,none⟩ (.int .i64 ne')) b A c ts k ne' :=
 h.move ((PFr.refl b w).put 2 _) (blk_put w b 2 _ h.blk (by show 2 < 3;decide)) h.near h0 h1
theorem Rd.at_tok (h:Rd w b A c ts k ne) (hk:k < ts.length):∃ g,A=some ⟨g,0,none⟩∧g ≠ b∧w.cell? ⟨g,k * 3,none⟩=some (.int .i64 (ts[k]).kind)∧w.cell? ⟨g,k * 3+1,none⟩=some (.string (bs (ts[k]).text))∧w.cell? ⟨g,k * 3+2,none⟩=some (.int .i64 (ts[k]).num):=by
 obtain ⟨g,e,hg,_,hc⟩:=h.row (by intro e;subst e;simp at hk)
 have h1:=cellsP_at ts k hk
 rw [Nat.mul_comm 3 k] at h1
 exact ⟨g,e,hg,(hc _ (by omega)).trans h1.1,(hc (k * 3+1) (by omega)).trans h1.2.1,(hc (k * 3+2) (by omega)).trans h1.2.2⟩
end
theorem Rd.alloc {w:World} {b:Nat} {A:Option Addr} {c:Nat} {ts:List Tok} {k:Nat} {ne:Int} (h:Rd w b A c ts k ne) (o:Obj):Rd (w.alloc o) b A c ts k ne :=
 h.move ((PFr.refl b w).alloc o) ((Below.heap_alloc w o b h.lt).trans h.blk) h.near h.nest0 h.nest1
theorem Rd.keep {w w':World} {b:Nat} {A:Option Addr} {c:Nat} {ts:List Tok} {k:Nat} {ne:Int} (h:Rd w b A c ts k ne) (hf:PFr w.heap.size w w'):Rd w' b A c ts k ne∧PFr b w w':=by
 have hb:=(hf.block b h.lt (Nat.ne_of_lt h.lt)).trans h.blk
 have hf2:PFr b w w':=⟨hf.os,hf.tape,hf.output,hf.size,fun k hk _=>hf.block k hk (Nat.ne_of_lt hk)⟩
 exact ⟨h.move hf2 hb h.near h.nest0 h.nest1,hf2⟩
def doneB (ts:List Tok) (k:Nat) (er:Int):Bool:=er != 0 || decide (ts.length≤k)
theorem doneB_err {ts:List Tok} {k:Nat} {er:Int} (h:er ≠ 0):doneB ts k er=true:=by simp [doneB,h]
theorem doneB_in {ts:List Tok} {k:Nat} (h:k < ts.length):doneB ts k 0=false:=by simp [doneB];omega
theorem doneB_out {ts:List Tok} {k:Nat} (h:ts.length≤k):doneB ts k 0=true:=by simp [doneB,h]
theorem rend_any (w:World) (b:Nat) (A:Option Addr) (c:Nat) (ts:List Tok) (k:Nat) (er:Int) (h:Rd w b A c ts k er) :
  Calls Tryz.prog 118 #[.pointer (some ⟨b,0,none⟩)] w fun e w'=>e=.returned (.bool (doneB ts k er))∧∃ q,w'=w.drewN q:=by
 have h0:=h.c0
 have h1:=h.c1
 have h2:=h.c2
 by_cases hz:er=0
 ·subst hz
  rcases Nat.lt_or_ge k ts.length with hl | hl
  ·rw [doneB_in hl]
   have hd:decide (ts.length≤k)=false:=by simp;omega
   clear h
   go_enter Tryz.func118,Tryz.ntmps118
   go_wp2
   go_quiet (fail)
   go_wp2
   go_ret
   exact ⟨rfl,_,rfl⟩
  ·rw [doneB_out hl]
   have hd:decide (ts.length≤k)=true:=by simpa using hl
   clear h
   go_enter Tryz.func118,Tryz.ntmps118
   go_wp2
   go_quiet (fail)
   go_wp2
   go_ret
   exact ⟨rfl,_,rfl⟩
 ·rw [doneB_err hz]
  have hn:(er != 0)=true:=by simpa using hz
  clear h
  go_enter Tryz.func118,Tryz.ntmps118
  go_wp2
  go_quiet (fail)
  go_wp2
  go_ret
  exact ⟨rfl,_,rfl⟩
/-- Each token is one by itself. -/
def WF (ts:List Tok):Prop:=∀ t ∈ ts,tokAt t.text=some t
/-- The text of a word or a mark. -/
def KW (s:List UInt8):Prop:=s ≠ []∧∃ n:Int,(n=1 ∨ n=4)∧tokAt s=some ⟨n,s,0⟩
theorem kw_kind {ts:List Tok} (hw:WF ts) {s:List UInt8} (hs:KW s) {k:Nat} (hk:k < ts.length) (ht:(ts[k]).text=s):(ts[k]).kind=1 ∨ (ts[k]).kind=4:=by
 obtain ⟨_,n,hn,h1⟩:=hs
 have h2:=hw _ (List.getElem_mem hk)
 rw [ht,h1] at h2
 have h3:=Option.some.inj h2
 rw [← h3]
 exact hn
def isB (ts:List Tok) (k:Nat) (er:Int) (s:List UInt8):Bool:=er == 0 && hasT ts k s
theorem isB_err {ts:List Tok} {k:Nat} {er:Int} (h:er ≠ 0) (s:List UInt8):isB ts k er s=false:=by simp [isB,h]
theorem isB_ok (ts:List Tok) (k:Nat) (s:List UInt8):isB ts k 0 s=hasT ts k s:=by simp [isB]
theorem hasT_out {ts:List Tok} {k:Nat} (h:ts.length≤k) {s:List UInt8} (hs:s ≠ []):hasT ts k s=false:=by
 unfold hasT
 rw [peekT_out h]
 cases s with
 | nil=>exact absurd rfl hs
 | cons a r=>rfl
theorem ris_any (w:World) (b:Nat) (A:Option Addr) (c:Nat) (ts:List Tok) (hw:WF ts) (k:Nat) (er:Int) (s:ByteArray) (hs:KW s.data.toList) (h:Rd w b A c ts k er) :
  Calls Tryz.prog 156 #[.pointer (some ⟨b,0,none⟩),.string s] w fun e w'=>e=.returned (.bool (isB ts k er s.data.toList))∧∃ q,w'=w.drewN q:=by
 have HE:=Lib.hid (fun q=>rend_any (w.drewN q) b A c ts k er (h.drewN q))
 have h0:=h.c0
 have h1:=h.c1
 by_cases hz:er=0
 ·subst hz
  rw [isB_ok]
  rcases Nat.lt_or_ge k ts.length with hl | hl
  ·rw [doneB_in hl] at HE
   obtain ⟨g,rfl,_,d0,d1,_⟩:=h.at_tok hl
   have hk0:(0:Int)≤(k:Int):=by omega
   have hk1:(k:Int) < (ts.length:Int):=by omega
   have hkk:=kw_kind hw hs hl
   have hx:hasT ts k s.data.toList=((bs (ts[k]).text).toList == s.toList):=by rw [← hasT_eq,peekT_in hl]
   have hxs:((bs (ts[k]).text).toList == s.toList)=true→(ts[k]).text=s.data.toList:=by
    intro e
    rw [← hx] at e
    unfold hasT at e
    rw [peekT_in hl] at e
    exact eq_of_beq e
   rw [hx]
   generalize (ts[k]).kind=x at *
   generalize (ts[k]).text=y at *
   cases hq:((bs y).toList == s.toList) with
   | false =>
    clear h hw hs hx hxs hkk
    go_enter Tryz.func156,Tryz.ntmps156
    go_wp2
    go_quiet ((go_at_call 118;exact Calls.quiet_of (HE.out _)))
    go_wp2
    go_ret
    exact ⟨rfl,_,rfl⟩
   | true =>
    by_cases hx1:x=1
    ·subst hx1
     clear h hw hs hx hxs hkk
     go_enter Tryz.func156,Tryz.ntmps156
     go_wp2
     go_quiet ((go_at_call 118;exact Calls.quiet_of (HE.out _)))
     go_wp2
     go_ret
     exact ⟨rfl,_,rfl⟩
    ·have hx4:x=4:=(hkk (hxs hq)).resolve_left hx1
     subst hx4
     clear h hw hs hx hxs hkk hx1
     go_enter Tryz.func156,Tryz.ntmps156
     go_wp2
     go_quiet ((go_at_call 118;exact Calls.quiet_of (HE.out _)))
     go_wp2
     go_ret
     exact ⟨rfl,_,rfl⟩
  ·rw [doneB_out hl] at HE
   rw [hasT_out hl hs.1]
   clear h hw hs
   go_enter Tryz.func156,Tryz.ntmps156
   go_wp2
   go_quiet ((go_at_call 118;exact Calls.quiet_of (HE.out _)))
   go_wp2
   go_ret
   exact ⟨rfl,_,rfl⟩
 ·rw [doneB_err hz] at HE
  rw [isB_err hz]
  clear h hw hs
  go_enter Tryz.func156,Tryz.ntmps156
  go_wp2
  go_quiet ((go_at_call 118;exact Calls.quiet_of (HE.out _)))
  go_wp2
  go_ret
  exact ⟨rfl,_,rfl⟩
/-- 'got': the next token is taken if it has this text. -/
theorem rgot_any (w:World) (b:Nat) (A:Option Addr) (c:Nat) (ts:List Tok) (hw:WF ts) (k:Nat) (er:Int) (s:ByteArray) (hs:KW s.data.toList) (h:Rd w b A c ts k er) (hk:k < 20000) :
  Calls Tryz.prog 137 #[.pointer (some ⟨b,0,none⟩),.string s] w fun e w'=>e=.returned (.bool (isB ts k er s.data.toList))∧Rd w' b A c ts (if isB ts k er s.data.toList=true then k+1 else k) er∧PFr b w w':=by
 have HI:=Lib.hid (ris_any w b A c ts hw k er s hs h)
 have HP:=Lib.hid h
 clear h hw hs
 generalize isB ts k er s.data.toList=q at *
 cases q with
 | false =>
  simp only [Bool.false_eq_true,if_false]
  go_enter Tryz.func137,Tryz.ntmps137
  go_wp2_with fail
  go_at_call 156
  refine HI.out.mono ?_
  rintro e w1 ⟨rfl,n,rfl⟩
  go_wp2_with fail
  go_ret
  exact ⟨rfl,HP.out.drewN n,(PFr.refl b w).drewN n⟩
 | true =>
  simp only [if_true]
  have c1:=HP.out.c1
  have f1:=HP.out.f1
  go_enter Tryz.func137,Tryz.ntmps137
  go_wp2_with fail
  go_at_call 156
  refine HI.out.mono ?_
  rintro e w1 ⟨rfl,n,rfl⟩
  go_wp2_with fail
  go_ret
  exact ⟨rfl,(HP.out.drewN n).setAt (k+1) (by omega),((PFr.refl b w).drewN n).put 1 _⟩
def failE (er i:Int):Int:=if er=0 then i else er
theorem rfail_any (w:World) (b:Nat) (A:Option Addr) (c:Nat) (ts:List Tok) (k:Nat) (er i:Int) (h:Rd w b A c ts k er) (hi:0≤i) (hi2:i≤100) :
  Calls Tryz.prog 135 #[.pointer (some ⟨b,0,none⟩),.int .i64 i] w fun e w'=>e=.returned (.tuple #[])∧Rd w' b A c ts k (failE er i)∧PFr b w w':=by
 have HP:=Lib.hid h
 have c2:=h.c2
 have f2:=h.f2
 unfold failE
 clear h
 by_cases hz:er=0
 ·subst hz
  simp only [if_true]
  go_enter Tryz.func135,Tryz.ntmps135
  go_wp2_with fail
  go_end0
  exact ⟨rfl,HP.out.setErr i (by omega) (by omega),(PFr.refl b w).put 2 _⟩
 ·rw [if_neg hz]
  have hn:(er == 0)=false:=by simpa using hz
  go_enter Tryz.func135,Tryz.ntmps135
  go_wp2_with fail
  go_end0
  exact ⟨rfl,HP.out,PFr.refl b w⟩
/-- 'need': a token that must have this text. -/
def needE (ts:List Tok) (k:Nat) (er:Int) (s:List UInt8):Int:=if er=0∧hasT ts k s=false then 2 else er
theorem rneed_any (w:World) (b:Nat) (A:Option Addr) (c:Nat) (ts:List Tok) (hw:WF ts) (k:Nat) (er:Int) (s:ByteArray) (hs:KW s.data.toList) (h:Rd w b A c ts k er) (hk:k < 20000) :
  Calls Tryz.prog 138 #[.pointer (some ⟨b,0,none⟩),.string s] w fun e w'=>e=.returned (.tuple #[])∧Rd w' b A c ts (if isB ts k er s.data.toList=true then k+1 else k) (needE ts k er s.data.toList)∧PFr b w w':=by
 have HP:=Lib.hid h
 have HG:=Lib.hid (rgot_any w b A c ts hw k er s hs h hk)
 have c2:=h.c2
 clear h hw hs
 unfold needE
 by_cases hz:er=0
 ·subst hz
  rw [isB_ok] at HG ⊢
  cases hq:hasT ts k s.data.toList with
  | true =>
   rw [hq] at HG
   simp only [Bool.true_eq_false,and_false,if_true,if_false] at HG ⊢
   go_enter Tryz.func138,Tryz.ntmps138
   go_wp2_with fail
   go_at_call 137
   refine HG.out.mono ?_
   rintro e w1 ⟨rfl,hp1,hf1⟩
   go_wp2_with fail
   go_end0
   exact ⟨rfl,hp1,hf1⟩
  | false =>
   rw [hq] at HG
   simp only [and_self,Bool.false_eq_true,if_true,if_false] at HG ⊢
   go_enter Tryz.func138,Tryz.ntmps138
   go_wp2_with fail
   go_at_call 137
   refine HG.out.mono ?_
   rintro e w1 ⟨rfl,hp1,hf1⟩
   go_wp2_with fail
   go_at_call 135
   refine (rfail_any w1 b A c ts k 0 2 hp1 (by decide) (by decide)).mono ?_
   rintro e w2 ⟨rfl,hp2,hf2⟩
   go_wp2_with fail
   go_end0
   exact ⟨rfl,hp2,hf1.trans hf2⟩
 ·rw [isB_err hz]
  simp only [hz,false_and,Bool.false_eq_true,if_false]
  have hn:(er == 0)=false:=by simpa using hz
  go_enter Tryz.func138,Tryz.ntmps138
  go_wp2_with fail
  go_end0
  exact ⟨rfl,HP.out,PFr.refl b w⟩
/-- 'nest': too deep, if something begins here. -/
def nestE (ts:List Tok) (k:Nat) (er n:Int):Int:=if 64 < n∧doneB ts k er=false then 3 else er
theorem rnest_any (w:World) (b:Nat) (A:Option Addr) (c:Nat) (ts:List Tok) (k:Nat) (er n:Int) (h:Rd w b A c ts k er) :
  Calls Tryz.prog 117 #[.pointer (some ⟨b,0,none⟩),.int .i64 n] w fun e w'=>e=.returned (.tuple #[])∧Rd w' b A c ts k (nestE ts k er n)∧PFr b w w':=by
 have HP:=Lib.hid h
 have HE:=Lib.hid (rend_any w b A c ts k er h)
 have HZ:Hid (doneB ts k er=false→er=0):=Lib.hid (fun hd=>by
  by_cases hz:er=0
  ·exact hz
  ·rw [doneB_err hz] at hd;cases hd)
 unfold nestE
 clear h
 by_cases hn:64 < n
 ·have hd:decide ((64:Int) < n)=true:=by simpa using hn
  cases hq:doneB ts k er with
  | true =>
   rw [hq] at HE
   simp only [Bool.true_eq_false,and_false,if_false]
   clear hn hq
   go_enter Tryz.func117,Tryz.ntmps117
   go_wp2_with fail
   go_at_call 118
   refine HE.out.mono ?_
   rintro e w1 ⟨rfl,m,rfl⟩
   go_wp2_with fail
   go_end0
   exact ⟨rfl,HP.out.drewN m,(PFr.refl b w).drewN m⟩
  | false =>
   obtain rfl:=HZ.out hq
   rw [hq] at HE
   simp only [hn,and_self,if_true]
   clear hn hq
   go_enter Tryz.func117,Tryz.ntmps117
   go_wp2_with fail
   go_at_call 118
   refine HE.out.mono ?_
   rintro e w1 ⟨rfl,m,rfl⟩
   go_wp2_with fail
   go_at_call 135
   refine (rfail_any _ b A c ts k 0 3 (HP.out.drewN m) (by decide) (by decide)).mono ?_
   rintro e w2 ⟨rfl,hp2,hf2⟩
   go_wp2_with fail
   go_end0
   exact ⟨rfl,hp2,((PFr.refl b w).drewN m).trans hf2⟩
 ·have hd:decide ((64:Int) < n)=false:=by simpa using hn
  simp only [hn,false_and,if_false]
  clear hn
  go_enter Tryz.func117,Tryz.ntmps117
  go_wp2_with fail
  go_end0
  exact ⟨rfl,HP.out,PFr.refl b w⟩
end Lx
end Go.Proofs.YtiljemkglhloeaaGreatDoor
namespace Go.Proofs.YtiljemkglhloeaaGreatDoor
set_option linter.unusedSimpArgs false
set_option linter.unusedVariables false
namespace Lx
open Go Go.RowKit Go.Sort
theorem pfr_of_below {w w':World} (h:Below w.heap.size w w'):PFr w.heap.size w w':=⟨h.os,h.tape,h.output,h.size,fun k hk _=>h.block k hk⟩
set_option maxHeartbeats 1000000 in
/-- Where an error stands already: nothing is taken. -/
theorem rword_err (w:World) (b:Nat) (A:Option Addr) (c:Nat) (ts:List Tok) (k:Nat) (er n:Int) (h:Rd w b A c ts k er) (hz:er ≠ 0) :
  Calls Tryz.prog 119 #[.pointer (some ⟨b,0,none⟩),.int .i64 n] w fun e w'=>e=.returned (.string ⟨#[]⟩)∧Rd w' b A c ts k er∧PFr b w w':=by
 have HP:=Lib.hid h
 have HE:=Lib.hid (fun q=>rend_any (w.drewN q) b A c ts k er (h.drewN q))
 rw [doneB_err hz] at HE
 have HF:=Lib.hid (fun w h=>rfail_any w b A c ts k er 2 h (by decide) (by decide))
 rw [show failE er 2=er from if_neg hz] at HF
 clear h
 go_enter Tryz.func119,Tryz.ntmps119
 go_wp2
 go_quiet ((go_at_call 118;exact Calls.quiet_of (HE.out _)))
 go_wp2_with fail
 go_at_call 135
 refine (HF.out _ (HP.out.drewN nq)).mono ?_
 rintro e w2 ⟨rfl,hp2,hf2⟩
 go_wp2_with fail
 go_ret
 exact ⟨rfl,hp2,((PFr.refl b w).drewN nq).trans hf2⟩
set_option maxHeartbeats 1000000 in
/-- No token of the kind stands here. -/
theorem rword_not (w:World) (b:Nat) (A:Option Addr) (c:Nat) (ts:List Tok) (k:Nat) (n:Int) (h:Rd w b A c ts k 0) (hk:ts.length≤k ∨ (peekT ts k).kind ≠ n) :
  Calls Tryz.prog 119 #[.pointer (some ⟨b,0,none⟩),.int .i64 n] w fun e w'=>e=.returned (.string ⟨#[]⟩)∧Rd w' b A c ts k 2∧PFr b w w':=by
 have HP:=Lib.hid h
 have HE:=Lib.hid (fun q=>rend_any (w.drewN q) b A c ts k 0 (h.drewN q))
 have HF:=Lib.hid (fun w h=>rfail_any w b A c ts k 0 2 h (by decide) (by decide))
 rw [show failE 0 2=2 from rfl] at HF
 have h0:=h.c0
 have h1:=h.c1
 rcases Nat.lt_or_ge k ts.length with hl | hl
 ·have hkk:(ts[k]).kind ≠ n:=by
   rcases hk with hk | hk
   ·omega
   ·rwa [peekT_in hl] at hk
  rw [doneB_in hl] at HE
  obtain ⟨g,rfl,_,d0,d1,_⟩:=h.at_tok hl
  have hk0:(0:Int)≤(k:Int):=by omega
  have hk1:(k:Int) < (ts.length:Int):=by omega
  have hkq:((ts[k]).kind != n)=true:=by simpa using hkk
  generalize (ts[k]).kind=x at *
  clear h hk hkk
  go_enter Tryz.func119,Tryz.ntmps119
  go_wp2
  go_quiet ((go_at_call 118;exact Calls.quiet_of (HE.out _)))
  go_wp2_with fail
  go_at_call 135
  refine (HF.out _ (HP.out.drewN nq)).mono ?_
  rintro e w2 ⟨rfl,hp2,hf2⟩
  go_wp2_with fail
  go_ret
  exact ⟨rfl,hp2,((PFr.refl b w).drewN nq).trans hf2⟩
 ·rw [doneB_out hl] at HE
  clear h hk hl
  go_enter Tryz.func119,Tryz.ntmps119
  go_wp2
  go_quiet ((go_at_call 118;exact Calls.quiet_of (HE.out _)))
  go_wp2_with fail
  go_at_call 135
  refine (HF.out _ (HP.out.drewN nq)).mono ?_
  rintro e w2 ⟨rfl,hp2,hf2⟩
  go_wp2_with fail
  go_ret
  exact ⟨rfl,hp2,((PFr.refl b w).drewN nq).trans hf2⟩
theorem rd_class {w:World} {b:Nat} {A:Option Addr} {c:Nat} {ts:List Tok} {k:Nat} {er:Int} (h:Rd w b A c ts k er) (d:Nat) (os:Array Obj):Rd (grow (redrawn w d) os) b A c ts k er∧PFr b w (grow (redrawn w d) os) :=
 h.keep (pfr_of_below (below_regrown w d os))
theorem rend_class {w:World} {b:Nat} {A:Option Addr} {c:Nat} {ts:List Tok} {k:Nat} (h:Rd w b A c ts k 0) (hl:k < ts.length) (d:Nat) (os:Array Obj) :
  Calls Tryz.prog 118 #[.pointer (some ⟨b,0,none⟩)] (grow (redrawn w d) os) fun e w''=>e=.returned (.bool false)∧∃ p:Regrown,w''=grow (redrawn w p.d) p.os:=by
 have h1:=rend_any _ b A c ts k 0 (rd_class h d os).1
 rw [doneB_in hl] at h1
 refine Calls.regrown_of (h1.mono ?_)
 rintro e w' ⟨he,q,rfl⟩
 exact ⟨he,rfl,rfl,rfl,Nat.le_refl _,fun _ _=>rfl⟩
theorem rres_class {w:World} (s:ByteArray) {r:Bool} (hr:resv s.toList=r) (d:Nat) (os:Array Obj) :
  Calls Tryz.prog 136 #[.string s] (grow (redrawn w d) os) fun e w''=>e=.returned (.bool r)∧∃ p:Regrown,w''=grow (redrawn w p.d) p.os:=by
 have h1:=refReserved_any s (grow (redrawn w d) os)
 rw [hr] at h1
 exact Calls.regrown_of h1
set_option maxHeartbeats 2000000 in
/-- A name that is no word of the language. -/
theorem rname_ok (w:World) (b:Nat) (A:Option Addr) (c:Nat) (ts:List Tok) (k:Nat) (h:Rd w b A c ts k 0) (hl:k < ts.length) (hk:(ts[k]).kind=1) (hr:resv (bs (ts[k]).text).toList=false) :
  Calls Tryz.prog 119 #[.pointer (some ⟨b,0,none⟩),.int .i64 1] w fun e w'=>e=.returned (.string (bs (ts[k]).text))∧Rd w' b A c ts (k+1) 0∧PFr b w w':=by
 have HP:=Lib.hid h
 have HE:=Lib.hid (fun d os=>rend_class h hl d os)
 have HR:=Lib.hid (fun d os=>rres_class (w:=w) (bs (ts[k]).text) hr d os)
 obtain ⟨g,rfl,hgb,d0,d1,_⟩:=h.at_tok hl
 have hk0:(0:Int)≤(k:Int):=by omega
 have hk1:(k:Int) < (ts.length:Int):=by omega
 have hfw:=h.few
 rw [hk] at d0
 have g0:=fun d os=>cell_regrown h.c0 d os
 have g1:=fun d os=>cell_regrown h.c1 d os
 have g2:=fun d os=>cell_regrown d0 d os
 have g3:=fun d os=>cell_regrown d1 d os
 generalize bs (ts[k]).text=y at *
 clear h hk hr d0 d1
 go_enter Tryz.func119,Tryz.ntmps119
 go_wp2
 refine wp_region_quiet_below (by kernel_rfl) (by kernel_rfl) ?_
 repeat (first | go_big_quiet_step (first | (go_at_call 118;exact HE.out _ _) | (go_at_call 136;exact HR.out _ _)) | quiet_step (first | (go_at_call 118;exact HE.out _ _) | (go_at_call 136;exact HR.out _ _)))
 refine wpQuiet_nil ?_
 intro _ hw'
 obtain ⟨⟨dq,osq⟩,hw''⟩:=hw'
 subst hw''
 obtain ⟨hp2,hf2⟩:=rd_class HP.out dq osq
 have d1:=g3 dq osq
 generalize grow (redrawn w dq) osq=w2 at hp2 hf2 d1 ⊢
 have c1:=hp2.c1
 have f1:=hp2.f1
 clear g0 g1 g2 g3
 go_wp2_with fail
 have HQ:=Lib.hid (hp2.setAt (k+1) (by omega))
 have HF:=Lib.hid (hf2.put 1 (.int .i64 ((k:Int)+1)))
 have e0:=HQ.out.c0
 have e1:(w2.setCell ⟨b,1,none⟩ (.int .i64 ((k:Int)+1))).cell? ⟨b,1,none⟩=some (.int .i64 ((k:Int)+1)):=HQ.out.c1
 have e2:(w2.setCell ⟨b,1,none⟩ (.int .i64 ((k:Int)+1))).cell? ⟨g,k * 3+1,none⟩=some (.string y):=by
  rw [World.cell?_setCell_other _ _ _ _ (by simp)]
  exact d1
 have HX:Hid ((w2.setCell ⟨b,1,none⟩ (.int .i64 ((k:Int)+1)))=(w2.setCell ⟨b,1,none⟩ (.int .i64 (((k+1:Nat)):Int)))):=Lib.hid (by simp)
 rw [← HX.out] at HQ e0
 generalize w2.setCell ⟨b,1,none⟩ (.int .i64 ((k:Int)+1))=X at *
 clear c1 f1 d1 hp2 hf2
 go_quiet (fail)
 go_wp2_with fail
 go_ret
 exact ⟨rfl,HQ.out.drewN _,HF.out.drewN _⟩
set_option maxHeartbeats 2000000 in
/-- A word of the language. -/
theorem rname_resv (w:World) (b:Nat) (A:Option Addr) (c:Nat) (ts:List Tok) (k:Nat) (h:Rd w b A c ts k 0) (hl:k < ts.length) (hk:(ts[k]).kind=1) (hr:resv (bs (ts[k]).text).toList=true) :
  Calls Tryz.prog 119 #[.pointer (some ⟨b,0,none⟩),.int .i64 1] w fun e w'=>e=.returned (.string ⟨#[]⟩)∧Rd w' b A c ts k 2∧PFr b w w':=by
 have HP:=Lib.hid h
 have HE:=Lib.hid (fun d os=>rend_class h hl d os)
 have HR:=Lib.hid (fun d os=>rres_class (w:=w) (bs (ts[k]).text) hr d os)
 have HF:=Lib.hid (fun w h=>rfail_any w b A c ts k 0 2 h (by decide) (by decide))
 rw [show failE 0 2=2 from rfl] at HF
 obtain ⟨g,rfl,hgb,d0,d1,_⟩:=h.at_tok hl
 have hk0:(0:Int)≤(k:Int):=by omega
 have hk1:(k:Int) < (ts.length:Int):=by omega
 rw [hk] at d0
 have g0:=fun d os=>cell_regrown h.c0 d os
 have g1:=fun d os=>cell_regrown h.c1 d os
 have g2:=fun d os=>cell_regrown d0 d os
 have g3:=fun d os=>cell_regrown d1 d os
 generalize bs (ts[k]).text=y at *
 clear h hk hr d0 d1
 go_enter Tryz.func119,Tryz.ntmps119
 go_wp2
 refine wp_region_quiet_below (by kernel_rfl) (by kernel_rfl) ?_
 repeat (first | go_big_quiet_step (first | (go_at_call 118;exact HE.out _ _) | (go_at_call 136;exact HR.out _ _)) | quiet_step (first | (go_at_call 118;exact HE.out _ _) | (go_at_call 136;exact HR.out _ _)))
 refine wpQuiet_nil ?_
 intro _ hw'
 obtain ⟨⟨dq,osq⟩,hw''⟩:=hw'
 subst hw''
 obtain ⟨hp2,hf2⟩:=rd_class HP.out dq osq
 generalize grow (redrawn w dq) osq=w2 at hp2 hf2 ⊢
 clear g0 g1 g2 g3
 go_wp2_with fail
 go_at_call 135
 refine (HF.out _ hp2).mono ?_
 rintro e w3 ⟨rfl,hp3,hf3⟩
 go_wp2_with fail
 go_ret
 exact ⟨rfl,hp3,hf2.trans hf3⟩
/-- A name, in the words of the program's parser. -/
theorem rname_any (w:World) (b:Nat) (A:Option Addr) (c:Nat) (ts:List Tok) (k:Nat) (h:Rd w b A c ts k 0) :
  Calls Tryz.prog 119 #[.pointer (some ⟨b,0,none⟩),.int .i64 1] w fun e w' =>
   match nameO ts k with
   | .ok s k'=>e=.returned (.string (bs s))∧Rd w' b A c ts k' 0∧PFr b w w'
   | .no _=>e=.returned (.string ⟨#[]⟩)∧Rd w' b A c ts k 2∧PFr b w w':=by
 unfold nameO
 rcases Nat.lt_or_ge k ts.length with hl | hl
 ·rw [peekT_in hl]
  by_cases hk:(ts[k]).kind=1
  ·cases hr:resv (bs (ts[k]).text).toList with
   | false =>
    simp only [hk,and_self,if_true]
    exact rname_ok w b A c ts k h hl hk hr
   | true =>
    simp only [hk,Bool.true_eq_false,and_false,if_false]
    exact rname_resv w b A c ts k h hl hk hr
  ·simp only [hk,false_and,if_false]
   exact rword_not w b A c ts k 1 h (.inr (by rwa [peekT_in hl]))
 ·rw [peekT_out hl]
  exact rword_not w b A c ts k 1 h (.inl hl)
end Lx
end Go.Proofs.YtiljemkglhloeaaGreatDoor
namespace Go.Proofs.YtiljemkglhloeaaGreatDoor
set_option linter.unusedSimpArgs false
set_option linter.unusedVariables false
namespace Lx
open Go Go.RowKit
theorem kw_open:KW (ByteArray.mk #[40]).data.toList:=⟨by simp,4,.inr rfl,rfl⟩
theorem kw_close:KW (ByteArray.mk #[41]).data.toList:=⟨by simp,4,.inr rfl,rfl⟩
theorem kw_comma:KW (ByteArray.mk #[44]).data.toList:=⟨by simp,4,.inr rfl,rfl⟩
/-- Does it, where the reader then stands, and with what error. -/
def moreO (ts:List Tok) (k n:Nat):Bool × Nat × Int :=
 if n=0 then (if hasT ts k [40]=true then (true,k+1,0) else (false,k,0))
 else if hasT ts k [41]=true then (false,k+1,0)
 else if hasT ts k [44]=true then (if n=8∧k+1 < ts.length then (false,k+1,4) else (true,k+1,0))
 else (false,k,2)
set_option maxHeartbeats 2000000 in
theorem rmore_any (w:World) (b:Nat) (A:Option Addr) (c:Nat) (ts:List Tok) (hw:WF ts) (k n:Nat) (h:Rd w b A c ts k 0) (hk:k≤ts.length) :
  Calls Tryz.prog 120 #[.pointer (some ⟨b,0,none⟩),.int .i64 n] w fun e w'=>e=.returned (.bool (moreO ts k n).1)∧Rd w' b A c ts (moreO ts k n).2.1 (moreO ts k n).2.2∧PFr b w w':=by
 have HP:=Lib.hid h
 have hfw:=h.few
 unfold moreO
 by_cases hn:n=0
 ·have hz:((n:Int) == 0)=true:=by simp;omega
  have h8:((n:Int) == 8)=false:=by simp;omega
  have HG:=Lib.hid (rgot_any w b A c ts hw k 0 ⟨#[40]⟩ kw_open h (by omega))
  rw [isB_ok,show (ByteArray.mk #[40]).data.toList=[40] from rfl] at HG
  simp only [hn,if_true]
  clear h hw hn
  cases hq:hasT ts k [40] with
  | true =>
   rw [hq] at HG
   simp only [if_true] at HG ⊢
   go_enter Tryz.func120,Tryz.ntmps120
   go_wp2_with fail
   go_at_call 137
   refine HG.out.mono ?_
   rintro e w1 ⟨rfl,hp1,hf1⟩
   have c2:=hp1.c2
   go_wp2_with fail
   go_ret
   exact ⟨rfl,hp1,hf1⟩
  | false =>
   rw [hq] at HG
   simp only [Bool.false_eq_true,if_false] at HG ⊢
   go_enter Tryz.func120,Tryz.ntmps120
   go_wp2_with fail
   go_at_call 137
   refine HG.out.mono ?_
   rintro e w1 ⟨rfl,hp1,hf1⟩
   go_wp2_with fail
   go_ret
   exact ⟨rfl,hp1,hf1⟩
 ·have hz:((n:Int) == 0)=false:=by simp;omega
  have HG:=Lib.hid (rgot_any w b A c ts hw k 0 ⟨#[41]⟩ kw_close h (by omega))
  rw [isB_ok,show (ByteArray.mk #[41]).data.toList=[41] from rfl] at HG
  have HN:=Lib.hid (fun w h=>rneed_any w b A c ts hw k 0 ⟨#[44]⟩ kw_comma h (by omega))
  rw [isB_ok,show (ByteArray.mk #[44]).data.toList=[44] from rfl] at HN
  simp only [hn,if_false]
  have HEN:=Lib.hid (fun w k er h=>rend_any w b A c ts k er h)
  have HFA:=Lib.hid (fun w k h=>rfail_any w b A c ts k 0 4 h (by decide) (by decide))
  rw [show failE 0 4=4 from rfl] at HFA
  clear h hw
  cases hq:hasT ts k [41] with
  | true =>
   rw [hq] at HG
   simp only [if_true] at HG ⊢
   clear hn
   go_enter Tryz.func120,Tryz.ntmps120
   go_wp2_with fail
   go_at_call 137
   refine HG.out.mono ?_
   rintro e w1 ⟨rfl,hp1,hf1⟩
   go_wp2_with fail
   go_ret
   exact ⟨rfl,hp1,hf1⟩
  | false =>
   rw [hq] at HG
   simp only [Bool.false_eq_true,if_false] at HG ⊢
   cases hq2:hasT ts k [44] with
   | true =>
    rw [hq2,show needE ts k 0 [44]=0 by simp [needE,hq2]] at HN
    simp only [if_true] at HN ⊢
    by_cases hn8:n=8
    ·have h8:((n:Int) == 8)=true:=by simp;omega
     by_cases hl:k+1 < ts.length
     ·simp only [hn8,hl,and_self,if_true]
      have hd:=doneB_in hl
      clear hn hn8 hl
      go_enter Tryz.func120,Tryz.ntmps120
      go_wp2_with fail
      go_at_call 137
      refine HG.out.mono ?_
      rintro e w1 ⟨rfl,hp1,hf1⟩
      have c2:=hp1.c2
      go_wp2_with fail
      go_at_call 138
      refine (HN.out _ hp1).mono ?_
      rintro e w2 ⟨rfl,hp2,hf2⟩
      go_wp2_with fail
      go_at_call 118
      refine (HEN.out _ _ _ hp2).mono ?_
      rw [hd]
      rintro e w3 ⟨rfl,q,rfl⟩
      go_wp2_with fail
      go_at_call 135
      refine (HFA.out _ _ (hp2.drewN q)).mono ?_
      rintro e w4 ⟨rfl,hp4,hf4⟩
      have d2:=hp4.c2
      go_wp2_with fail
      go_ret
      exact ⟨rfl,hp4,hf1.trans ((hf2.drewN q).trans hf4)⟩
     ·simp only [hl,and_false,if_false]
      have hd:=doneB_out (show ts.length≤k+1 by omega)
      clear hn hn8 hl
      go_enter Tryz.func120,Tryz.ntmps120
      go_wp2_with fail
      go_at_call 137
      refine HG.out.mono ?_
      rintro e w1 ⟨rfl,hp1,hf1⟩
      have c2:=hp1.c2
      go_wp2_with fail
      go_at_call 138
      refine (HN.out _ hp1).mono ?_
      rintro e w2 ⟨rfl,hp2,hf2⟩
      go_wp2_with fail
      go_at_call 118
      refine (HEN.out _ _ _ hp2).mono ?_
      rw [hd]
      rintro e w3 ⟨rfl,q,rfl⟩
      have d2:=(hp2.drewN q).c2
      go_wp2_with fail
      go_ret
      exact ⟨rfl,hp2.drewN q,hf1.trans (hf2.drewN q)⟩
    ·have h8:((n:Int) == 8)=false:=by simp;omega
     simp only [hn8,false_and,if_false]
     clear hn hn8
     go_enter Tryz.func120,Tryz.ntmps120
     go_wp2_with fail
     go_at_call 137
     refine HG.out.mono ?_
     rintro e w1 ⟨rfl,hp1,hf1⟩
     have c2:=hp1.c2
     go_wp2_with fail
     go_at_call 138
     refine (HN.out _ hp1).mono ?_
     rintro e w2 ⟨rfl,hp2,hf2⟩
     have d2:=hp2.c2
     go_wp2_with fail
     go_ret
     exact ⟨rfl,hp2,hf1.trans hf2⟩
   | false =>
    rw [hq2,show needE ts k 0 [44]=2 by simp [needE,hq2]] at HN
    simp only [Bool.false_eq_true,if_false] at HN ⊢
    have hd:=doneB_err (ts:=ts) (k:=k) (show (2:Int) ≠ 0 by decide)
    by_cases hn8:n=8
    ·have h8:((n:Int) == 8)=true:=by simp;omega
     clear hn hn8
     go_enter Tryz.func120,Tryz.ntmps120
     go_wp2_with fail
     go_at_call 137
     refine HG.out.mono ?_
     rintro e w1 ⟨rfl,hp1,hf1⟩
     have c2:=hp1.c2
     go_wp2_with fail
     go_at_call 138
     refine (HN.out _ hp1).mono ?_
     rintro e w2 ⟨rfl,hp2,hf2⟩
     go_wp2_with fail
     go_at_call 118
     refine (HEN.out _ _ _ hp2).mono ?_
     rw [hd]
     rintro e w3 ⟨rfl,q,rfl⟩
     have d2:=(hp2.drewN q).c2
     go_wp2_with fail
     go_ret
     exact ⟨rfl,hp2.drewN q,hf1.trans (hf2.drewN q)⟩
    ·have h8:((n:Int) == 8)=false:=by simp;omega
     clear hn hn8
     go_enter Tryz.func120,Tryz.ntmps120
     go_wp2_with fail
     go_at_call 137
     refine HG.out.mono ?_
     rintro e w1 ⟨rfl,hp1,hf1⟩
     have c2:=hp1.c2
     go_wp2_with fail
     go_at_call 138
     refine (HN.out _ hp1).mono ?_
     rintro e w2 ⟨rfl,hp2,hf2⟩
     have d2:=hp2.c2
     go_wp2_with fail
     go_ret
     exact ⟨rfl,hp2,hf1.trans hf2⟩
end Lx
end Go.Proofs.YtiljemkglhloeaaGreatDoor
namespace Go.Proofs.YtiljemkglhloeaaGreatDoor
set_option linter.unusedSimpArgs false
set_option linter.unusedVariables false
namespace Lx
open Go Go.RowKit
/-- The number that the reference gives an error. -/
def erN:Nat→Int
 | 0=>3
 | 1=>4
 | 2=>2
 | _=>1
theorem erN_ne (i:Nat):erN i ≠ 0:=by
 unfold erN
 split <;> decide
/-- What is left of a row, some things read. -/
def tailO {α:Type} (rd:Nat→Out α) (ts:List Tok) (m k:Nat) (acc:List α):Out (List α) :=
 if acc.length=0 then argsO rd ts k
 else match rowLoop rd ts [44] 8 m k acc with
  | .no i=>.no i
  | .ok l k'=>match expO ts k' [41] with
   | .no i=>.no i
   | .ok _ k2=>.ok l k2
theorem tail_step {α:Type} {rd:Nat→Out α} {ts:List Tok} (hrd:Fwd ts rd) {m k:Nat} {acc:List α} {O:Out (List α)} (hO:tailO rd ts m k acc=O) (hf:acc.length=0 ∨ ts.length < k+m) (hk:k≤ts.length) :
  (∃ k1,moreO ts k acc.length=(true,k1,0)∧k < k1∧k1≤ts.length∧((∃ i,rd k1=.no i∧O=.no i) ∨ (∃ x k2 m2,rd k1=.ok x k2∧k1 < k2∧k2≤ts.length∧tailO rd ts m2 k2 (acc++[x])=O∧ts.length < k2+m2))) ∨
  (∃ k1,moreO ts k acc.length=(false,k1,0)∧k1≤ts.length∧O=.ok acc k1) ∨
  (∃ k1 er i,moreO ts k acc.length=(false,k1,er)∧er ≠ 0∧k1≤ts.length∧O=.no i∧erN i=er):=by
 subst hO
 have hlen:∀ x:α,(acc++[x]).length ≠ 0:=fun x=>by simp
 unfold moreO tailO
 by_cases hz:acc.length=0
 ·simp only [hz,if_true]
  obtain rfl:=List.eq_nil_of_length_eq_zero hz
  unfold argsO
  cases hh:hasT ts k [40] with
  | false=>exact .inr (.inl ⟨k,by simp,hk,by simp⟩)
  | true =>
   have hin:=hasT_in hh (by decide)
   refine .inl ⟨k+1,by simp,by omega,by omega,?_⟩
   simp only [if_true]
   unfold rowO
   cases hr:rd (k+1) with
   | no i=>exact .inl ⟨i,rfl,rfl⟩
   | ok x k2 =>
    obtain ⟨h1,h2⟩:=hrd _ _ _ hr
    refine .inr ⟨x,k2,ts.length+1,rfl,h1,h2,?_,by omega⟩
    simp only [List.nil_append,List.length_singleton,Nat.one_ne_zero,if_false]
    rfl
 ·simp only [hz,if_false]
  obtain ⟨m,rfl⟩:∃ m',m=m'+1:=⟨m - 1,by omega⟩
  rw [rowLoop]
  cases h1:hasT ts k [41] with
  | true =>
   have hin:=hasT_in h1 (by decide)
   have h2:hasT ts k [44]=false:=by
    unfold hasT at h1 ⊢
    rw [eq_of_beq h1]
    rfl
   refine .inr (.inl ⟨k+1,by simp,by omega,?_⟩)
   simp [h2,expO,h1]
  | false =>
   cases h2:hasT ts k [44] with
   | false=>exact .inr (.inr ⟨k,2,2,by simp,by decide,hk,by simp [expO,h1],rfl⟩)
   | true =>
    have hin:=hasT_in h2 (by decide)
    by_cases h8:acc.length=8∧k+1 < ts.length
    ·exact .inr (.inr ⟨k+1,4,1,by simp [h8],by decide,by omega,by simp [h8],rfl⟩)
    ·refine .inl ⟨k+1,by simp [h8],by omega,by omega,?_⟩
     simp only [h8,if_true,if_false]
     cases hr:rd (k+1) with
     | no i=>exact .inl ⟨i,rfl,rfl⟩
     | ok x k2 =>
      obtain ⟨h3,h4⟩:=hrd _ _ _ hr
      refine .inr ⟨x,k2,m,rfl,h3,h4,?_,by omega⟩
      rw [if_neg (hlen x)]
/-- The ending of a reading: a thing and no error; or a value of the same shape and the error's number. -/
def REnds {α:Type} (b:Nat) (A:Option Addr) (c:Nat) (ts:List Tok) (V:Holds α) (Sh:Value→Prop) (w:World):Out α→Ending→World→Prop
 | .ok x k',e,w'=>∃ v,e=.returned v∧V x v w.heap.size w'.heap.size w'∧Rd w' b A c ts k' 0∧PFr b w w'
 | .no i,e,w'=>∃ v k',e=.returned v∧Sh v∧k'≤ts.length∧Rd w' b A c ts k' (erN i)∧PFr b w w'
/-- The row as the loop holds it: its cells lie from block B on. -/
structure RdI {α:Type} (t:TypeId) (sz:Nat) (V:Holds α) (rd:Nat→Out α) (O:Out (List α)) (w:World) (B b:Nat) (A:Option Addr) (c:Nat) (ts:List Tok) (s:Option Addr) (cap:Nat) (wr:World) (m k:Nat) (acc:List α) (vs:List Value) (g:Nat):Prop where
 out:tailO rd ts m k acc=O
 fuel:acc.length=0 ∨ ts.length < k+m
 le:k≤ts.length
 few:acc.length≤k
 val:(acc=[]∧s=none∧cap=0) ∨ s=some ⟨g,0,none⟩
 own:wr.ownsRow B t sz (.slice s acc.length cap) acc.length (vs.flatMap cellsL)
 items:Items V B wr.heap.size g wr acc vs
 base:w.heap.size≤B
 base2:B≤wr.heap.size
 rd:Rd wr b A c ts k 0
 fr:PFr b w wr
section
variable {α:Type} {t:TypeId} {sz:Nat} {V:Holds α} {rd:Nat→Out α} {O:Out (List α)} {w:World} {B b:Nat} {A:Option Addr} {c:Nat} {ts:List Tok} {s:Option Addr} {cap:Nat} {wr:World} {m k:Nat} {acc:List α} {vs:List Value} {g:Nat}
theorem RdI.held (h:RdI t sz V rd O w B b A c ts s cap wr m k acc vs g):ArgsV t sz V acc (.slice s acc.length cap) B wr.heap.size wr:=by
 rcases h.val with ⟨rfl,rfl,rfl⟩ | rfl
 ·exact .inl ⟨rfl,rfl⟩
 ·exact .inr ⟨g,cap,vs,rfl,(h.own.lt g rfl).2,h.own,h.items⟩
theorem RdI.ownB (h:RdI t sz V rd O w B b A c ts s cap wr m k acc vs g) {j:Nat} (hj:(Value.slice s acc.length cap).ownBlock=some j):B≤j∧j < wr.heap.size:=h.own.lt j hj
/-- Blocks from B on are as they were. -/
structure HiEq (B:Nat) (x y:World):Prop where
 size:y.heap.size=x.heap.size
 block:∀ j,B≤j→y.heap[j]?=x.heap[j]?
theorem HiEq.put (x:World) {B N:Nat} (h:N < B) (i:Nat) (v:Value):HiEq B x (x.setCell ⟨N,i,none⟩ v) :=
 ⟨by simp [World.setCell],fun j hj=>Below.heap_setCell x _ v j (by show j ≠ N;omega)⟩
theorem own_hi {x y:World} {n:Nat} {v:Value} {xs:List Value} (h:x.ownsRow B t sz v n xs) (hh:HiEq B x y):y.ownsRow B t sz v n xs:=by
 refine ⟨h.1,?_⟩
 rcases h.2 with h1 | ⟨g1,c1,cur,h1,h2,h3,h4⟩
 ·exact .inl h1
 ·exact .inr ⟨g1,c1,cur,h1,h2,(hh.block g1 h2).trans h3,h4⟩
/-- Behind an append to the row: the old blocks, the reader. -/
theorem RdI.grow (h:RdI t sz V rd O w B b A c ts s cap wr m k acc vs g) {k0:Nat} {er0:Int} (h0:Rd w b A c ts k0 er0) {w4 w6:World} {o:Obj} (hf4:PFr b wr w4) (hg:(w4.alloc o).grownBy w6 (Value.slice s acc.length cap).ownBlock) :
  PFr b w w6∧w4.heap.size≤w6.heap.size∧(∀ j,j < w4.heap.size→some j ≠ (Value.slice s acc.length cap).ownBlock→w6.heap[j]?=w4.heap[j]?)∧(∀ j,j < B→j ≠ b→w6.heap[j]?=wr.heap[j]?)∧(∀ k er,Rd w4 b A c ts k er→Rd w6 b A c ts k er):=by
 have hbw:=h0.lt
 have hb1:=h.base
 have hb2:=h.base2
 have hs4:=hf4.size
 have hfr:PFr b w w6:=((h.fr.trans hf4).alloc o).grown hg (fun j hj=>Nat.le_trans h.base (h.ownB hj).1)
 have hblk:∀ j,j < w4.heap.size→some j ≠ (Value.slice s acc.length cap).ownBlock→w6.heap[j]?=w4.heap[j]?:=fun j hj hn=>(hg.block j (by simp;omega) hn).trans (Below.heap_alloc w4 o j hj)
 refine ⟨hfr,by have:=hg.size;simp at this;omega,hblk,fun j hj hn=>?_,fun k er hr=>?_⟩
 ·exact (hblk j (by omega) (fun e=>by have:=(h.ownB e.symm).1;omega)).trans (hf4.block j (by omega) hn)
 ·exact h0.move hfr ((hblk b hr.lt (fun e=>by have:=(h.ownB e.symm).1;omega)).trans hr.blk) hr.near hr.nest0 hr.nest1
theorem RdI.next (h:RdI t sz V rd O w B b A c ts s cap wr m k acc vs g) (hV:Stable V) {k0:Nat} {er0:Int} (h0:Rd w b A c ts k0 er0) {x2:α} {v2:Value} {k2 m2:Nat} {w4 w6 w7:World} {o:Obj} {lo4 g2 cap2:Nat}
  (hf4:PFr b wr w4) (hlo:wr.heap.size≤lo4) (hv4:V x2 v2 lo4 w4.heap.size w4)
  (hown:w6.ownsRow B t sz (.slice (some ⟨g2,0,none⟩) (acc.length+1) cap2) (acc.length+1) (vs.flatMap cellsL++cellsL v2)) (hg:(w4.alloc o).grownBy w6 (Value.slice s acc.length cap).ownBlock) (hat:(Value.slice s acc.length cap).ownBlock=some g2 ∨ g2=(w4.alloc o).heap.size)
  (hout:tailO rd ts m2 k2 (acc++[x2])=O) (hfu:ts.length < k2+m2) (hk:k < k2) (hk4:k2≤ts.length) (hh:HiEq B w6 w7) (hf7:PFr b w w7) (hr7:Rd w7 b A c ts k2 0) :
  RdI t sz V rd O w B b A c ts (some ⟨g2,0,none⟩) cap2 w7 m2 k2 (acc++[x2]) (vs++[v2]) g2:=by
 obtain ⟨hfr,hs6,hblk,_,_⟩:=h.grow h0 hf4 hg
 have hbw:=h0.lt
 have hb1:=h.base
 have hb2:=h.base2
 have hs4:=hf4.size
 have hs7:=hh.size
 have hlen:(acc++[x2]).length=acc.length+1:=by simp
 have hfew:=h.few
 refine ⟨hout,.inr hfu,hk4,by rw [hlen];omega,.inr rfl,?_,?_,hb1,by omega,hr7,hf7⟩
 ·rw [hlen,flat_snoc]
  exact own_hi hown hh
 ·have hstep:∀ {l:List α} {us:List Value},Items V B w6.heap.size g2 w6 l us→Items V B w7.heap.size g2 w7 l us:=fun hi=>Items.step hV (fun j j1 _ _=>hh.block j j1) (by omega) (.inl rfl) hi
  refine hstep ?_
  have i1:=Items.fr hV hf4 (by omega) h.items
  rcases h.val with ⟨rfl,rfl,rfl⟩ | rfl
  ·match vs,i1 with
   | [],_ =>
    have hg2:g2=(w4.alloc o).heap.size:=by
     rcases hat with e | e
     ·cases e
     ·exact e
    refine ⟨⟨lo4,w4.heap.size,by omega,hs6,by rw [hg2];simp <;> omega,?_⟩,trivial⟩
    exact hV _ _ _ _ _ _ hv4 (fun j _ hj=>hblk j hj (fun e=>by cases e))
  ·have hg3:=h.ownB (j:=g) rfl
   have i2:=Items.snoc (x:=x2) (v:=v2) ⟨lo4,w4.heap.size,by omega,Nat.le_refl _,by omega,hv4⟩ i1
   exact Items.step hV (fun j _ j2 j3=>hblk j j2 (fun e=>j3 (Option.some.inj e))) hs6 (by rcases hat with e | e;exact .inl (Option.some.inj e).symm;exact .inr (by rw [e];simp)) i2
end
/-- The loop's measure: nothing left once an error stands. -/
def meas (n b:Nat) (w:World):Nat:=if intOf ((w.cell? ⟨b,2,none⟩).getD undef)=0 then 1+(n - (intOf ((w.cell? ⟨b,1,none⟩).getD undef)).toNat) else 0
theorem meas_on {w:World} {b:Nat} {A:Option Addr} {c:Nat} {ts:List Tok} {k:Nat} (h:Rd w b A c ts k 0) (n:Nat):meas n b w=1+(n - k):=by
 unfold meas
 rw [h.c1,h.c2]
 simp [intOf]
theorem meas_off {w:World} {b:Nat} {A:Option Addr} {c:Nat} {ts:List Tok} {k:Nat} {er:Int} (h:Rd w b A c ts k er) (he:er ≠ 0) (n:Nat):meas n b w=0:=by
 unfold meas
 rw [h.c2]
 simp [intOf,he]
end Lx
end Go.Proofs.YtiljemkglhloeaaGreatDoor
