/- What the reading of a text is at other places, and where more follows. No program stands in this text; no conditions. -/
/- The tokens of a thing's form, and that the form's text has just these tokens, whatever follows it. No program stands in this text but the things' form. Conditions: the thing's words are one token each. -/
/- The words of what is read are one token each. No program stands in this text but the things' form. Conditions: each token is one by itself. -/
/- What is read without brackets around goals has just the tokens that were read. No program stands in this text but the things' form. Conditions: each token is one by itself; no bracket stands but behind a name. -/
import Derived.Test.YtiljemkglhloeaaGreatDoorPlainA
import Derived.Test.YtiljemkglhloeaaGreatDoorPrFL
namespace Go.Proofs.YtiljemkglhloeaaGreatDoor
set_option linter.unusedSimpArgs false
set_option linter.unusedVariables false
namespace Lx
open Go
theorem lex_shiftX:∀ (f:Nat) (cm:Bool) (p q:Nat) (l:List UInt8),l.length≤f→(lex cm p l).1.map (·.2)=(lex cm q l).1.map (·.2)∧(lex cm p l).2=(lex cm q l).2
 | _,cm,p,q,[],_=>⟨rfl,rfl⟩
 | 0,_,_,_,c :: r,h=>by simp at h
 | f+1,true,p,q,c :: r,h=>by
  simp only [List.length_cons] at h
  rw [lex_cmt,lex_cmt]
  exact lex_shiftX f _ _ _ r (by omega)
 | f+1,false,p,q,c :: r,h=>by
  simp only [List.length_cons] at h
  by_cases hb:blkI (c.toNat:Int)=true
  ·rw [lex_blk _ _ _ hb,lex_blk _ _ _ hb]
   exact lex_shiftX f _ _ _ r (by omega)
  ·have hb':blkI (c.toNat:Int)=false:=by simpa using hb
   by_cases h37:((c.toNat:Int) == 37)=true
   ·rw [lex_pct _ _ _ hb' h37,lex_pct _ _ _ hb' h37]
    exact lex_shiftX f _ _ _ r (by omega)
   ·have h37':((c.toNat:Int) == 37)=false:=by simpa using h37
    cases ht:tokAt (c :: r) with
    | none=>rw [lex_bad _ _ _ hb' h37' ht,lex_bad _ _ _ hb' h37' ht];exact ⟨rfl,rfl⟩
    | some t =>
     have h1:=(tokAt_spec ht).2.1
     rw [lex_tok _ _ _ hb' h37' t ht,lex_tok _ _ _ hb' h37' t ht]
     have ih:=lex_shiftX f false (p+t.text.length) (q+t.text.length) ((c :: r).drop t.text.length) (by rw [List.length_drop,List.length_cons];omega)
     exact ⟨by simp only [List.map_cons];rw [ih.1],ih.2⟩
theorem runL_appX (p:Int→Bool) (d:UInt8) (h:p (d.toNat:Int)=false) (m:List UInt8):∀ l:List UInt8,runL p (l++d :: m)=runL p l
 | []=>by
  show (if p (d.toNat:Int) then runL p m+1 else 0)=0
  rw [h]
  rfl
 | c :: r=>by
  simp only [List.cons_append,runL]
  rw [runL_appX p d h m r]
theorem wordAt_appX (d:UInt8) (h:wordI (d.toNat:Int)=false) (l m:List UInt8) (n:Nat) (hn:n≤l.length):wordAt (l++d :: m) n=wordAt l n:=by
 unfold wordAt
 rcases Nat.lt_or_ge n l.length with h1 | h1
 ·rw [List.getElem?_append_left h1]
 ·obtain rfl:n=l.length:=by omega
  rw [List.getElem?_append_right (Nat.le_refl _),Nat.sub_self,List.getElem?_eq_none (Nat.le_refl _)]
  exact h
def endX (d:UInt8):Bool:=blkI (d.toNat:Int) || (d.toNat:Int) == 37
theorem endB_casesX {d:UInt8} (h:endX d=true):d=9 ∨ d=10 ∨ d=13 ∨ d=32 ∨ d=37:=by
 unfold endX blkI at h
 simp only [Bool.or_eq_true,beq_iff_eq] at h
 rcases h with (((h | h) | h) | h) | h
 ·exact .inl (UInt8.toNat_inj.1 (by show d.toNat=9;omega))
 ·exact .inr (.inl (UInt8.toNat_inj.1 (by show d.toNat=10;omega)))
 ·exact .inr (.inr (.inl (UInt8.toNat_inj.1 (by show d.toNat=13;omega))))
 ·exact .inr (.inr (.inr (.inl (UInt8.toNat_inj.1 (by show d.toNat=32;omega)))))
 ·exact .inr (.inr (.inr (.inr (UInt8.toNat_inj.1 (by show d.toNat=37;omega)))))
theorem tokAt_headX {c:UInt8} {r:List UInt8} {t:Tok} (h:tokAt (c :: r)=some t):blkI (c.toNat:Int)=false∧((c.toNat:Int) == 37)=false:=by
 rw [← Bool.or_eq_false_iff]
 show endX c=false
 cases he:endX c with
 | false=>rfl
 | true =>
  exfalso
  have hn:∀ (c:UInt8) (r:List UInt8),endX c=true→tokAt (c :: r)=none:=by
   intro c r hc
   rcases endB_casesX hc with rfl | rfl | rfl | rfl | rfl <;> (cases r <;> rfl)
  rw [hn c r he] at h
  cases h
end Lx
end Go.Proofs.YtiljemkglhloeaaGreatDoor
namespace Go.Proofs.YtiljemkglhloeaaGreatDoor
set_option linter.unusedSimpArgs false
set_option linter.unusedVariables false
namespace Lx
open Go Go.RowKit
/-- A byte that goes on with no token. -/
def sepB (d:UInt8):Bool:=!wordI (d.toNat:Int) && !digI (d.toNat:Int) && !((d.toNat:Int) == 45)
theorem tokAt_sep {l:List UInt8} {t:Tok} (h:tokAt l=some t) (d:UInt8) (hd:sepB d=true) (m:List UInt8):tokAt (l++d :: m)=some t:=by
 obtain ⟨⟨d1,d2⟩,d3⟩:(wordI (d.toNat:Int)=false∧digI (d.toNat:Int)=false)∧((d.toNat:Int) == 45)=false:=by
  simpa only [sepB,Bool.and_eq_true,Bool.not_eq_true'] using hd
 cases l with
 | nil=>simp [tokAt] at h
 | cons c r =>
  have hw:∀ k,wordTok k (c :: r++d :: m)=wordTok k (c :: r):=by
   intro k
   have h1:=runL_le wordI r
   have h2:runL wordI (c :: r++d :: m).tail=runL wordI (c :: r).tail:=runL_appX wordI d d1 m r
   unfold wordTok
   rw [h2,List.take_append_of_le_length (by simp only [List.length_cons,List.tail_cons];omega)]
  have hn:numTok (c :: r++d :: m)=numTok (c :: r):=by
   have h1:numLen (c :: r++d :: m)=numLen (c :: r):=by
    simp only [numLen,List.cons_append,List.tail_cons]
    rw [runL_appX digI d d2 m r]
   have h2:=numLen_le (l:=c :: r) (by simp)
   unfold numTok
   rw [h1,wordAt_appX d d1 _ _ _ h2,List.take_append_of_le_length h2]
  have ha:arrow (c :: r++d :: m)=arrow (c :: r):=by
   cases r with
   | nil =>
    show ((c.toNat:Int) == 58 && (d.toNat:Int) == 45)=false
    rw [d3,Bool.and_false]
   | cons d r=>rfl
  have hm:markTok (c :: r++d :: m)=markTok (c :: r):=by
   unfold markTok
   rw [ha]
   rfl
  have e:tokAt (c :: r++d :: m)=tokAt (c :: r):=by
   show (if lowI (c.toNat:Int)=true then wordTok 1 (c :: r++d :: m) else if (upI (c.toNat:Int) || (c.toNat:Int) == 95)=true then wordTok 2 (c :: r++d :: m) else if (digI (c.toNat:Int) || (c.toNat:Int) == 45)=true then numTok (c :: r++d :: m) else markTok (c :: r++d :: m))=_
   rw [hw,hw,hn,hm]
   rfl
  rw [e,h]
def Hd (r:List UInt8):Prop:=∃ d m,r=d :: m∧sepB d=true
def Sep (r:List UInt8):Prop:=r=[] ∨ Hd r
theorem Hd.app {a:List UInt8} (h:Hd a) (b:List UInt8):Hd (a++b):=by
 obtain ⟨d,m,rfl,hd⟩:=h
 exact ⟨d,m++b,rfl,hd⟩
theorem Sep.app {a b:List UInt8} (h:Sep a) (hb:Sep b):Sep (a++b):=by
 rcases h with rfl | h
 ·exact hb
 ·exact .inr (h.app b)
theorem toks_tok {s r:List UInt8} {t:Tok} (h:tokAt (s++r)=some t) (ht:t.text=s):toks (s++r)=t :: toks r∧whole (s++r)=whole r:=by
 have hlen:=(tokAt_spec h).2.1
 obtain ⟨c,q,hs⟩:∃ c q,s=c :: q:=by
  cases s with
  | nil=>rw [ht] at hlen;simp at hlen
  | cons c q=>exact ⟨c,q,rfl⟩
 have e:s++r=c :: (q++r):=by rw [hs];rfl
 have h0:=h
 rw [e] at h
 obtain ⟨g1,g2⟩:=tokAt_headX h
 have hl:=lex_tok 0 c (q++r) g1 g2 t h
 rw [← e,ht,List.drop_left] at hl
 have hsh:=lex_shiftX r.length false (0+s.length) 0 r (Nat.le_refl _)
 unfold toks whole
 rw [hl]
 exact ⟨by rw [List.map_cons,hsh.1],hsh.2⟩
theorem toks_blk (c:UInt8) (r:List UInt8) (h:blkI (c.toNat:Int)=true):toks (c :: r)=toks r∧whole (c :: r)=whole r:=by
 have hsh:=lex_shiftX r.length false (0+1) 0 r (Nat.le_refl _)
 unfold toks whole
 rw [lex_blk 0 c r h]
 exact hsh
/-- The text has these tokens where what follows goes on with none; and whatever follows. -/
def Lxs (l:List UInt8) (T:List Tok):Prop:=∀ r,Sep r→toks (l++r)=T++toks r∧whole (l++r)=whole r
def Lxz (l:List UInt8) (T:List Tok):Prop:=∀ r,toks (l++r)=T++toks r∧whole (l++r)=whole r
theorem Lxz.lx {l:List UInt8} {T:List Tok} (h:Lxz l T):Lxs l T:=fun r _=>h r
theorem lxz_nil:Lxz [] []:=fun _=>⟨rfl,rfl⟩
theorem Lxz.app {a b:List UInt8} {T U:List Tok} (h:Lxz a T) (k:Lxs b U):Lxs (a++b) (T++U):=fun r hr=>by
 obtain ⟨h1,h2⟩:=h (b++r)
 obtain ⟨k1,k2⟩:=k r hr
 rw [List.append_assoc,List.append_assoc,h1,h2,k1,k2]
 exact ⟨rfl,rfl⟩
theorem Lxz.appz {a b:List UInt8} {T U:List Tok} (h:Lxz a T) (k:Lxz b U):Lxz (a++b) (T++U):=fun r=>by
 obtain ⟨h1,h2⟩:=h (b++r)
 obtain ⟨k1,k2⟩:=k r
 rw [List.append_assoc,List.append_assoc,h1,h2,k1,k2]
 exact ⟨rfl,rfl⟩
theorem Lxs.app {a b:List UInt8} {T U:List Tok} (h:Lxs a T) (hb:Sep b) (k:Lxs b U):Lxs (a++b) (T++U):=fun r hr=>by
 obtain ⟨h1,h2⟩:=h (b++r) (hb.app hr)
 obtain ⟨k1,k2⟩:=k r hr
 rw [List.append_assoc,List.append_assoc,h1,h2,k1,k2]
 exact ⟨rfl,rfl⟩
theorem Lxs.appz {a b:List UInt8} {T U:List Tok} (h:Lxs a T) (hb:Hd b) (k:Lxz b U):Lxz (a++b) (T++U):=fun r=>by
 obtain ⟨h1,h2⟩:=h (b++r) (.inr (hb.app r))
 obtain ⟨k1,k2⟩:=k r
 rw [List.append_assoc,List.append_assoc,h1,h2,k1,k2]
 exact ⟨rfl,rfl⟩
def WT (s:List UInt8) (t:Tok):Prop:=tokAt s=some t∧t.text=s
theorem lxs_word {s:List UInt8} {t:Tok} (h:WT s t):Lxs s [t]:=fun r hr=>by
 rcases hr with rfl | ⟨d,m,rfl,hd⟩
 ·have:=toks_tok (s:=s) (r:=[]) (by rw [List.append_nil];exact h.1) h.2
  exact this
 ·exact toks_tok (tokAt_sep h.1 d hd m) h.2
def mkT (s:List UInt8):Tok:=⟨4,s,0⟩
def kwT (s:List UInt8):Tok:=⟨1,s,0⟩
theorem markAt (c:UInt8) (r:List UInt8) (h:c=40 ∨ c=41 ∨ c=44 ∨ c=46 ∨ c=59 ∨ c=61 ∨ c=124):tokAt (c :: r)=some (mkT [c]):=by
 rcases h with rfl | rfl | rfl | rfl | rfl | rfl | rfl <;> cases r <;> rfl
theorem lxz_mark (c:UInt8) (h:c=40 ∨ c=41 ∨ c=44 ∨ c=46 ∨ c=59 ∨ c=61 ∨ c=124):Lxz [c] [mkT [c]]:=fun r=>toks_tok (s:=[c]) (markAt c r h) rfl
theorem lxz_blk (c:UInt8) (h:blkI (c.toNat:Int)=true):Lxz [c] []:=fun r=>toks_blk c r h
theorem lxz_bl:Lxz [32] []:=lxz_blk 32 rfl
theorem hd_bl (r:List UInt8):Hd (32 :: r):=⟨32,r,rfl,rfl⟩
theorem lxz_comma:Lxz [44,32] [mkT [44]]:=(lxz_mark 44 (by simp)).appz lxz_bl
theorem lxz_semi:Lxz [32,59,32] [mkT [59]]:=(lxz_bl.appz (lxz_mark 59 (by simp))).appz lxz_bl
theorem lxz_eq:Lxz [32,61,32] [mkT [61]]:=(lxz_bl.appz (lxz_mark 61 (by simp))).appz lxz_bl
theorem lxz_kw {s:List UInt8} (h:WT s (kwT s)):Lxz (s++[32]) [kwT s]:=(lxs_word h).appz (hd_bl []) lxz_bl
theorem lxz_kw2 {s:List UInt8} (h:WT s (kwT s)):Lxz ([32]++(s++[32])) [kwT s]:=lxz_bl.appz (lxz_kw h)
/-! ### rows -/
def joinT (M:List Tok):List (List Tok)→List Tok
 | []=>[]
 | [x]=>x
 | x :: y :: l=>x++(M++joinT M (y :: l))
def argsT (Ts:List (List Tok)):List Tok:=if Ts=[] then [] else mkT [40] :: (joinT [mkT [44]] Ts++[mkT [41]])
def AllLx:List (List UInt8)→List (List Tok)→Prop
 | [],[]=>True
 | w :: ws,T :: Ts=>Lxs w T∧AllLx ws Ts
 | _,_=>False
theorem AllLx.map {α:Type} {f:α→List UInt8} {g:α→List Tok}:∀ {l:List α},(∀ x ∈ l,Lxs (f x) (g x))→AllLx (l.map f) (l.map g)
 | [],_=>trivial
 | x :: l,h=>⟨h x (by simp),AllLx.map (fun y hy=>h y (by simp [hy]))⟩
theorem lxs_join {m:List UInt8} {M:List Tok} (hm:Lxz m M) (hd:m=[] ∨ Hd m) (h0:m ≠ []):∀ {ws:List (List UInt8)} {Ts:List (List Tok)},AllLx ws Ts→Lxs (joinF m ws) (joinT M Ts)
 | [],[],_=>lxz_nil.lx
 | [w],[T],h=>h.1
 | w :: v :: ws,T :: U :: Ts,h=>by
  have hd1:Hd m:=by
   rcases hd with e | e
   ·exact absurd e h0
   ·exact e
  exact h.1.app (.inr (hd1.app _)) (hm.app (lxs_join hm hd h0 h.2))
 | [],_ :: _,h=>h.elim
 | _ :: _,[],h=>h.elim
 | [_],_ :: _ :: _,h=>h.2.elim
 | _ :: _ :: _,[_],h=>h.2.elim
theorem AllLx.nil {ws:List (List UInt8)} {Ts:List (List Tok)} (h:AllLx ws Ts):ws=[] ↔ Ts=[]:=by
 match ws,Ts,h with
 | [],[],_=>simp
 | _ :: _,_ :: _,_=>simp
theorem hd_open (r:List UInt8):Hd (40 :: r):=⟨40,r,rfl,rfl⟩
theorem sep_args (ws:List (List UInt8)):Sep (argsF ws):=by
 unfold argsF
 split
 ·exact .inl rfl
 ·exact .inr (hd_open _)
theorem lxs_args {ws:List (List UInt8)} {Ts:List (List Tok)} (h:AllLx ws Ts):Lxs (argsF ws) (argsT Ts):=by
 unfold argsF argsT
 by_cases hw:ws=[]
 ·rw [if_pos hw,if_pos (h.nil.1 hw)]
  exact lxz_nil.lx
 ·rw [if_neg hw,if_neg (fun e=>hw (h.nil.2 e))]
  have h1:=lxs_join lxz_comma (.inr ⟨44,[32],rfl,rfl⟩) (by simp) h
  exact ((lxz_mark 40 (by simp)).appz (h1.appz ⟨41,[],rfl,rfl⟩ (lxz_mark 41 (by simp)))).lx
/-! ### things -/
def tokOf (s:List UInt8):Tok:=(tokAt s).getD ⟨0,[],0⟩
def W (s:List UInt8):Prop:=WT s (tokOf s)
theorem W.of {s:List UInt8} {t:Tok} (h:WT s t):W s∧tokOf s=t:=by
 have e:tokOf s=t:=by unfold tokOf;rw [h.1];rfl
 exact ⟨by unfold W;rw [e];exact h,e⟩
mutual
def termK:TermT→List Tok
 | .mk k s z l=>tokOf (if k=2 then Lib.itoa z else s) :: argsT (termsK l)
def termsK:List TermT→List (List Tok)
 | []=>[]
 | x :: l=>termK x :: termsK l
end
mutual
def termW:TermT→Prop
 | .mk k s z l=>W (if k=2 then Lib.itoa z else s)∧termsW l
def termsW:List TermT→Prop
 | []=>True
 | x :: l=>termW x∧termsW l
end
mutual
theorem lxs_term:∀ t,termW t→Lxs (termF t) (termK t)
 | .mk k s z l,h=>by
  rw [termW] at h
  rw [termF,termK]
  exact (lxs_word h.1).app (sep_args _) (lxs_args (lxs_terms l h.2))
theorem lxs_terms:∀ l,termsW l→AllLx (termsF l) (termsK l)
 | [],_=>trivial
 | x :: l,h=>by
  rw [termsW] at h
  exact ⟨lxs_term x h.1,lxs_terms l h.2⟩
end
mutual
def typeK:TypeT→List Tok
 | .mk _ s l=>tokOf s :: argsT (typesK l)
def typesK:List TypeT→List (List Tok)
 | []=>[]
 | x :: l=>typeK x :: typesK l
end
mutual
def typeW:TypeT→Prop
 | .mk _ s l=>W s∧typesW l
def typesW:List TypeT→Prop
 | []=>True
 | x :: l=>typeW x∧typesW l
end
mutual
theorem lxs_type:∀ t,typeW t→Lxs (typeF t) (typeK t)
 | .mk k s l,h=>by
  rw [typeW] at h
  rw [typeF,typeK]
  exact (lxs_word h.1).app (sep_args _) (lxs_args (lxs_types l h.2))
theorem lxs_types:∀ l,typesW l→AllLx (typesF l) (typesK l)
 | [],_=>trivial
 | x :: l,h=>by
  rw [typesW] at h
  exact ⟨lxs_type x h.1,lxs_types l h.2⟩
end
def parenK (T:List Tok):List Tok:=mkT [40] :: (T++[mkT [41]])
theorem lxz_paren {s:List UInt8} {T:List Tok} (h:Lxs s T):Lxz (parenF s) (parenK T):=(lxz_mark 40 (by simp)).appz (h.appz ⟨41,[],rfl,rfl⟩ (lxz_mark 41 (by simp)))
def conjK (p:Int × List Tok):List Tok:=if p.1=6 then parenK p.2 else p.2
def primK (p:Int × List Tok):List Tok:=if p.1=5 then parenK p.2 else conjK p
def partK (G:List (Int × List Tok)) (i:Nat):List Tok:=match G[i]? with
 | some p=>primK p
 | none=>[]
def AllG:List (Int × List UInt8)→List (Int × List Tok)→Prop
 | [],[]=>True
 | w :: ws,T :: Ts=>(w.1=T.1∧Lxs w.2 T.2)∧AllG ws Ts
 | _,_=>False
theorem lxs_conj {p:Int × List UInt8} {q:Int × List Tok} (h:p.1=q.1∧Lxs p.2 q.2):Lxs (conjW p) (conjK q):=by
 unfold conjW conjK
 rw [h.1]
 split
 ·exact (lxz_paren h.2).lx
 ·exact h.2
theorem lxs_prim {p:Int × List UInt8} {q:Int × List Tok} (h:p.1=q.1∧Lxs p.2 q.2):Lxs (primW p) (primK q):=by
 unfold primW primK
 rw [h.1]
 split
 ·exact (lxz_paren h.2).lx
 ·exact lxs_conj h
theorem AllG.map {f:Int × List UInt8→List UInt8} {g:Int × List Tok→List Tok} (hf:∀ p q,(p.1=q.1∧Lxs p.2 q.2)→Lxs (f p) (g q)):∀ {ws:List (Int × List UInt8)} {Ts:List (Int × List Tok)},AllG ws Ts→AllLx (ws.map f) (Ts.map g)
 | [],[],_=>trivial
 | _ :: _,_ :: _,h=>⟨hf _ _ h.1,AllG.map hf h.2⟩
 | [],_ :: _,h=>h.elim
 | _ :: _,[],h=>h.elim
theorem lxs_part:∀ {ws:List (Int × List UInt8)} {Ts:List (Int × List Tok)},AllG ws Ts→∀ i,Lxs (partW ws i) (partK Ts i)
 | [],[],_,_=>lxz_nil.lx
 | _ :: _,_ :: _,h,0=>lxs_prim h.1
 | _ :: ws,_ :: Ts,h,i+1=>lxs_part h.2 i
 | [],_ :: _,h,_=>h.elim
 | _ :: _,[],h,_=>h.elim
def goalKW (k:Int) (a b:List Tok) (s:List UInt8) (l:List (List Tok)) (G:List (Int × List Tok)):List Tok :=
 if k=1 then [kwT [116,114,117,101]] else if k=2 then [kwT [102,97,105,108]] else if k=3 then a++(mkT [61] :: b) else if k=4 then tokOf s :: argsT l
 else if k=5 then joinT [mkT [44]] (G.map primK) else if k=6 then joinT [mkT [59]] (G.map conjK) else if k=7 then kwT [110,111,116] :: partK G 0
 else if k=8 then kwT [116,104,114,111,119] :: a else if k=9 then kwT [116,114,121] :: (partK G 0++(kwT [99,97,116,99,104] :: (tokOf s :: (kwT [116,104,101,110] :: partK G 1)))) else []
mutual
def goalK:GoalT→List Tok
 | .mk k a b s l gs=>goalKW k (termK a) (termK b) s (termsK l) (goalsK gs)
def goalsK:List GoalT→List (Int × List Tok)
 | []=>[]
 | g :: l=>(kindG g,goalK g) :: goalsK l
end
mutual
def goalW':GoalT→Prop
 | .mk k a b s l gs=>(k=3→termW a∧termW b)∧(k=4→W s∧termsW l)∧(k=8→termW a)∧(k=9→W s)∧goalsW' gs
def goalsW':List GoalT→Prop
 | []=>True
 | g :: l=>goalW' g∧goalsW' l
end
theorem wt_kw {s:List UInt8} (h:tokAt s=some (kwT s)):WT s (kwT s):=⟨h,rfl⟩
mutual
theorem lxs_goal:∀ g,goalW' g→Lxs (goalF g) (goalK g)
 | .mk k a b s l gs,h=>by
  rw [goalW'] at h
  obtain ⟨h3,h4,h8,h9,hg⟩:=h
  have HG:=lxs_goals gs hg
  rw [goalF,goalK]
  unfold goalW goalKW
  by_cases k1:k=1
  ·rw [if_pos k1,if_pos k1]
   exact lxs_word (wt_kw rfl)
  rw [if_neg k1,if_neg k1]
  by_cases k2:k=2
  ·rw [if_pos k2,if_pos k2]
   exact lxs_word (wt_kw rfl)
  rw [if_neg k2,if_neg k2]
  by_cases k3:k=3
  ·rw [if_pos k3,if_pos k3]
   exact (lxs_term a (h3 k3).1).app (.inr ((hd_bl [61,32]).app _)) (lxz_eq.app (lxs_term b (h3 k3).2))
  rw [if_neg k3,if_neg k3]
  by_cases k4:k=4
  ·rw [if_pos k4,if_pos k4]
   exact (lxs_word (h4 k4).1).app (sep_args _) (lxs_args (lxs_terms l (h4 k4).2))
  rw [if_neg k4,if_neg k4]
  by_cases k5:k=5
  ·rw [if_pos k5,if_pos k5]
   exact lxs_join lxz_comma (.inr ⟨44,[32],rfl,rfl⟩) (by simp) (AllG.map (fun _ _=>lxs_prim) HG)
  rw [if_neg k5,if_neg k5]
  by_cases k6:k=6
  ·rw [if_pos k6,if_pos k6]
   exact lxs_join lxz_semi (.inr (hd_bl _)) (by simp) (AllG.map (fun _ _=>lxs_conj) HG)
  rw [if_neg k6,if_neg k6]
  by_cases k7:k=7
  ·rw [if_pos k7,if_pos k7]
   exact (lxz_kw (s:=[110,111,116]) (wt_kw rfl)).app (lxs_part HG 0)
  rw [if_neg k7,if_neg k7]
  by_cases k8:k=8
  ·rw [if_pos k8,if_pos k8]
   exact (lxz_kw (s:=[116,104,114,111,119]) (wt_kw rfl)).app (lxs_term a (h8 k8))
  rw [if_neg k8,if_neg k8]
  by_cases k9:k=9
  ·rw [if_pos k9,if_pos k9]
   have hs:=lxs_word (h9 k9)
   have e1:=(lxz_kw2 (s:=[116,104,101,110]) (wt_kw rfl)).app (lxs_part HG 1)
   have e2:=hs.app (.inr ((hd_bl _).app _)) e1
   have e3:=(lxz_kw2 (s:=[99,97,116,99,104]) (wt_kw rfl)).app e2
   have e4:=(lxs_part HG 0).app (.inr ((hd_bl _).app _)) e3
   exact (lxz_kw (s:=[116,114,121]) (wt_kw rfl)).app e4
  rw [if_neg k9,if_neg k9]
  exact lxz_nil.lx
theorem lxs_goals:∀ l,goalsW' l→AllG (goalsF l) (goalsK l)
 | [],_=>trivial
 | g :: l,h=>by
  rw [goalsW'] at h
  exact ⟨⟨rfl,lxs_goal g h.1⟩,lxs_goals l h.2⟩
end
end Lx
end Go.Proofs.YtiljemkglhloeaaGreatDoor
namespace Go.Proofs.YtiljemkglhloeaaGreatDoor
set_option linter.unusedSimpArgs false
set_option linter.unusedVariables false
namespace Lx
open Go Go.RowKit
def GoodT (ts:List Tok):Prop:=∀ t ∈ ts,tokAt t.text=some t
theorem GoodT.peek {ts:List Tok} (h:GoodT ts) {k:Nat} (hk:k < ts.length):WT (peekT ts k).text (peekT ts k):=by
 unfold peekT
 rw [List.getElem?_eq_getElem hk]
 exact ⟨h _ (List.getElem_mem hk),rfl⟩
theorem GoodT.kind {ts:List Tok} (h:GoodT ts) {k:Nat} (hk:(peekT ts k).kind ≠ 0):WT (peekT ts k).text (peekT ts k):=h.peek (peek_kind hk)
theorem tok_numW {l:List UInt8} {t:Tok} (h:tokAt l=some t) (hk:t.kind=3):t.text=Lib.itoa t.num:=by
 cases l with
 | nil=>simp [tokAt] at h
 | cons c r =>
  have hw:∀ k:Int,k ≠ 3→wordTok k (c :: r)=some t→False:=by
   intro k h3 h
   unfold wordTok at h
   split at h
   ·simp only [Option.some.injEq] at h
    subst h
    exact h3 hk
   ·cases h
  simp only [tokAt] at h
  split at h
  ·exact (hw 1 (by decide) h).elim
  ·split at h
   ·exact (hw 2 (by decide) h).elim
   ·split at h
    ·unfold numTok at h
     split at h
     ·cases h
     ·split at h
      ·rename_i v hv
       simp only [Option.some.injEq] at h
       subst h
       exact (numOf_bounds hv).2.1.symm
      ·cases h
    ·exfalso
     unfold markTok at h
     split at h
     ·simp only [Option.some.injEq] at h
      subst h
      exact absurd hk (by decide)
     ·simp only at h
      split at h
      ·simp only [Option.some.injEq] at h
       subst h
       have hk:(4:Int)=3:=hk
       exact absurd hk (by decide)
      ·cases h
theorem nameO_W {ts:List Tok} (hS:GoodT ts) {k:Nat} {s:List UInt8} {k':Nat} (h:nameO ts k=.ok s k'):WT s (peekT ts k)∧k'=k+1∧(peekT ts k).kind=1∧resv (bs s).toList=false:=by
 unfold nameO at h
 split at h
 ·rename_i hc
  injection h with h1 h2
  subst h1
  exact ⟨hS.kind (by rw [hc.1];decide),h2.symm,hc.1,hc.2⟩
 ·cases h
end Lx
end Go.Proofs.YtiljemkglhloeaaGreatDoor
namespace Go.Proofs.YtiljemkglhloeaaGreatDoor
set_option linter.unusedSimpArgs false
set_option linter.unusedVariables false
namespace Lx
open Go Go.RowKit
end Lx
end Go.Proofs.YtiljemkglhloeaaGreatDoor
