/- What the reading of a text is at other places, and where more follows. No program stands in this text; no conditions. -/
/- The tokens of a thing's form, and that the form's text has just these tokens, whatever follows it. No program stands in this text but the things' form. Conditions: the thing's words are one token each. -/
/- The words of what is read are one token each. No program stands in this text but the things' form. Conditions: each token is one by itself. -/
/- What is read without brackets around goals has just the tokens that were read. No program stands in this text but the things' form. Conditions: each token is one by itself; no bracket stands but behind a name. -/
import Derived.Test.YtiljemkglhloeaaGreatDoorPlainA
import Derived.Test.YtiljemkglhloeaaGreatDoorPrFL
namespace Go.Proofs.YtiljemkglhloeaaGreatDoor
set_option linter.unusedSimpArgs false
set_option linter.unusedVariables false
namespace Lx
open Go
theorem lex_shiftX:∀ (f:Nat) (cm:Bool) (p q:Nat) (l:List UInt8),l.length≤f→(lex cm p l).1.map (·.2)=(lex cm q l).1.map (·.2)∧(lex cm p l).2=(lex cm q l).2
 | _,cm,p,q,[],_=>⟨rfl,rfl⟩
 | 0,_,_,_,c :: r,h=>by simp at h
 | f+1,true,p,q,c :: r,h=>by
  simp only [List.length_cons] at h
  rw [lex_cmt,lex_cmt]
  exact lex_shiftX f _ _ _ r (by omega)
 | f+1,false,p,q,c :: r,h=>by
  simp only [List.length_cons] at h
  by_cases hb:blkI (c.toNat:Int)=true
  ·rw [lex_blk _ _ _ hb,lex_blk _ _ _ hb]
   exact lex_shiftX f _ _ _ r (by omega)
  ·have hb':blkI (c.toNat:Int)=false:=by simpa using hb
   by_cases h37:((c.toNat:Int) == 37)=true
   ·rw [lex_pct _ _ _ hb' h37,lex_pct _ _ _ hb' h37]
    exact lex_shiftX f _ _ _ r (by omega)
   ·have h37':((c.toNat:Int) == 37)=false:=by simpa using h37
    cases ht:tokAt (c :: r) with
    | none=>rw [lex_bad _ _ _ hb' h37' ht,lex_bad _ _ _ hb' h37' ht];exact ⟨rfl,rfl⟩
    | some t =>
     have h1:=(tokAt_spec ht).2.1
     rw [lex_tok _ _ _ hb' h37' t ht,lex_tok _ _ _ hb' h37' t ht]
     have ih:=lex_shiftX f false (p+t.text.length) (q+t.text.length) ((c :: r).drop t.text.length) (by rw [List.length_drop,List.length_cons];omega)
     exact ⟨by simp only [List.map_cons];rw [ih.1],ih.2⟩
theorem runL_appX (p:Int→Bool) (d:UInt8) (h:p (d.toNat:Int)=false) (m:List UInt8):∀ l:List UInt8,runL p (l++d :: m)=runL p l
 | []=>by
  show (if p (d.toNat:Int) then runL p m+1 else 0)=0
  rw [h]
  rfl
 | c :: r=>by
  simp only [List.cons_append,runL]
  rw [runL_appX p d h m r]
theorem wordAt_appX (d:UInt8) (h:wordI (d.toNat:Int)=false) (l m:List UInt8) (n:Nat) (hn:n≤l.length):wordAt (l++d :: m) n=wordAt l n:=by
 unfold wordAt
 rcases Nat.lt_or_ge n l.length with h1 | h1
 ·rw [List.getElem?_append_left h1]
 ·obtain rfl:n=l.length:=by omega
  rw [List.getElem?_append_right (Nat.le_refl _),Nat.sub_self,List.getElem?_eq_none (Nat.le_refl _)]
  exact h
def endX (d:UInt8):Bool:=blkI (d.toNat:Int) || (d.toNat:Int) == 37
theorem endB_casesX {d:UInt8} (h:endX d=true):d=9 ∨ d=10 ∨ d=13 ∨ d=32 ∨ d=37:=by
 unfold endX blkI at h
 simp only [Bool.or_eq_true,beq_iff_eq] at h
 rcases h with (((h | h) | h) | h) | h
 ·exact .inl (UInt8.toNat_inj.1 (by show d.toNat=9;omega))
 ·exact .inr (.inl (UInt8.toNat_inj.1 (by show d.toNat=10;omega)))
 ·exact .inr (.inr (.inl (UInt8.toNat_inj.1 (by show d.toNat=13;omega))))
 ·exact .inr (.inr (.inr (.inl (UInt8.toNat_inj.1 (by show d.toNat=32;omega)))))
 ·exact .inr (.inr (.inr (.inr (UInt8.toNat_inj.1 (by show d.toNat=37;omega)))))
theorem tokAt_headX {c:UInt8} {r:List UInt8} {t:Tok} (h:tokAt (c :: r)=some t):blkI (c.toNat:Int)=false∧((c.toNat:Int) == 37)=false:=by
 rw [← Bool.or_eq_false_iff]
 show endX c=false
 cases he:endX c with
 | false=>rfl
 | true =>
  exfalso
  have hn:∀ (c:UInt8) (r:List UInt8),endX c=true→tokAt (c :: r)=none:=by
   intro c r hc
   rcases endB_casesX hc with rfl | rfl | rfl | rfl | rfl <;> (cases r <;> rfl)
  rw [hn c r he] at h
  cases h
end Lx
end Go.Proofs.YtiljemkglhloeaaGreatDoor
namespace Go.Proofs.YtiljemkglhloeaaGreatDoor
set_option linter.unusedSimpArgs false
set_option linter.unusedVariables false
namespace Lx
open Go Go.RowKit
/-- A byte that goes on with no token. -/
def sepB (d:UInt8):Bool:=!wordI (d.toNat:Int) && !digI (d.toNat:Int) && !((d.toNat:Int) == 45)
theorem tokAt_sep {l:List UInt8} {t:Tok} (h:tokAt l=some t) (d:UInt8) (hd:sepB d=true) (m:List UInt8):tokAt (l++d :: m)=some t:=by
 obtain ⟨⟨d1,d2⟩,d3⟩:(wordI (d.toNat:Int)=false∧digI (d.toNat:Int)=false)∧((d.toNat:Int) == 45)=false:=by
  simpa only [sepB,Bool.and_eq_true,Bool.not_eq_true'] using hd
 cases l with
 | nil=>simp [tokAt] at h
 | cons c r =>
  have hw:∀ k,wordTok k (c :: r++d :: m)=wordTok k (c :: r):=by
   intro k
   have h1:=runL_le wordI r
   have h2:runL wordI (c :: r++d :: m).tail=runL wordI (c :: r).tail:=runL_appX wordI d d1 m r
   unfold wordTok
   rw [h2,List.take_append_of_le_length (by simp only [List.length_cons,List.tail_cons];omega)]
  have hn:numTok (c :: r++d :: m)=numTok (c :: r):=by
   have h1:numLen (c :: r++d :: m)=numLen (c :: r):=by
    simp only [numLen,List.cons_append,List.tail_cons]
    rw [runL_appX digI d d2 m r]
   have h2:=numLen_le (l:=c :: r) (by simp)
   unfold numTok
   rw [h1,wordAt_appX d d1 _ _ _ h2,List.take_append_of_le_length h2]
  have ha:arrow (c :: r++d :: m)=arrow (c :: r):=by
   cases r with
   | nil =>
    show ((c.toNat:Int) == 58 && (d.toNat:Int) == 45)=false
    rw [d3,Bool.and_false]
   | cons d r=>rfl
  have hm:markTok (c :: r++d :: m)=markTok (c :: r):=by
   unfold markTok
   rw [ha]
   rfl
  have e:tokAt (c :: r++d :: m)=tokAt (c :: r):=by
   show (if lowI (c.toNat:Int)=true then wordTok 1 (c :: r++d :: m) else if (upI (c.toNat:Int) || (c.toNat:Int) == 95)=true then wordTok 2 (c :: r++d :: m) else if (digI (c.toNat:Int) || (c.toNat:Int) == 45)=true then numTok (c :: r++d :: m) else markTok (c :: r++d :: m))=_
   rw [hw,hw,hn,hm]
   rfl
  rw [e,h]
def Hd (r:List UInt8):Prop:=∃ d m,r=d :: m∧sepB d=true
def Sep (r:List UInt8):Prop:=r=[] ∨ Hd r
theorem Hd.app {a:List UInt8} (h:Hd a) (b:List UInt8):Hd (a++b):=by
 obtain ⟨d,m,rfl,hd⟩:=h
 exact ⟨d,m++b,rfl,hd⟩
theorem Sep.app {a b:List UInt8} (h:Sep a) (hb:Sep b):Sep (a++b):=by
 rcases h with rfl | h
 ·exact hb
 ·exact .inr (h.app b)
theorem toks_tok {s r:List UInt8} {t:Tok} (h:tokAt (s++r)=some t) (ht:t.text=s):toks (s++r)=t :: toks r∧whole (s++r)=whole r:=by
 have hlen:=(tokAt_spec h).2.1
 obtain ⟨c,q,hs⟩:∃ c q,s=c :: q:=by
  cases s with
  | nil=>rw [ht] at hlen;simp at hlen
  | cons c q=>exact ⟨c,q,rfl⟩
 have e:s++r=c :: (q++r):=by rw [hs];rfl
 have h0:=h
 rw [e] at h
 obtain ⟨g1,g2⟩:=tokAt_headX h
 have hl:=lex_tok 0 c (q++r) g1 g2 t h
 rw [← e,ht,List.drop_left] at hl
 have hsh:=lex_shiftX r.length false (0+s.length) 0 r (Nat.le_refl _)
 unfold toks whole
 rw [hl]
 exact ⟨by rw [List.map_cons,hsh.1],hsh.2⟩
theorem toks_blk (c:UInt8) (r:List UInt8) (h:blkI (c.toNat:Int)=true):toks (c :: r)=toks r∧whole (c :: r)=whole r:=by
 have hsh:=lex_shiftX r.length false (0+1) 0 r (Nat.le_refl _)
 unfold toks whole
 rw [lex_blk 0 c r h]
 exact hsh
/-- The text has these tokens where what follows goes on with none; and whatever follows. -/
def Lxs (l:List UInt8) (T:List Tok):Prop:=∀ r,Sep r→toks (l++r)=T++toks r∧whole (l++r)=whole r
def Lxz (l:List UInt8) (T:List Tok):Prop:=∀ r,toks (l++r)=T++toks r∧whole (l++r)=whole r
theorem Lxz.lx {l:List UInt8} {T:List Tok} (h:Lxz l T):Lxs l T:=fun r _=>h r
theorem lxz_nil:Lxz [] []:=fun _=>⟨rfl,rfl⟩
theorem Lxz.app {a b:List UInt8} {T U:List Tok} (h:Lxz a T) (k:Lxs b U):Lxs (a++b) (T++U):=fun r hr=>by
 obtain ⟨h1,h2⟩:=h (b++r)
 obtain ⟨k1,k2⟩:=k r hr
 rw [List.append_assoc,List.append_assoc,h1,h2,k1,k2]
 exact ⟨rfl,rfl⟩
theorem Lxz.appz {a b:List UInt8} {T U:List Tok} (h:Lxz a T) (k:Lxz b U):Lxz (a++b) (T++U):=fun r=>by
 obtain ⟨h1,h2⟩:=h (b++r)
 obtain ⟨k1,k2⟩:=k r
 rw [List.append_assoc,List.append_assoc,h1,h2,k1,k2]
 exact ⟨rfl,rfl⟩
theorem Lxs.app {a b:List UInt8} {T U:List Tok} (h:Lxs a T) (hb:Sep b) (k:Lxs b U):Lxs (a++b) (T++U):=fun r hr=>by
 obtain ⟨h1,h2⟩:=h (b++r) (hb.app hr)
 obtain ⟨k1,k2⟩:=k r hr
 rw [List.append_assoc,List.append_assoc,h1,h2,k1,k2]
 exact ⟨rfl,rfl⟩
theorem Lxs.appz {a b:List UInt8} {T U:List Tok} (h:Lxs a T) (hb:Hd b) (k:Lxz b U):Lxz (a++b) (T++U):=fun r=>by
 obtain ⟨h1,h2⟩:=h (b++r) (.inr (hb.app r))
 obtain ⟨k1,k2⟩:=k r
 rw [List.append_assoc,List.append_assoc,h1,h2,k1,k2]
 exact ⟨rfl,rfl⟩
def WT (s:List UInt8) (t:Tok):Prop:=tokAt s=some t∧t.text=s
theorem lxs_word {s:List UInt8} {t:Tok} (h:WT s t):Lxs s [t]:=fun r hr=>by
 rcases hr with rfl | ⟨d,m,rfl,hd⟩
 ·have:=toks_tok (s:=s) (r:=[]) (by rw [List.append_nil];exact h.1) h.2
  exact this
 ·exact toks_tok (tokAt_sep h.1 d hd m) h.2
def mkT (s:List UInt8):Tok:=⟨4,s,0⟩
def kwT (s:List UInt8):Tok:=⟨1,s,0⟩
theorem markAt (c:UInt8) (r:List UInt8) (h:c=40 ∨ c=41 ∨ c=44 ∨ c=46 ∨ c=59 ∨ c=61 ∨ c=124):tokAt (c :: r)=some (mkT [c]):=by
 rcases h with rfl | rfl | rfl | rfl | rfl | rfl | rfl <;> cases r <;> rfl
theorem lxz_mark (c:UInt8) (h:c=40 ∨ c=41 ∨ c=44 ∨ c=46 ∨ c=59 ∨ c=61 ∨ c=124):Lxz [c] [mkT [c]]:=fun r=>toks_tok (s:=[c]) (markAt c r h) rfl
theorem lxz_arrow:Lxz [58,45] [mkT [58,45]]:=fun r=>toks_tok (s:=[58,45]) (t:=mkT [58,45]) rfl rfl
theorem lxz_blk (c:UInt8) (h:blkI (c.toNat:Int)=true):Lxz [c] []:=fun r=>toks_blk c r h
theorem lxz_bl:Lxz [32] []:=lxz_blk 32 rfl
theorem hd_bl (r:List UInt8):Hd (32 :: r):=⟨32,r,rfl,rfl⟩
theorem lxz_comma:Lxz [44,32] [mkT [44]]:=(lxz_mark 44 (by simp)).appz lxz_bl
theorem lxz_semi:Lxz [32,59,32] [mkT [59]]:=(lxz_bl.appz (lxz_mark 59 (by simp))).appz lxz_bl
theorem lxz_eq:Lxz [32,61,32] [mkT [61]]:=(lxz_bl.appz (lxz_mark 61 (by simp))).appz lxz_bl
theorem lxz_bar:Lxz [32,124,32] [mkT [124]]:=(lxz_bl.appz (lxz_mark 124 (by simp))).appz lxz_bl
theorem lxz_if:Lxz [32,58,45,32] [mkT [58,45]]:=(lxz_bl.appz lxz_arrow).appz lxz_bl
theorem lxz_dot:Lxz [46,10] [mkT [46]]:=(lxz_mark 46 (by simp)).appz (lxz_blk 10 rfl)
theorem lxz_kw {s:List UInt8} (h:WT s (kwT s)):Lxz (s++[32]) [kwT s]:=(lxs_word h).appz (hd_bl []) lxz_bl
theorem lxz_kw2 {s:List UInt8} (h:WT s (kwT s)):Lxz ([32]++(s++[32])) [kwT s]:=lxz_bl.appz (lxz_kw h)
/-! ### rows -/
def joinT (M:List Tok):List (List Tok)→List Tok
 | []=>[]
 | [x]=>x
 | x :: y :: l=>x++(M++joinT M (y :: l))
def argsT (Ts:List (List Tok)):List Tok:=if Ts=[] then [] else mkT [40] :: (joinT [mkT [44]] Ts++[mkT [41]])
def AllLx:List (List UInt8)→List (List Tok)→Prop
 | [],[]=>True
 | w :: ws,T :: Ts=>Lxs w T∧AllLx ws Ts
 | _,_=>False
theorem AllLx.map {α:Type} {f:α→List UInt8} {g:α→List Tok}:∀ {l:List α},(∀ x ∈ l,Lxs (f x) (g x))→AllLx (l.map f) (l.map g)
 | [],_=>trivial
 | x :: l,h=>⟨h x (by simp),AllLx.map (fun y hy=>h y (by simp [hy]))⟩
theorem lxs_join {m:List UInt8} {M:List Tok} (hm:Lxz m M) (hd:m=[] ∨ Hd m) (h0:m ≠ []):∀ {ws:List (List UInt8)} {Ts:List (List Tok)},AllLx ws Ts→Lxs (joinF m ws) (joinT M Ts)
 | [],[],_=>lxz_nil.lx
 | [w],[T],h=>h.1
 | w :: v :: ws,T :: U :: Ts,h=>by
  have hd1:Hd m:=by
   rcases hd with e | e
   ·exact absurd e h0
   ·exact e
  exact h.1.app (.inr (hd1.app _)) (hm.app (lxs_join hm hd h0 h.2))
 | [],_ :: _,h=>h.elim
 | _ :: _,[],h=>h.elim
 | [_],_ :: _ :: _,h=>h.2.elim
 | _ :: _ :: _,[_],h=>h.2.elim
theorem AllLx.nil {ws:List (List UInt8)} {Ts:List (List Tok)} (h:AllLx ws Ts):ws=[] ↔ Ts=[]:=by
 match ws,Ts,h with
 | [],[],_=>simp
 | _ :: _,_ :: _,_=>simp
theorem hd_open (r:List UInt8):Hd (40 :: r):=⟨40,r,rfl,rfl⟩
theorem sep_args (ws:List (List UInt8)):Sep (argsF ws):=by
 unfold argsF
 split
 ·exact .inl rfl
 ·exact .inr (hd_open _)
theorem lxs_args {ws:List (List UInt8)} {Ts:List (List Tok)} (h:AllLx ws Ts):Lxs (argsF ws) (argsT Ts):=by
 unfold argsF argsT
 by_cases hw:ws=[]
 ·rw [if_pos hw,if_pos (h.nil.1 hw)]
  exact lxz_nil.lx
 ·rw [if_neg hw,if_neg (fun e=>hw (h.nil.2 e))]
  have h1:=lxs_join lxz_comma (.inr ⟨44,[32],rfl,rfl⟩) (by simp) h
  exact ((lxz_mark 40 (by simp)).appz (h1.appz ⟨41,[],rfl,rfl⟩ (lxz_mark 41 (by simp)))).lx
/-! ### things -/
def tokOf (s:List UInt8):Tok:=(tokAt s).getD ⟨0,[],0⟩
def W (s:List UInt8):Prop:=WT s (tokOf s)
theorem W.of {s:List UInt8} {t:Tok} (h:WT s t):W s∧tokOf s=t:=by
 have e:tokOf s=t:=by unfold tokOf;rw [h.1];rfl
 exact ⟨by unfold W;rw [e];exact h,e⟩
mutual
def termK:TermT→List Tok
 | .mk k s z l=>tokOf (if k=2 then Lib.itoa z else s) :: argsT (termsK l)
def termsK:List TermT→List (List Tok)
 | []=>[]
 | x :: l=>termK x :: termsK l
end
mutual
def termW:TermT→Prop
 | .mk k s z l=>W (if k=2 then Lib.itoa z else s)∧termsW l
def termsW:List TermT→Prop
 | []=>True
 | x :: l=>termW x∧termsW l
end
theorem termsW_iff:∀ l,termsW l ↔ ∀ x ∈ l,termW x
 | []=>by simp [termsW]
 | x :: l=>by rw [termsW,termsW_iff l];simp
theorem termsK_map:∀ l,termsK l=l.map termK
 | []=>rfl
 | x :: l=>by rw [termsK,termsK_map l];rfl
mutual
theorem lxs_term:∀ t,termW t→Lxs (termF t) (termK t)
 | .mk k s z l,h=>by
  rw [termW] at h
  rw [termF,termK]
  exact (lxs_word h.1).app (sep_args _) (lxs_args (lxs_terms l h.2))
theorem lxs_terms:∀ l,termsW l→AllLx (termsF l) (termsK l)
 | [],_=>trivial
 | x :: l,h=>by
  rw [termsW] at h
  exact ⟨lxs_term x h.1,lxs_terms l h.2⟩
end
mutual
def typeK:TypeT→List Tok
 | .mk _ s l=>tokOf s :: argsT (typesK l)
def typesK:List TypeT→List (List Tok)
 | []=>[]
 | x :: l=>typeK x :: typesK l
end
mutual
def typeW:TypeT→Prop
 | .mk _ s l=>W s∧typesW l
def typesW:List TypeT→Prop
 | []=>True
 | x :: l=>typeW x∧typesW l
end
theorem typesW_iff:∀ l,typesW l ↔ ∀ x ∈ l,typeW x
 | []=>by simp [typesW]
 | x :: l=>by rw [typesW,typesW_iff l];simp
theorem typesK_map:∀ l,typesK l=l.map typeK
 | []=>rfl
 | x :: l=>by rw [typesK,typesK_map l];rfl
mutual
theorem lxs_type:∀ t,typeW t→Lxs (typeF t) (typeK t)
 | .mk k s l,h=>by
  rw [typeW] at h
  rw [typeF,typeK]
  exact (lxs_word h.1).app (sep_args _) (lxs_args (lxs_types l h.2))
theorem lxs_types:∀ l,typesW l→AllLx (typesF l) (typesK l)
 | [],_=>trivial
 | x :: l,h=>by
  rw [typesW] at h
  exact ⟨lxs_type x h.1,lxs_types l h.2⟩
end
def parenK (T:List Tok):List Tok:=mkT [40] :: (T++[mkT [41]])
theorem lxz_paren {s:List UInt8} {T:List Tok} (h:Lxs s T):Lxz (parenF s) (parenK T):=(lxz_mark 40 (by simp)).appz (h.appz ⟨41,[],rfl,rfl⟩ (lxz_mark 41 (by simp)))
def conjK (p:Int × List Tok):List Tok:=if p.1=6 then parenK p.2 else p.2
def primK (p:Int × List Tok):List Tok:=if p.1=5 then parenK p.2 else conjK p
def partK (G:List (Int × List Tok)) (i:Nat):List Tok:=match G[i]? with
 | some p=>primK p
 | none=>[]
def AllG:List (Int × List UInt8)→List (Int × List Tok)→Prop
 | [],[]=>True
 | w :: ws,T :: Ts=>(w.1=T.1∧Lxs w.2 T.2)∧AllG ws Ts
 | _,_=>False
theorem lxs_conj {p:Int × List UInt8} {q:Int × List Tok} (h:p.1=q.1∧Lxs p.2 q.2):Lxs (conjW p) (conjK q):=by
 unfold conjW conjK
 rw [h.1]
 split
 ·exact (lxz_paren h.2).lx
 ·exact h.2
theorem lxs_prim {p:Int × List UInt8} {q:Int × List Tok} (h:p.1=q.1∧Lxs p.2 q.2):Lxs (primW p) (primK q):=by
 unfold primW primK
 rw [h.1]
 split
 ·exact (lxz_paren h.2).lx
 ·exact lxs_conj h
theorem AllG.map {f:Int × List UInt8→List UInt8} {g:Int × List Tok→List Tok} (hf:∀ p q,(p.1=q.1∧Lxs p.2 q.2)→Lxs (f p) (g q)):∀ {ws:List (Int × List UInt8)} {Ts:List (Int × List Tok)},AllG ws Ts→AllLx (ws.map f) (Ts.map g)
 | [],[],_=>trivial
 | _ :: _,_ :: _,h=>⟨hf _ _ h.1,AllG.map hf h.2⟩
 | [],_ :: _,h=>h.elim
 | _ :: _,[],h=>h.elim
theorem lxs_part:∀ {ws:List (Int × List UInt8)} {Ts:List (Int × List Tok)},AllG ws Ts→∀ i,Lxs (partW ws i) (partK Ts i)
 | [],[],_,_=>lxz_nil.lx
 | _ :: _,_ :: _,h,0=>lxs_prim h.1
 | _ :: ws,_ :: Ts,h,i+1=>lxs_part h.2 i
 | [],_ :: _,h,_=>h.elim
 | _ :: _,[],h,_=>h.elim
def goalKW (k:Int) (a b:List Tok) (s:List UInt8) (l:List (List Tok)) (G:List (Int × List Tok)):List Tok :=
 if k=1 then [kwT [116,114,117,101]] else if k=2 then [kwT [102,97,105,108]] else if k=3 then a++(mkT [61] :: b) else if k=4 then tokOf s :: argsT l
 else if k=5 then joinT [mkT [44]] (G.map primK) else if k=6 then joinT [mkT [59]] (G.map conjK) else if k=7 then kwT [110,111,116] :: partK G 0
 else if k=8 then kwT [116,104,114,111,119] :: a else if k=9 then kwT [116,114,121] :: (partK G 0++(kwT [99,97,116,99,104] :: (tokOf s :: (kwT [116,104,101,110] :: partK G 1)))) else []
mutual
def goalK:GoalT→List Tok
 | .mk k a b s l gs=>goalKW k (termK a) (termK b) s (termsK l) (goalsK gs)
def goalsK:List GoalT→List (Int × List Tok)
 | []=>[]
 | g :: l=>(kindG g,goalK g) :: goalsK l
end
theorem goalsK_map:∀ l,goalsK l=l.map fun g=>(kindG g,goalK g)
 | []=>rfl
 | x :: l=>by rw [goalsK,goalsK_map l];rfl
mutual
def goalW':GoalT→Prop
 | .mk k a b s l gs=>(k=3→termW a∧termW b)∧(k=4→W s∧termsW l)∧(k=8→termW a)∧(k=9→W s)∧goalsW' gs
def goalsW':List GoalT→Prop
 | []=>True
 | g :: l=>goalW' g∧goalsW' l
end
theorem goalsW_iff:∀ l,goalsW' l ↔ ∀ x ∈ l,goalW' x
 | []=>by simp [goalsW']
 | x :: l=>by rw [goalsW',goalsW_iff l];simp
theorem wt_kw {s:List UInt8} (h:tokAt s=some (kwT s)):WT s (kwT s):=⟨h,rfl⟩
mutual
theorem lxs_goal:∀ g,goalW' g→Lxs (goalF g) (goalK g)
 | .mk k a b s l gs,h=>by
  rw [goalW'] at h
  obtain ⟨h3,h4,h8,h9,hg⟩:=h
  have HG:=lxs_goals gs hg
  rw [goalF,goalK]
  unfold goalW goalKW
  by_cases k1:k=1
  ·rw [if_pos k1,if_pos k1]
   exact lxs_word (wt_kw rfl)
  rw [if_neg k1,if_neg k1]
  by_cases k2:k=2
  ·rw [if_pos k2,if_pos k2]
   exact lxs_word (wt_kw rfl)
  rw [if_neg k2,if_neg k2]
  by_cases k3:k=3
  ·rw [if_pos k3,if_pos k3]
   exact (lxs_term a (h3 k3).1).app (.inr ((hd_bl [61,32]).app _)) (lxz_eq.app (lxs_term b (h3 k3).2))
  rw [if_neg k3,if_neg k3]
  by_cases k4:k=4
  ·rw [if_pos k4,if_pos k4]
   exact (lxs_word (h4 k4).1).app (sep_args _) (lxs_args (lxs_terms l (h4 k4).2))
  rw [if_neg k4,if_neg k4]
  by_cases k5:k=5
  ·rw [if_pos k5,if_pos k5]
   exact lxs_join lxz_comma (.inr ⟨44,[32],rfl,rfl⟩) (by simp) (AllG.map (fun _ _=>lxs_prim) HG)
  rw [if_neg k5,if_neg k5]
  by_cases k6:k=6
  ·rw [if_pos k6,if_pos k6]
   exact lxs_join lxz_semi (.inr (hd_bl _)) (by simp) (AllG.map (fun _ _=>lxs_conj) HG)
  rw [if_neg k6,if_neg k6]
  by_cases k7:k=7
  ·rw [if_pos k7,if_pos k7]
   exact (lxz_kw (s:=[110,111,116]) (wt_kw rfl)).app (lxs_part HG 0)
  rw [if_neg k7,if_neg k7]
  by_cases k8:k=8
  ·rw [if_pos k8,if_pos k8]
   exact (lxz_kw (s:=[116,104,114,111,119]) (wt_kw rfl)).app (lxs_term a (h8 k8))
  rw [if_neg k8,if_neg k8]
  by_cases k9:k=9
  ·rw [if_pos k9,if_pos k9]
   have hs:=lxs_word (h9 k9)
   have e1:=(lxz_kw2 (s:=[116,104,101,110]) (wt_kw rfl)).app (lxs_part HG 1)
   have e2:=hs.app (.inr ((hd_bl _).app _)) e1
   have e3:=(lxz_kw2 (s:=[99,97,116,99,104]) (wt_kw rfl)).app e2
   have e4:=(lxs_part HG 0).app (.inr ((hd_bl _).app _)) e3
   exact (lxz_kw (s:=[116,114,121]) (wt_kw rfl)).app e4
  rw [if_neg k9,if_neg k9]
  exact lxz_nil.lx
theorem lxs_goals:∀ l,goalsW' l→AllG (goalsF l) (goalsK l)
 | [],_=>trivial
 | g :: l,h=>by
  rw [goalsW'] at h
  exact ⟨⟨rfl,lxs_goal g h.1⟩,lxs_goals l h.2⟩
end
def ctorK:CtorT→List Tok
 | .mk n l=>tokOf n :: argsT (typesK l)
def ctorW:CtorT→Prop
 | .mk n l=>W n∧typesW l
theorem lxs_ctor:∀ c,ctorW c→Lxs (ctorF c) (ctorK c)
 | .mk n l,h=>(lxs_word h.1).app (sep_args _) (lxs_args (lxs_types l h.2))
def wayK (b:Bool):List Tok:=if b=true then [kwT [105,110]] else [kwT [111,117,116]]
theorem lxs_way (b:Bool):Lxs (wayF b) (wayK b):=by
 cases b
 ·exact lxs_word (wt_kw rfl)
 ·exact lxs_word (wt_kw rfl)
def detK (d:Int):List Tok:=if d=1 then [kwT [100,101,116]] else if d=2 then [kwT [115,101,109,105,100,101,116]] else if d=3 then [kwT [109,117,108,116,105]] else if d=4 then [kwT [110,111,110,100,101,116]] else []
theorem lxs_det (d:Int):Lxs (detF d) (detK d):=by
 unfold detF detK
 split
 ·exact lxs_word (wt_kw rfl)
 ·split
  ·exact lxs_word (wt_kw rfl)
  ·split
   ·exact lxs_word (wt_kw rfl)
   ·split
    ·exact lxs_word (wt_kw rfl)
    ·exact lxz_nil.lx
def bodyK (g:GoalT):List Tok:=if kindG g=1 then [] else mkT [58,45] :: goalK g
theorem lxs_body (g:GoalT) (h:goalW' g):Lxs (bodyF g) (bodyK g)∧Sep (bodyF g):=by
 unfold bodyF bodyK
 split
 ·exact ⟨lxz_nil.lx,.inl rfl⟩
 ·exact ⟨lxz_if.app (lxs_goal g h),.inr ((hd_bl _).app _)⟩
def itemK (x:ItemT):List Tok :=
 (if x.kind=1 then kwT [116,121,112,101] :: (tokOf x.name :: (argsT (x.vars.map fun v=>[tokOf v])++(mkT [61] :: joinT [mkT [124]] (x.ctors.map ctorK))))
  else if x.kind=2 then kwT [112,114,101,100] :: (tokOf x.name :: argsT (typesK x.types))
  else if x.kind=3 then kwT [109,111,100,101] :: (tokOf x.name :: (argsT (x.ins.map wayK)++(kwT [105,115] :: detK x.det)))
  else if x.kind=4 then tokOf x.name :: (argsT (termsK x.args)++bodyK x.body) else [])++[mkT [46]]
def itemW (x:ItemT):Prop:=(x.kind=1 ∨ x.kind=2 ∨ x.kind=3 ∨ x.kind=4→W x.name)∧(∀ v ∈ x.vars,W v)∧(∀ c ∈ x.ctors,ctorW c)∧typesW x.types∧termsW x.args∧goalW' x.body
theorem hd_dot:Hd [46,10]:=⟨46,[10],rfl,rfl⟩
theorem lxz_item (x:ItemT) (h:itemW x):Lxz (itemF x) (itemK x):=by
 obtain ⟨hn,hv,hc,ht,ha,hb⟩:=h
 unfold itemF itemK
 refine Lxs.appz ?_ hd_dot lxz_dot
 by_cases k1:x.kind=1
 ·rw [if_pos k1,if_pos k1]
  have e1:=lxs_join lxz_bar (.inr (hd_bl _)) (by simp) (AllLx.map (f:=ctorF) (g:=ctorK) (l:=x.ctors) (fun c hc2=>lxs_ctor c (hc c hc2)))
  have e2:=lxs_args (AllLx.map (f:=fun v=>v) (g:=fun v=>[tokOf v]) (l:=x.vars) (fun v hv2=>lxs_word (hv v hv2)))
  rw [List.map_id'] at e2
  have e3:=e2.app (.inr ((hd_bl _).app _)) (lxz_eq.app e1)
  have e4:=(lxs_word (hn (.inl k1))).app ((sep_args _).app (.inr ((hd_bl _).app _))) e3
  exact (lxz_kw (s:=[116,121,112,101]) (wt_kw rfl)).app e4
 rw [if_neg k1,if_neg k1]
 by_cases k2:x.kind=2
 ·rw [if_pos k2,if_pos k2]
  have e4:=(lxs_word (hn (.inr (.inl k2)))).app (sep_args _) (lxs_args (lxs_types x.types ht))
  exact (lxz_kw (s:=[112,114,101,100]) (wt_kw rfl)).app e4
 rw [if_neg k2,if_neg k2]
 by_cases k3:x.kind=3
 ·rw [if_pos k3,if_pos k3]
  have e1:=(lxz_kw2 (s:=[105,115]) (wt_kw rfl)).app (lxs_det x.det)
  have e2:=(lxs_args (AllLx.map (f:=wayF) (g:=wayK) (l:=x.ins) (fun b _=>lxs_way b))).app (.inr ((hd_bl _).app _)) e1
  have e4:=(lxs_word (hn (.inr (.inr (.inl k3))))).app ((sep_args _).app (.inr ((hd_bl _).app _))) e2
  exact (lxz_kw (s:=[109,111,100,101]) (wt_kw rfl)).app e4
 rw [if_neg k3,if_neg k3]
 by_cases k4:x.kind=4
 ·rw [if_pos k4,if_pos k4]
  have hb2:=lxs_body x.body hb
  have e1:=(lxs_args (lxs_terms x.args ha)).app hb2.2 hb2.1
  exact (lxs_word (hn (.inr (.inr (.inr k4))))).app ((sep_args _).app hb2.2) e1
 rw [if_neg k4,if_neg k4]
 exact lxz_nil.lx
def sourceK (l:List ItemT):List Tok:=(l.map itemK).flatten
theorem lxz_source:∀ (l:List ItemT),(∀ x ∈ l,itemW x)→Lxz (sourceF l) (sourceK l)
 | [],_=>lxz_nil
 | x :: l,h=>by
  have ih:=lxz_source l (fun y hy=>h y (by simp [hy]))
  unfold sourceF at ih ⊢
  rw [joinF_nil] at ih ⊢
  exact (lxz_item x (h x (by simp))).appz ih
/-- The tokens of the printed text. -/
theorem source_toks (l:List ItemT) (h:∀ x ∈ l,itemW x):toks (sourceF l)=sourceK l∧whole (sourceF l)=true:=by
 have e:=lxz_source l h []
 rw [List.append_nil] at e
 exact ⟨by rw [e.1];simp [toks,lex_nil],by rw [e.2];rfl⟩
end Lx
end Go.Proofs.YtiljemkglhloeaaGreatDoor
namespace Go.Proofs.YtiljemkglhloeaaGreatDoor
set_option linter.unusedSimpArgs false
set_option linter.unusedVariables false
namespace Lx
open Go Go.RowKit
def GoodT (ts:List Tok):Prop:=∀ t ∈ ts,tokAt t.text=some t
theorem GoodT.peek {ts:List Tok} (h:GoodT ts) {k:Nat} (hk:k < ts.length):WT (peekT ts k).text (peekT ts k):=by
 unfold peekT
 rw [List.getElem?_eq_getElem hk]
 exact ⟨h _ (List.getElem_mem hk),rfl⟩
theorem GoodT.kind {ts:List Tok} (h:GoodT ts) {k:Nat} (hk:(peekT ts k).kind ≠ 0):WT (peekT ts k).text (peekT ts k):=h.peek (peek_kind hk)
theorem tok_numW {l:List UInt8} {t:Tok} (h:tokAt l=some t) (hk:t.kind=3):t.text=Lib.itoa t.num:=by
 cases l with
 | nil=>simp [tokAt] at h
 | cons c r =>
  have hw:∀ k:Int,k ≠ 3→wordTok k (c :: r)=some t→False:=by
   intro k h3 h
   unfold wordTok at h
   split at h
   ·simp only [Option.some.injEq] at h
    subst h
    exact h3 hk
   ·cases h
  simp only [tokAt] at h
  split at h
  ·exact (hw 1 (by decide) h).elim
  ·split at h
   ·exact (hw 2 (by decide) h).elim
   ·split at h
    ·unfold numTok at h
     split at h
     ·cases h
     ·split at h
      ·rename_i v hv
       simp only [Option.some.injEq] at h
       subst h
       exact (numOf_bounds hv).2.1.symm
      ·cases h
    ·exfalso
     unfold markTok at h
     split at h
     ·simp only [Option.some.injEq] at h
      subst h
      exact absurd hk (by decide)
     ·simp only at h
      split at h
      ·simp only [Option.some.injEq] at h
       subst h
       have hk:(4:Int)=3:=hk
       exact absurd hk (by decide)
      ·cases h
theorem nameO_W {ts:List Tok} (hS:GoodT ts) {k:Nat} {s:List UInt8} {k':Nat} (h:nameO ts k=.ok s k'):WT s (peekT ts k)∧k'=k+1∧(peekT ts k).kind=1∧resv (bs s).toList=false:=by
 unfold nameO at h
 split at h
 ·rename_i hc
  injection h with h1 h2
  subst h1
  exact ⟨hS.kind (by rw [hc.1];decide),h2.symm,hc.1,hc.2⟩
 ·cases h
theorem varO_W {ts:List Tok} (hS:GoodT ts) {k:Nat} {s:List UInt8} {k':Nat} (h:varO ts k=.ok s k'):WT s (peekT ts k)∧k'=k+1:=by
 unfold varO at h
 split at h
 ·rename_i hc
  injection h with h1 h2
  subst h1
  exact ⟨hS.kind (by rw [hc];decide),h2.symm⟩
 ·cases h
theorem termO_W {ts:List Tok} (hS:GoodT ts):∀ (m:Nat) (ne:Int),Gives (termO ts m ne) termW
 | 0,_,_,_,_,h=>by simp [termO] at h
 | m+1,ne,k,x,k',h=>by
  rw [termO] at h
  split at h
  ·cases h
  ·split at h
   ·rename_i hk
    injection h with h1 h2
    subst h1
    rw [termW]
    exact ⟨(W.of (hS.kind (by rw [hk];decide))).1,by simp [termsW]⟩
   ·split at h
    ·rename_i hk
     have hp:=hS.kind (ts:=ts) (k:=k) (by rw [hk];decide)
     have hn:=tok_numW hp.1 hk
     injection h with h1 h2
     subst h1
     rw [termW,if_pos rfl,← hn]
     exact ⟨(W.of hp).1,by simp [termsW]⟩
    ·split at h
     ·cases h
     ·rename_i s k1 e1
      have h1:=nameO_W hS e1
      split at h
      ·cases h
      ·rename_i l k2 he2
       have h2:=argsO_gives (termO_W hS m (ne+1)) he2
       injection h with h3 h4
       subst h3
       rw [termW,termsW_iff]
       exact ⟨(W.of h1.1).1,h2⟩
theorem typeO_W {ts:List Tok} (hS:GoodT ts):∀ (m:Nat) (ne:Int),Gives (typeO ts m ne) typeW
 | 0,_,_,_,_,h=>by simp [typeO] at h
 | m+1,ne,k,x,k',h=>by
  rw [typeO] at h
  split at h
  ·cases h
  ·split at h
   ·rename_i hk
    injection h with h1 h2
    subst h1
    rw [typeW]
    exact ⟨(W.of (hS.kind (by rw [hk];decide))).1,by simp [typesW]⟩
   ·split at h
    ·injection h with h1 h2
     subst h1
     rw [typeW]
     exact ⟨(W.of (t:=kwT [105,110,116]) (wt_kw rfl)).1,by simp [typesW]⟩
    ·split at h
     ·cases h
     ·rename_i s k1 e1
      have h1:=nameO_W hS e1
      split at h
      ·cases h
      ·rename_i l k2 he2
       have h2:=argsO_gives (typeO_W hS m (ne+1)) he2
       injection h with h3 h4
       subst h3
       rw [typeW,typesW_iff]
       exact ⟨(W.of h1.1).1,h2⟩
theorem joinG_W (kind:Int) (hk:kind=5 ∨ kind=6) (l:List GoalT) (h:∀ g ∈ l,goalW' g):goalW' (joinG kind l):=by
 have hm:goalW' (.mk kind zeroT zeroT [] [] l):=by
  rw [goalW',goalsW_iff]
  refine ⟨fun e=>?_,fun e=>?_,fun e=>?_,fun e=>?_,h⟩ <;> (exfalso;rcases hk with rfl | rfl <;> exact absurd e (by decide))
 match l,h,hm with
 | [],_,hm=>exact hm
 | [g],h,_=>exact h g (by simp)
 | _ :: _ :: _,_,hm=>exact hm
theorem joinO_W {rd:Nat→Out GoalT} {ts:List Tok} {mark:List UInt8} {kind:Int} (hk:kind=5 ∨ kind=6) (hr:Gives rd goalW'):Gives (joinO rd ts mark kind) goalW':=by
 intro k x k' h
 unfold joinO at h
 split at h
 ·cases h
 ·rename_i l k2 he
  injection h with h1 h2
  subst h1
  exact joinG_W kind hk l (rowO_gives hr _ _ _ he)
theorem goalO_W {rd:Nat→Out GoalT} {ts:List Tok} (hr:Gives rd goalW'):Gives (goalO rd ts) goalW':=joinO_W (.inr rfl) (joinO_W (.inl rfl) hr)
theorem primO_W {ts:List Tok} (hS:GoodT ts):∀ (m:Nat) (ne:Int),Gives (primO ts m ne) goalW'
 | 0,_,_,_,_,h=>by simp [primO] at h
 | m+1,ne,k,x,k',h=>by
  have IH:=primO_W hS m (ne+1)
  have HT:=termO_W hS 66 (ne+1)
  rw [primO] at h
  split at h
  ·cases h
  ·split at h
   ·injection h with h1 h2
    subst h1
    simp [goalW',goalsW']
   ·split at h
    ·injection h with h1 h2
     subst h1
     simp [goalW',goalsW']
    ·split at h
     ·split at h
      ·cases h
      ·rename_i g k1 e1
       have h1:=IH _ _ _ e1
       injection h with h3 h4
       subst h3
       simp [goalW',goalsW',h1]
     ·split at h
      ·split at h
       ·cases h
       ·rename_i t k1 e1
        have h1:=HT _ _ _ e1
        injection h with h3 h4
        subst h3
        simp [goalW',goalsW',h1]
      ·split at h
       ·unfold guardO at h
        split at h
        ·cases h
        ·rename_i g k1 e1
         have h1:=IH _ _ _ e1
         split at h
         ·cases h
         ·split at h
          ·cases h
          ·rename_i s k3 e3
           have h3:=varO_W hS e3
           split at h
           ·cases h
           ·split at h
            ·cases h
            ·rename_i g2 k5 e5
             have h5:=IH _ _ _ e5
             injection h with h6 h7
             subst h6
             simp [goalW',goalsW',h1,h5,(W.of h3.1).1]
       ·split at h
        ·split at h
         ·cases h
         ·rename_i g k1 e1
          have h1:=goalO_W IH _ _ _ e1
          split at h
          ·cases h
          ·injection h with h6 h7
           subst h6
           exact h1
        ·unfold uocO at h
         split at h
         ·cases h
         ·rename_i t k1 e1
          have h1:=HT _ _ _ e1
          split at h
          ·split at h
           ·cases h
           ·rename_i u k2 e2
            have h2:=HT _ _ _ e2
            injection h with h3 h4
            subst h3
            simp [goalW',goalsW',h1,h2]
          ·split at h
           ·rename_i hk3
            obtain ⟨tk,tn,tz,tl⟩:=t
            have hk3:tk=3:=hk3
            subst hk3
            injection h with h3 h4
            subst h3
            rw [termW] at h1
            have h5:W tn:=h1.1
            simp [goalW',goalsW',TermT.args,TermT.name,h1.2,h5]
           ·cases h
theorem ctorO_W {ts:List Tok} (hS:GoodT ts) (ne:Int):Gives (ctorO ts ne) ctorW:=by
 intro k x k' h
 unfold ctorO at h
 split at h
 ·cases h
 ·rename_i s k1 e1
  have h1:=nameO_W hS e1
  split at h
  ·cases h
  ·rename_i l k2 e2
   have h2:=argsO_gives (typeO_W hS 66 ne) e2
   injection h with h3 h4
   subst h3
   exact ⟨(W.of h1.1).1,(typesW_iff l).2 h2⟩
theorem zeroG_W:goalW' zeroG:=by simp [zeroG,goalW',goalsW']
theorem trueG_W:goalW' trueG:=by simp [trueG,goalW',goalsW']
theorem itemO_W {ts:List Tok} (hS:GoodT ts) (ne:Int):Gives (itemO ts ne) itemW:=by
 intro k x k' h
 unfold itemO at h
 split at h
 ·unfold typeItemO at h
  split at h
  ·cases h
  ·rename_i s k1 e1
   have h1:=nameO_W hS e1
   split at h
   ·cases h
   ·rename_i vs k2 e2
    have h2:=argsO_gives (P:=W) (fun k x k' h=>(W.of (varO_W hS h).1).1) e2
    split at h
    ·cases h
    ·split at h
     ·cases h
     ·rename_i cs k4 e4
      have h4:=rowO_gives (ctorO_W hS ne) _ _ _ e4
      injection h with h5 h6
      subst h5
      exact ⟨fun _=>(W.of h1.1).1,h2,h4,by simp [typesW],by simp [termsW],zeroG_W⟩
 ·split at h
  ·unfold predO at h
   split at h
   ·cases h
   ·rename_i s k1 e1
    have h1:=nameO_W hS e1
    split at h
    ·cases h
    ·rename_i l k2 e2
     have h2:=argsO_gives (typeO_W hS 66 ne) e2
     injection h with h5 h6
     subst h5
     exact ⟨fun _=>(W.of h1.1).1,by simp,by simp,(typesW_iff l).2 h2,by simp [termsW],zeroG_W⟩
  ·split at h
   ·unfold modeItemO at h
    split at h
    ·cases h
    ·rename_i s k1 e1
     have h1:=nameO_W hS e1
     split at h
     ·cases h
     ·split at h
      ·cases h
      ·split at h
       ·cases h
       ·injection h with h5 h6
        subst h5
        exact ⟨fun _=>(W.of h1.1).1,by simp,by simp,by simp [typesW],by simp [termsW],zeroG_W⟩
   ·unfold clauseO at h
    split at h
    ·cases h
    ·rename_i s k1 e1
     have h1:=nameO_W hS e1
     split at h
     ·cases h
     ·rename_i l k2 e2
      have h2:=argsO_gives (termO_W hS 66 ne) e2
      split at h
      ·split at h
       ·cases h
       ·rename_i g k3 e3
        have h3:=goalO_W (primO_W hS 66 ne) _ _ _ e3
        injection h with h5 h6
        subst h5
        exact ⟨fun _=>(W.of h1.1).1,by simp,by simp,by simp [typesW],(termsW_iff l).2 h2,h3⟩
      ·injection h with h5 h6
       subst h5
       exact ⟨fun _=>(W.of h1.1).1,by simp,by simp,by simp [typesW],(termsW_iff l).2 h2,trueG_W⟩
theorem srcLoop_W {ts:List Tok} (hS:GoodT ts) (ne:Int):∀ (m k:Nat) (acc l:List ItemT) (k':Nat),srcLoop ts ne m k acc=.ok l k'→(∀ x ∈ acc,itemW x)→∀ x ∈ l,itemW x
 | 0,_,_,_,_,h,_=>by simp [srcLoop] at h
 | m+1,k,acc,l,k',h,hk=>by
  rw [srcLoop] at h
  split at h
  ·split at h
   ·cases h
   ·split at h
    ·cases h
    ·rename_i x k1 e1
     have h1:=itemO_W hS ne _ _ _ e1
     split at h
     ·cases h
     ·refine srcLoop_W hS ne m _ _ _ _ h (fun y hy=>?_)
      rcases List.mem_append.1 hy with hy | hy
      ·exact hk y hy
      ·obtain rfl:y=x:=by simpa using hy
       exact h1
  ·injection h with h1 h2
   subst h1
   exact hk
theorem sourceO_W {ts:List Tok} (hS:GoodT ts) {l:List ItemT} {k':Nat} (h:sourceO ts 0 0=.ok l k'):∀ x ∈ l,itemW x:=srcLoop_W hS 0 _ _ _ _ _ h (by simp)
end Lx
end Go.Proofs.YtiljemkglhloeaaGreatDoor
namespace Go.Proofs.YtiljemkglhloeaaGreatDoor
set_option linter.unusedSimpArgs false
set_option linter.unusedVariables false
namespace Lx
open Go Go.RowKit
def slc (ts:List Tok) (k k':Nat):List Tok:=(ts.drop k).take (k' - k)
theorem slc_app {ts:List Tok} {a b c:Nat} (h1:a≤b) (h2:b≤c):slc ts a c=slc ts a b++slc ts b c:=by
 unfold slc
 rw [show c - a=(b - a)+(c - b) by omega,List.take_add,List.drop_drop,show a+(b - a)=b by omega]
theorem slc_self (ts:List Tok) (k:Nat):slc ts k k=[]:=by simp [slc]
theorem slc_one {ts:List Tok} {k:Nat} (h:k < ts.length):slc ts k (k+1)=[peekT ts k]:=by
 unfold slc peekT
 rw [show k+1 - k=1 by omega,List.getElem?_eq_getElem h,List.drop_eq_getElem_cons h]
 rfl
theorem slc_all (ts:List Tok):slc ts 0 ts.length=ts:=by simp [slc]
theorem hasT_text {ts:List Tok} {k:Nat} {s:List UInt8} (h:hasT ts k s=true):(peekT ts k).text=s:=by simpa [hasT] using h
theorem hasT_tok {ts:List Tok} (hS:GoodT ts) {k:Nat} {s:List UInt8} {t:Tok} (h:hasT ts k s=true) (hs:s ≠ []) (ht:tokAt s=some t):k < ts.length∧peekT ts k=t∧slc ts k (k+1)=[t]:=by
 have hk:=hasT_in h hs
 have h1:=hS.peek hk
 rw [hasT_text h] at h1
 have h2:peekT ts k=t:=by
  have:=h1.1.symm.trans ht
  exact Option.some.inj this
 exact ⟨hk,h2,by rw [slc_one hk,h2]⟩
theorem expO_tok {ts:List Tok} (hS:GoodT ts) {k k':Nat} {s:List UInt8} {t:Tok} {u:Unit} (h:expO ts k s=.ok u k') (hs:s ≠ []) (ht:tokAt s=some t):k'=k+1∧k < ts.length∧peekT ts k=t∧slc ts k k'=[t]:=by
 unfold expO at h
 split at h
 ·rename_i hc
  injection h with _ h2
  subst h2
  obtain ⟨a,b,c⟩:=hasT_tok hS hc hs ht
  exact ⟨rfl,a,b,c⟩
 ·cases h
def Sl {α:Type} (ts:List Tok) (rd:Nat→Out α) (K:α→List Tok):Prop:=∀ k x k',rd k=.ok x k'→k≤k'∧K x=slc ts k k'
theorem joinT_snoc (M:List Tok):∀ (l:List (List Tok)) (x:List Tok),joinT M (l++[x])=if l=[] then x else joinT M l++(M++x)
 | [],_=>rfl
 | [y],x=>by simp [joinT]
 | y :: z :: l,x=>by
  have h:=joinT_snoc M (z :: l) x
  simp only [List.cons_append,joinT,reduceCtorEq,if_false] at h ⊢
  rw [h]
  simp [List.append_assoc]
theorem rowLoop_sl {α:Type} {rd:Nat→Out α} {K:α→List Tok} {ts:List Tok} (hS:GoodT ts) {mark:List UInt8} {t:Tok} (hm:mark ≠ []) (ht:tokAt mark=some t) {most:Nat} (hr:∀ k x k',peekT ts k=t→rd (k+1)=.ok x k'→k+1≤k'∧K x=slc ts (k+1) k') (k0:Nat):∀ (n k:Nat) (acc l:List α) (k':Nat),rowLoop rd ts mark most n k acc=.ok l k'→acc ≠ []→k0≤k→joinT [t] (acc.map K)=slc ts k0 k→k≤k'∧joinT [t] (l.map K)=slc ts k0 k'∧l ≠ []
 | 0,_,_,_,_,h,_,_,_=>by simp [rowLoop] at h
 | n+1,k,acc,l,k',h,h0,hk0,hk=>by
  rw [rowLoop] at h
  split at h
  ·rename_i hc
   obtain ⟨q1,q2,q3⟩:=hasT_tok hS hc hm ht
   split at h
   ·cases h
   ·split at h
    ·cases h
    ·rename_i x k2 he
     obtain ⟨h1,h2⟩:=hr _ _ _ q2 he
     have h3:=rowLoop_sl hS hm ht hr k0 n k2 _ _ _ h (by simp) (by omega) (by
      rw [List.map_append,List.map_cons,List.map_nil,joinT_snoc,if_neg (by simpa using h0),hk,h2,slc_app (a:=k0) (b:=k) (c:=k2) hk0 (by omega),slc_app (a:=k) (b:=k+1) (c:=k2) (by omega) h1,q3])
     exact ⟨by omega,h3.2⟩
  ·injection h with h1 h2
   subst h1 h2
   exact ⟨Nat.le_refl _,hk,h0⟩
theorem rowO_sl' {α:Type} {rd:Nat→Out α} {K:α→List Tok} {ts:List Tok} (hS:GoodT ts) {mark:List UInt8} {t:Tok} (hm:mark ≠ []) (ht:tokAt mark=some t) {most:Nat} {k:Nat} (h0:∀ x k',rd k=.ok x k'→k≤k'∧K x=slc ts k k') (hr:∀ k x k',peekT ts k=t→rd (k+1)=.ok x k'→k+1≤k'∧K x=slc ts (k+1) k') {l:List α} {k':Nat} (h:rowO rd ts mark most k=.ok l k'):k≤k'∧joinT [t] (l.map K)=slc ts k k'∧l ≠ []:=by
 unfold rowO at h
 split at h
 ·cases h
 ·rename_i x k2 he
  obtain ⟨h1,h2⟩:=h0 _ _ he
  have h3:=rowLoop_sl hS hm ht hr k _ _ _ _ _ h (by simp) h1 h2
  exact ⟨by omega,h3.2⟩
theorem rowO_sl {α:Type} {rd:Nat→Out α} {K:α→List Tok} {ts:List Tok} (hS:GoodT ts) {mark:List UInt8} {t:Tok} (hm:mark ≠ []) (ht:tokAt mark=some t) {most:Nat} (hr:Sl ts rd K) {k:Nat} {l:List α} {k':Nat} (h:rowO rd ts mark most k=.ok l k'):k≤k'∧joinT [t] (l.map K)=slc ts k k'∧l ≠ [] :=
 rowO_sl' hS hm ht (fun x k' e=>hr _ _ _ e) (fun k x k' _ e=>hr _ _ _ e) h
theorem argsO_sl {α:Type} {rd:Nat→Out α} {K:α→List Tok} {ts:List Tok} (hS:GoodT ts) (hr:Sl ts rd K) {k:Nat} {l:List α} {k':Nat} (h:argsO rd ts k=.ok l k'):k≤k'∧argsT (l.map K)=slc ts k k':=by
 unfold argsO at h
 split at h
 ·rename_i hc
  obtain ⟨q1,q2,q3⟩:=hasT_tok (t:=mkT [40]) hS hc (by simp) rfl
  split at h
  ·cases h
  ·rename_i l1 k1 he
   obtain ⟨h1,h2,h3⟩:=rowO_sl (t:=mkT [44]) hS (by simp) rfl hr he
   split at h
   ·cases h
   ·rename_i u k2 he2
    obtain ⟨e1,e2,e3,e4⟩:=expO_tok (t:=mkT [41]) hS he2 (by simp) rfl
    injection h with h5 h6
    subst h5 h6
    refine ⟨by omega,?_⟩
    unfold argsT
    rw [if_neg (by simpa using h3),h2,slc_app (a:=k) (b:=k+1) (c:=k2) (by omega) (by omega),slc_app (a:=k+1) (b:=k1) (c:=k2) h1 (by omega),q3,e4]
    rfl
 ·injection h with h1 h2
  subst h1 h2
  exact ⟨Nat.le_refl _,by rw [slc_self];rfl⟩
theorem nameO_sl {ts:List Tok} (hS:GoodT ts) {k:Nat} {s:List UInt8} {k':Nat} (h:nameO ts k=.ok s k'):k'=k+1∧slc ts k k'=[tokOf s]∧(peekT ts k).kind=1∧resv (bs (peekT ts k).text).toList=false:=by
 obtain ⟨h1,h2,h3,h4⟩:=nameO_W hS h
 subst h2
 refine ⟨rfl,?_,h3,?_⟩
 ·rw [slc_one (peek_kind (by rw [h3];decide)),(W.of h1).2]
 ·rw [h1.2]
  exact h4
theorem varO_sl {ts:List Tok} (hS:GoodT ts):Sl ts (varO ts) (fun s=>[tokOf s]):=by
 intro k s k' h
 have hf:=varO_fwd ts _ _ _ h
 obtain ⟨h1,h2⟩:=varO_W hS h
 subst h2
 refine ⟨by omega,?_⟩
 show [tokOf s]=_
 rw [slc_one (by omega),(W.of h1).2]
theorem termO_sl {ts:List Tok} (hS:GoodT ts):∀ (m:Nat) (ne:Int),Sl ts (termO ts m ne) termK
 | 0,_,_,_,_,h=>by simp [termO] at h
 | m+1,ne,k,x,k',h=>by
  rw [termO] at h
  split at h
  ·cases h
  ·split at h
   ·rename_i hk
    have hp:=hS.kind (ts:=ts) (k:=k) (by rw [hk];decide)
    injection h with h1 h2
    subst h1 h2
    refine ⟨by omega,?_⟩
    rw [termK,slc_one (peek_kind (by rw [hk];decide)),if_neg (by decide),(W.of hp).2]
    rfl
   ·split at h
    ·rename_i hk
     have hp:=hS.kind (ts:=ts) (k:=k) (by rw [hk];decide)
     have hn:=tok_numW hp.1 hk
     injection h with h1 h2
     subst h1 h2
     refine ⟨by omega,?_⟩
     rw [termK,slc_one (peek_kind (by rw [hk];decide)),if_pos rfl,← hn,(W.of hp).2]
     rfl
    ·split at h
     ·cases h
     ·rename_i s k1 e1
      obtain ⟨n1,n2,_⟩:=nameO_sl hS e1
      split at h
      ·cases h
      ·rename_i l k2 he2
       obtain ⟨h1,h2⟩:=argsO_sl hS (termO_sl hS m (ne+1)) he2
       injection h with h3 h4
       subst h3 h4
       refine ⟨by omega,?_⟩
       rw [termK,termsK_map,h2,if_neg (by decide),slc_app (a:=k) (b:=k1) (c:=k2) (by omega) h1,n2]
       rfl
theorem typeO_sl {ts:List Tok} (hS:GoodT ts):∀ (m:Nat) (ne:Int),Sl ts (typeO ts m ne) typeK
 | 0,_,_,_,_,h=>by simp [typeO] at h
 | m+1,ne,k,x,k',h=>by
  rw [typeO] at h
  split at h
  ·cases h
  ·split at h
   ·rename_i hk
    have hp:=hS.kind (ts:=ts) (k:=k) (by rw [hk];decide)
    injection h with h1 h2
    subst h1 h2
    refine ⟨by omega,?_⟩
    rw [typeK,slc_one (peek_kind (by rw [hk];decide)),(W.of hp).2]
    rfl
   ·split at h
    ·rename_i hc
     obtain ⟨q1,q2,q3⟩:=hasT_tok (t:=kwT [105,110,116]) hS hc (by simp) rfl
     injection h with h1 h2
     subst h1 h2
     refine ⟨by omega,?_⟩
     rw [typeK,q3,(W.of (t:=kwT [105,110,116]) (wt_kw rfl)).2]
     rfl
    ·split at h
     ·cases h
     ·rename_i s k1 e1
      obtain ⟨n1,n2,_⟩:=nameO_sl hS e1
      split at h
      ·cases h
      ·rename_i l k2 he2
       obtain ⟨h1,h2⟩:=argsO_sl hS (typeO_sl hS m (ne+1)) he2
       injection h with h3 h4
       subst h3 h4
       refine ⟨by omega,?_⟩
       rw [typeK,typesK_map,h2,slc_app (a:=k) (b:=k1) (c:=k2) (by omega) h1,n2]
       rfl
theorem ctorO_sl {ts:List Tok} (hS:GoodT ts) (ne:Int):Sl ts (ctorO ts ne) ctorK:=by
 intro k x k' h
 unfold ctorO at h
 split at h
 ·cases h
 ·rename_i s k1 e1
  obtain ⟨n1,n2,_⟩:=nameO_sl hS e1
  split at h
  ·cases h
  ·rename_i l k2 he2
   obtain ⟨h1,h2⟩:=argsO_sl hS (typeO_sl hS 66 ne) he2
   injection h with h3 h4
   subst h3 h4
   refine ⟨by omega,?_⟩
   rw [ctorK,typesK_map,h2,slc_app (a:=k) (b:=k1) (c:=k2) (by omega) h1,n2]
   rfl
theorem wayO_sl {ts:List Tok} (hS:GoodT ts):Sl ts (wayO ts) wayK:=by
 intro k x k' h
 unfold wayO at h
 split at h
 ·rename_i hc
  obtain ⟨q1,q2,q3⟩:=hasT_tok (t:=kwT [105,110]) hS hc (by simp) rfl
  injection h with h1 h2
  subst h1 h2
  exact ⟨by omega,by rw [q3];rfl⟩
 ·split at h
  ·rename_i hc
   obtain ⟨q1,q2,q3⟩:=hasT_tok (t:=kwT [111,117,116]) hS hc (by simp) rfl
   injection h with h1 h2
   subst h1 h2
   exact ⟨by omega,by rw [q3];rfl⟩
  ·cases h
/-- No bracket stands but behind a name that isn't reserved. -/
def NB (ts:List Tok):Prop:=∀ k,k < ts.length→(peekT ts k).text=[40]→∃ j,k=j+1∧(peekT ts j).kind=1∧resv (bs (peekT ts j).text).toList=false
/-- What stands ahead is no such name. -/
def PB (ts:List Tok) (k:Nat):Prop:=∀ j,k=j+1→¬ ((peekT ts j).kind=1∧resv (bs (peekT ts j).text).toList=false)
theorem pb_mark {ts:List Tok} {k:Nat} {s:List UInt8} (h:peekT ts k=mkT s):PB ts (k+1):=by
 rintro j e ⟨h1,_⟩
 obtain rfl:j=k:=by omega
 rw [h] at h1
 have h1:(4:Int)=1:=h1
 exact absurd h1 (by decide)
theorem pb_kw {ts:List Tok} {k:Nat} {s:List UInt8} (h:peekT ts k=kwT s) (hr:resv s=true):PB ts (k+1):=by
 rintro j e ⟨_,h1⟩
 obtain rfl:j=k:=by omega
 rw [h] at h1
 have e2:(bs (kwT s).text).toList=s:=by rw [ByteArray.toList_eq];rfl
 rw [e2,hr] at h1
 cases h1
def SlG (ts:List Tok) (rd:Nat→Out GoalT) (bad:List Int):Prop:=∀ k x k',PB ts k→rd k=.ok x k'→(k≤k'∧goalK x=slc ts k k')∧(∀ b ∈ bad,kindG x ≠ b)∧(kindG x=1→hasT ts k [116,114,117,101]=true)
theorem kindG_joinG (kind:Int) (l:List GoalT):(∃ g,l=[g]∧joinG kind l=g) ∨ joinG kind l=.mk kind zeroT zeroT [] [] l:=by
 match l with
 | []=>exact .inr rfl
 | [g]=>exact .inl ⟨g,rfl,rfl⟩
 | _ :: _ :: _=>exact .inr rfl
theorem rowLoop_all {α:Type} {rd:Nat→Out α} {P:α→Prop} {ts:List Tok} (hS:GoodT ts) {mark:List UInt8} {t:Tok} (hm:mark ≠ []) (ht:tokAt mark=some t) {most:Nat} (hr:∀ k x k',peekT ts k=t→rd (k+1)=.ok x k'→P x):∀ (n k:Nat) (acc l:List α) (k':Nat),rowLoop rd ts mark most n k acc=.ok l k'→(∀ x ∈ acc,P x)→∀ x ∈ l,P x
 | 0,_,_,_,_,h,_=>by simp [rowLoop] at h
 | n+1,k,acc,l,k',h,h0=>by
  rw [rowLoop] at h
  split at h
  ·rename_i hc
   obtain ⟨q1,q2,q3⟩:=hasT_tok hS hc hm ht
   split at h
   ·cases h
   ·split at h
    ·cases h
    ·rename_i x k2 he
     refine rowLoop_all hS hm ht hr n k2 _ _ _ h (fun y hy=>?_)
     rcases List.mem_append.1 hy with hy | hy
     ·exact h0 y hy
     ·obtain rfl:y=x:=by simpa using hy
      exact hr _ _ _ q2 he
  ·injection h with h1 h2
   subst h1
   exact h0
theorem rowO_all {α:Type} {rd:Nat→Out α} {P:α→Prop} {ts:List Tok} (hS:GoodT ts) {mark:List UInt8} {t:Tok} (hm:mark ≠ []) (ht:tokAt mark=some t) {most:Nat} {k:Nat} (h0:∀ x k',rd k=.ok x k'→P x) (hr:∀ k x k',peekT ts k=t→rd (k+1)=.ok x k'→P x) {l:List α} {k':Nat} (h:rowO rd ts mark most k=.ok l k'):∀ x ∈ l,P x:=by
 unfold rowO at h
 split at h
 ·cases h
 ·rename_i x k2 he
  exact rowLoop_all hS hm ht hr _ _ _ _ _ h (fun y hy=>by
   have e:y=x:=by simpa using hy
   rw [e]
   exact h0 _ _ he)
theorem rowO_first {α:Type} {rd:Nat→Out α} {ts:List Tok} {mark:List UInt8} {most k k':Nat} {g:α} (h:rowO rd ts mark most k=.ok [g] k'):∃ k2,rd k=.ok g k2:=by
 unfold rowO at h
 split at h
 ·cases h
 ·rename_i x k2 he
  have hl:∀ (n k:Nat) (acc l:List α) (k':Nat),rowLoop rd ts mark most n k acc=.ok l k'→acc ≠ []→l.head?=acc.head?:=by
   intro n
   induction n with
   | zero=>intro _ _ _ _ h;simp [rowLoop] at h
   | succ n ih =>
    intro k acc l k' h ha
    rw [rowLoop] at h
    split at h
    ·split at h
     ·cases h
     ·split at h
      ·cases h
      ·rw [ih _ _ _ _ h (by simp)]
       cases acc with
       | nil=>exact absurd rfl ha
       | cons a r=>rfl
    ·injection h with h1 h2
     rw [h1]
  have:=hl _ _ _ _ _ h (by simp)
  have e:g=x:=by simpa using this
  exact ⟨k2,by rw [he,e]⟩
theorem joinO_sl {rd:Nat→Out GoalT} {ts:List Tok} (hS:GoodT ts) {mark:List UInt8} {kind:Int} (KW:Int × List Tok→List Tok) (bad:List Int) (hc:(kind=5∧mark=[44]∧KW=primK∧bad=[5,6]) ∨ (kind=6∧mark=[59]∧KW=conjK∧bad=[6])) (hr:SlG ts rd bad):SlG ts (joinO rd ts mark kind) (if kind=5 then [6] else []):=by
 intro k x k' hpb h
 have hm:mark ≠ []:=by rcases hc with ⟨_,rfl,_⟩ | ⟨_,rfl,_⟩ <;> simp
 have ht:tokAt mark=some (mkT mark):=by rcases hc with ⟨_,rfl,_⟩ | ⟨_,rfl,_⟩ <;> rfl
 unfold joinO at h
 split at h
 ·cases h
 ·rename_i l k2 he
  injection h with h1 h2
  subst h1 h2
  obtain ⟨r1,r2,r3⟩:=rowO_sl' (K:=goalK) hS hm ht (fun x k' e=>(hr _ _ _ hpb e).1) (fun k x k' q e=>(hr _ _ _ (pb_mark q) e).1) he
  have hb:=rowO_all (P:=fun x=>∀ b ∈ bad,kindG x ≠ b) hS hm ht (fun x k' e=>(hr _ _ _ hpb e).2.1) (fun k x k' q e=>(hr _ _ _ (pb_mark q) e).2.1) he
  have hKW:∀ g ∈ l,KW (kindG g,goalK g)=goalK g:=by
   intro g hg
   have hb2:=hb g hg
   rcases hc with ⟨_,_,rfl,rfl⟩ | ⟨_,_,rfl,rfl⟩
   ·unfold primK conjK
    rw [if_neg (hb2 5 (by simp)),if_neg (hb2 6 (by simp))]
   ·unfold conjK
    rw [if_neg (hb2 6 (by simp))]
  rcases kindG_joinG kind l with ⟨g,rfl,hj⟩ | hj
  ·rw [hj]
   obtain ⟨k3,e3⟩:=rowO_first he
   obtain ⟨_,q2,q3⟩:=hr _ _ _ hpb e3
   refine ⟨⟨r1,?_⟩,?_,q3⟩
   ·exact r2
   ·intro b hbm
    rcases hc with ⟨rfl,_,_,rfl⟩ | ⟨rfl,_,_,rfl⟩
    ·simp only [if_true,List.mem_singleton] at hbm
     rw [hbm]
     exact q2 6 (by simp)
    ·simp at hbm
  ·rw [hj]
   have hk:goalK (.mk kind zeroT zeroT [] [] l)=joinT [mkT mark] (l.map goalK):=by
    have e1:((goalsK l).map KW)=l.map goalK:=by
     rw [goalsK_map,List.map_map]
     exact List.map_congr_left hKW
    rw [goalK]
    unfold goalKW
    rcases hc with ⟨rfl,rfl,rfl,_⟩ | ⟨rfl,rfl,rfl,_⟩
    ·simp only [show ¬ ((5:Int)=1) by decide,show ¬ ((5:Int)=2) by decide,show ¬ ((5:Int)=3) by decide,show ¬ ((5:Int)=4) by decide,if_false,if_true]
     rw [e1]
    ·simp only [show ¬ ((6:Int)=1) by decide,show ¬ ((6:Int)=2) by decide,show ¬ ((6:Int)=3) by decide,show ¬ ((6:Int)=4) by decide,show ¬ ((6:Int)=5) by decide,if_false,if_true]
     rw [e1]
   refine ⟨⟨r1,by rw [hk];exact r2⟩,?_,?_⟩
   ·intro b hbm
    rcases hc with ⟨rfl,_⟩ | ⟨rfl,_⟩
    ·simp only [if_true,List.mem_singleton] at hbm
     rw [hbm]
     exact (by decide:(5:Int) ≠ 6)
    ·simp at hbm
   ·intro e
    exfalso
    rcases hc with ⟨rfl,_⟩ | ⟨rfl,_⟩
    ·have e:(5:Int)=1:=e
     exact absurd e (by decide)
    ·have e:(6:Int)=1:=e
     exact absurd e (by decide)
theorem goalO_sl {rd:Nat→Out GoalT} {ts:List Tok} (hS:GoodT ts) (hr:SlG ts rd [5,6]):SlG ts (goalO rd ts) []:=by
 have h1:=joinO_sl (mark:=[44]) (kind:=5) hS primK [5,6] (.inl ⟨rfl,rfl,rfl,rfl⟩) hr
 have h2:=joinO_sl (mark:=[59]) (kind:=6) hS conjK [6] (.inr ⟨rfl,rfl,rfl,rfl⟩) h1
 exact h2
theorem primK_of {g:GoalT} (h:∀ b ∈ [(5:Int),6],kindG g ≠ b):primK (kindG g,goalK g)=goalK g:=by
 unfold primK conjK
 rw [if_neg (h 5 (by simp)),if_neg (h 6 (by simp))]
theorem primO_sl {ts:List Tok} (hS:GoodT ts) (hN:NB ts):∀ (m:Nat) (ne:Int),SlG ts (primO ts m ne) [5,6]
 | 0,_,_,_,_,_,h=>by simp [primO] at h
 | m+1,ne,k,x,k',hpb,h=>by
  have IH:=primO_sl hS hN m (ne+1)
  have HT:=termO_sl hS 66 (ne+1)
  rw [primO] at h
  split at h
  ·cases h
  ·split at h
   ·rename_i hc
    obtain ⟨q1,q2,q3⟩:=hasT_tok (t:=kwT [116,114,117,101]) hS hc (by simp) rfl
    injection h with h1 h2
    subst h1 h2
    exact ⟨⟨by omega,by rw [q3];rfl⟩,by simp [kindG],fun _=>hc⟩
   ·split at h
    ·rename_i hc
     obtain ⟨q1,q2,q3⟩:=hasT_tok (t:=kwT [102,97,105,108]) hS hc (by simp) rfl
     injection h with h1 h2
     subst h1 h2
     exact ⟨⟨by omega,by rw [q3];rfl⟩,by simp [kindG],fun e=>by simp [kindG] at e⟩
    ·split at h
     ·rename_i hc
      obtain ⟨q1,q2,q3⟩:=hasT_tok (t:=kwT [110,111,116]) hS hc (by simp) rfl
      split at h
      ·cases h
      ·rename_i g k1 e1
       obtain ⟨⟨h1,h2⟩,h3,_⟩:=IH _ _ _ (pb_kw q2 rfl) e1
       injection h with h5 h6
       subst h5 h6
       refine ⟨⟨by omega,?_⟩,by simp [kindG],fun e=>by simp [kindG] at e⟩
       rw [goalK,goalsK,goalsK]
       simp only [goalKW,show ¬ ((7:Int)=1) by decide,show ¬ ((7:Int)=2) by decide,show ¬ ((7:Int)=3) by decide,show ¬ ((7:Int)=4) by decide,show ¬ ((7:Int)=5) by decide,show ¬ ((7:Int)=6) by decide,if_false,if_true]
       rw [show partK [(kindG g,goalK g)] 0=primK (kindG g,goalK g) from rfl,primK_of h3,h2,slc_app (a:=k) (b:=k+1) (c:=k1) (by omega) h1,q3]
       rfl
     ·split at h
      ·rename_i hc
       obtain ⟨q1,q2,q3⟩:=hasT_tok (t:=kwT [116,104,114,111,119]) hS hc (by simp) rfl
       split at h
       ·cases h
       ·rename_i t k1 e1
        obtain ⟨h1,h2⟩:=HT _ _ _ e1
        injection h with h5 h6
        subst h5 h6
        refine ⟨⟨by omega,?_⟩,by simp [kindG],fun e=>by simp [kindG] at e⟩
        rw [goalK]
        simp only [goalKW,show ¬ ((8:Int)=1) by decide,show ¬ ((8:Int)=2) by decide,show ¬ ((8:Int)=3) by decide,show ¬ ((8:Int)=4) by decide,show ¬ ((8:Int)=5) by decide,show ¬ ((8:Int)=6) by decide,show ¬ ((8:Int)=7) by decide,if_false,if_true]
        rw [h2,slc_app (a:=k) (b:=k+1) (c:=k1) (by omega) h1,q3]
        rfl
      ·split at h
       ·rename_i hc
        obtain ⟨q1,q2,q3⟩:=hasT_tok (t:=kwT [116,114,121]) hS hc (by simp) rfl
        unfold guardO at h
        split at h
        ·cases h
        ·rename_i g k1 e1
         obtain ⟨⟨h1,h2⟩,h3,_⟩:=IH _ _ _ (pb_kw q2 rfl) e1
         split at h
         ·cases h
         ·rename_i u k2 e2
          obtain ⟨a1,a2,a3,a4⟩:=expO_tok (t:=kwT [99,97,116,99,104]) hS e2 (by simp) rfl
          split at h
          ·cases h
          ·rename_i s k3 e3
           obtain ⟨b1,b2⟩:=varO_sl hS _ _ _ e3
           have b2:[tokOf s]=slc ts k2 k3:=b2
           split at h
           ·cases h
           ·rename_i u2 k4 e4
            obtain ⟨c1,c2,c3,c4⟩:=expO_tok (t:=kwT [116,104,101,110]) hS e4 (by simp) rfl
            split at h
            ·cases h
            ·rename_i g2 k5 e5
             subst c1
             obtain ⟨⟨d1,d2⟩,d3,_⟩:=IH _ _ _ (pb_kw c3 rfl) e5
             injection h with h6 h7
             subst h6 h7
             refine ⟨⟨by omega,?_⟩,by simp [kindG],fun e=>by simp [kindG] at e⟩
             rw [goalK,goalsK,goalsK,goalsK]
             simp only [goalKW,show ¬ ((9:Int)=1) by decide,show ¬ ((9:Int)=2) by decide,show ¬ ((9:Int)=3) by decide,show ¬ ((9:Int)=4) by decide,show ¬ ((9:Int)=5) by decide,show ¬ ((9:Int)=6) by decide,show ¬ ((9:Int)=7) by decide,show ¬ ((9:Int)=8) by decide,if_false,if_true]
             rw [show partK [(kindG g,goalK g),(kindG g2,goalK g2)] 0=primK (kindG g,goalK g) from rfl,show partK [(kindG g,goalK g),(kindG g2,goalK g2)] 1=primK (kindG g2,goalK g2) from rfl,primK_of h3,primK_of d3,h2,d2]
             rw [slc_app (a:=k) (b:=k+1) (by omega) (by omega:k+1≤k5),slc_app (a:=k+1) (b:=k1) h1 (by omega:k1≤k5),slc_app (a:=k1) (b:=k2) (by omega) (by omega:k2≤k5),slc_app (a:=k2) (b:=k3) b1 (by omega:k3≤k5),slc_app (a:=k3) (b:=k3+1) (by omega) d1,q3,a4,← b2,c4]
             simp
       ·split at h
        ·rename_i hc
         exfalso
         have hk:=hasT_in hc (by simp)
         obtain ⟨j,e1,e2,e3⟩:=hN k hk (hasT_text hc)
         exact hpb j e1 ⟨e2,e3⟩
        ·unfold uocO at h
         split at h
         ·cases h
         ·rename_i t k1 e1
          obtain ⟨h1,h2⟩:=HT _ _ _ e1
          split at h
          ·rename_i hc
           obtain ⟨q1,q2,q3⟩:=hasT_tok (t:=mkT [61]) hS hc (by simp) rfl
           split at h
           ·cases h
           ·rename_i u k2 e2
            obtain ⟨d1,d2⟩:=HT _ _ _ e2
            injection h with h3 h4
            subst h3 h4
            refine ⟨⟨by omega,?_⟩,by simp [kindG],fun e=>by simp [kindG] at e⟩
            rw [goalK]
            simp only [goalKW,show ¬ ((3:Int)=1) by decide,show ¬ ((3:Int)=2) by decide,if_false,if_true]
            rw [h2,d2,slc_app (a:=k) (b:=k1) h1 (by omega:k1≤k2),slc_app (a:=k1) (b:=k1+1) (by omega) d1,q3]
            rfl
          ·split at h
           ·rename_i hk3
            obtain ⟨tk,tn,tz,tl⟩:=t
            have hk3:tk=3:=hk3
            subst hk3
            injection h with h3 h4
            subst h3 h4
            refine ⟨⟨h1,?_⟩,by simp [kindG],fun e=>by simp [kindG] at e⟩
            rw [goalK]
            simp only [goalKW,show ¬ ((4:Int)=1) by decide,show ¬ ((4:Int)=2) by decide,show ¬ ((4:Int)=3) by decide,if_false,if_true,TermT.name,TermT.args]
            rw [termK,if_neg (by decide)] at h2
            exact h2
           ·cases h
theorem detO_sl {ts:List Tok} (hS:GoodT ts):Sl ts (detO ts) detK:=by
 intro k x k' h
 have hf:=detO_fwd ts _ _ _ h
 refine ⟨by omega,?_⟩
 unfold detO at h
 repeat' split at h
 all_goals first
  | (cases h;done)
  | (rename_i hc;injection h with h1 h2;subst h1 h2;obtain ⟨q1,q2,q3⟩:=hasT_tok hS hc (by simp) (show tokAt _=some (kwT _) from rfl);rw [q3];rfl)
/-- No body is "true". -/
def NT (ts:List Tok):Prop:=∀ k,k < ts.length→(peekT ts k).text=[58,45]→hasT ts (k+1) [116,114,117,101]=false
theorem itemO_sl {ts:List Tok} (hS:GoodT ts) (hN:NB ts) (hT:NT ts) {k:Nat} {x:ItemT} {k1 k2:Nat} {u:Unit} (h:itemO ts 0 k=.ok x k1) (hd:expO ts k1 [46]=.ok u k2):k≤k2∧itemK x=slc ts k k2:=by
 obtain ⟨d1,d2,d3,d4⟩:=expO_tok (t:=mkT [46]) hS hd (by simp) rfl
 unfold itemO at h
 split at h
 ·rename_i hc
  obtain ⟨q1,q2,q3⟩:=hasT_tok (t:=kwT [116,121,112,101]) hS hc (by simp) rfl
  unfold typeItemO at h
  split at h
  ·cases h
  ·rename_i s k3 e1
   obtain ⟨n1,n2,_⟩:=nameO_sl hS e1
   split at h
   ·cases h
   ·rename_i vs k4 e2
    obtain ⟨a1,a2⟩:=argsO_sl hS (varO_sl hS) e2
    split at h
    ·cases h
    ·rename_i u3 k5 e3
     obtain ⟨b1,b2,b3,b4⟩:=expO_tok (t:=mkT [61]) hS e3 (by simp) rfl
     split at h
     ·cases h
     ·rename_i cs k6 e4
      obtain ⟨c1,c2,c3⟩:=rowO_sl (t:=mkT [124]) hS (by simp) rfl (ctorO_sl hS 0) e4
      injection h with h5 h6
      subst h5 h6
      refine ⟨by omega,?_⟩
      simp only [itemK,if_true]
      rw [a2,c2,slc_app (a:=k) (b:=k+1) (by omega) (by omega:k+1≤k2),slc_app (a:=k+1) (b:=k3) (by omega) (by omega:k3≤k2),slc_app (a:=k3) (b:=k4) a1 (by omega:k4≤k2),slc_app (a:=k4) (b:=k5) (by omega) (by omega:k5≤k2),slc_app (a:=k5) (b:=k6) c1 (by omega:k6≤k2),q3,n2,b4,d4]
      simp
 ·split at h
  ·rename_i hc
   obtain ⟨q1,q2,q3⟩:=hasT_tok (t:=kwT [112,114,101,100]) hS hc (by simp) rfl
   unfold predO at h
   split at h
   ·cases h
   ·rename_i s k3 e1
    obtain ⟨n1,n2,_⟩:=nameO_sl hS e1
    split at h
    ·cases h
    ·rename_i l k4 e2
     obtain ⟨a1,a2⟩:=argsO_sl hS (typeO_sl hS 66 0) e2
     injection h with h5 h6
     subst h5 h6
     refine ⟨by omega,?_⟩
     simp only [itemK,show ¬ ((2:Int)=1) by decide,if_true,if_false,typesK_map]
     rw [a2,slc_app (a:=k) (b:=k+1) (by omega) (by omega:k+1≤k2),slc_app (a:=k+1) (b:=k3) (by omega) (by omega:k3≤k2),slc_app (a:=k3) (b:=k4) a1 (by omega:k4≤k2),q3,n2,d4]
     simp
  ·split at h
   ·rename_i hc
    obtain ⟨q1,q2,q3⟩:=hasT_tok (t:=kwT [109,111,100,101]) hS hc (by simp) rfl
    unfold modeItemO at h
    split at h
    ·cases h
    ·rename_i s k3 e1
     obtain ⟨n1,n2,_⟩:=nameO_sl hS e1
     split at h
     ·cases h
     ·rename_i ws k4 e2
      obtain ⟨a1,a2⟩:=argsO_sl hS (wayO_sl hS) e2
      split at h
      ·cases h
      ·rename_i u3 k5 e3
       obtain ⟨b1,b2,b3,b4⟩:=expO_tok (t:=kwT [105,115]) hS e3 (by simp) rfl
       split at h
       ·cases h
       ·rename_i d k6 e4
        obtain ⟨c1,c2⟩:=detO_sl hS _ _ _ e4
        injection h with h5 h6
        subst h5 h6
        refine ⟨by omega,?_⟩
        simp only [itemK,show ¬ ((3:Int)=1) by decide,show ¬ ((3:Int)=2) by decide,if_true,if_false]
        rw [a2,c2,slc_app (a:=k) (b:=k+1) (by omega) (by omega:k+1≤k2),slc_app (a:=k+1) (b:=k3) (by omega) (by omega:k3≤k2),slc_app (a:=k3) (b:=k4) a1 (by omega:k4≤k2),slc_app (a:=k4) (b:=k5) (by omega) (by omega:k5≤k2),slc_app (a:=k5) (b:=k6) c1 (by omega:k6≤k2),q3,n2,b4,d4]
        simp
   ·unfold clauseO at h
    split at h
    ·cases h
    ·rename_i s k3 e1
     obtain ⟨n1,n2,_⟩:=nameO_sl hS e1
     split at h
     ·cases h
     ·rename_i l k4 e2
      obtain ⟨a1,a2⟩:=argsO_sl hS (termO_sl hS 66 0) e2
      split at h
      ·rename_i hc
       obtain ⟨q1,q2,q3⟩:=hasT_tok (t:=mkT [58,45]) hS hc (by simp) rfl
       split at h
       ·cases h
       ·rename_i g k5 e3
        obtain ⟨⟨g1,g2⟩,_,g3⟩:=goalO_sl hS (primO_sl hS hN 66 0) _ _ _ (pb_mark q2) e3
        have hk1:¬ kindG g=1:=fun e=>by
         have:=hT k4 q1 (hasT_text hc)
         rw [g3 e] at this
         cases this
        injection h with h5 h6
        subst h5 h6
        refine ⟨by omega,?_⟩
        simp only [itemK,show ¬ ((4:Int)=1) by decide,show ¬ ((4:Int)=2) by decide,show ¬ ((4:Int)=3) by decide,if_true,if_false,termsK_map,bodyK,hk1]
        rw [a2,g2,slc_app (a:=k) (b:=k3) (by omega) (by omega:k3≤k2),slc_app (a:=k3) (b:=k4) a1 (by omega:k4≤k2),slc_app (a:=k4) (b:=k4+1) (by omega) (by omega:k4+1≤k2),slc_app (a:=k4+1) (b:=k5) g1 (by omega:k5≤k2),q3,n2,d4]
        simp
      ·injection h with h5 h6
       subst h5 h6
       refine ⟨by omega,?_⟩
       simp only [itemK,bodyK,trueG,kindG,show ¬ ((4:Int)=1) by decide,show ¬ ((4:Int)=2) by decide,show ¬ ((4:Int)=3) by decide,if_true,if_false,termsK_map]
       rw [a2,slc_app (a:=k) (b:=k3) (by omega) (by omega:k3≤k2),slc_app (a:=k3) (b:=k4) a1 (by omega:k4≤k2),n2,d4]
       simp
theorem srcLoop_sl {ts:List Tok} (hS:GoodT ts) (hN:NB ts) (hT:NT ts):∀ (m k:Nat) (acc l:List ItemT) (k':Nat),srcLoop ts 0 m k acc=.ok l k'→sourceK acc=slc ts 0 k→k≤k'∧sourceK l=slc ts 0 k'
 | 0,_,_,_,_,h,_=>by simp [srcLoop] at h
 | m+1,k,acc,l,k',h,hk=>by
  rw [srcLoop] at h
  split at h
  ·split at h
   ·cases h
   ·split at h
    ·cases h
    ·rename_i x k1 e1
     split at h
     ·cases h
     ·rename_i u k2 e2
      obtain ⟨h1,h2⟩:=itemO_sl hS hN hT e1 e2
      have h3:=srcLoop_sl hS hN hT m k2 _ _ _ h (by
       unfold sourceK at hk ⊢
       rw [List.map_append,List.flatten_append,hk,List.map_cons,List.map_nil,List.flatten_cons,List.flatten_nil,List.append_nil,h2,← slc_app (Nat.zero_le _) h1])
      exact ⟨by omega,h3.2⟩
  ·injection h with h1 h2
   subst h1 h2
   exact ⟨Nat.le_refl _,hk⟩
/-- The last token of what is read is a full stop. -/
theorem srcLoop_last {ts:List Tok} (hS:GoodT ts):∀ (m k:Nat) (acc l:List ItemT) (k':Nat),srcLoop ts 0 m k acc=.ok l k'→(∀ j,k=j+1→peekT ts j=mkT [46])→∀ j,k'=j+1→peekT ts j=mkT [46]
 | 0,_,_,_,_,h,_=>by simp [srcLoop] at h
 | m+1,k,acc,l,k',h,hk=>by
  rw [srcLoop] at h
  split at h
  ·split at h
   ·cases h
   ·split at h
    ·cases h
    ·split at h
     ·cases h
     ·rename_i k1 _ _ u k2 e2
      obtain ⟨d1,d2,d3,d4⟩:=expO_tok (t:=mkT [46]) hS e2 (by simp) rfl
      exact srcLoop_last hS m k2 _ _ _ h (fun j e=>by
       have e9:j=k1:=by omega
       rw [e9]
       exact d3)
  ·injection h with h1 h2
   subst h2
   exact hk
end Lx
end Go.Proofs.YtiljemkglhloeaaGreatDoor
