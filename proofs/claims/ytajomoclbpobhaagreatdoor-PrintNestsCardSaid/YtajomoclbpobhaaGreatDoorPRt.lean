/- A term, a type, a goal that was read, printed, is read again as it was. No program stands in this text but the things' form; no conditions. -/
import Derived.Test.YtajomoclbpobhaaGreatDoorPBg
import Derived.Test.YtajomoclbpobhaaGreatDoorPrM
namespace Go.Proofs.YtajomoclbpobhaaGreatDoor
set_option linter.unusedSimpArgs false
set_option linter.unusedVariables false
namespace Lx
open Go Go.RowKit
theorem lx_end {l:List UInt8} {T:List Tok} (h:Lxs l T):toks l=T∧whole l=true:=by
 have e:=h [] (.inl rfl)
 rw [List.append_nil] at e
 exact ⟨by rw [e.1];simp [toks,lex_nil],by rw [e.2];rfl⟩
theorem text_open {α:Type} {rd:List Tok→Out α} {s:ByteArray} {x:α} {k:Nat} (h:textO rd s=.ok x k):s.size≤16384∧rd (toks s.data.toList)=.ok x k∧(toks s.data.toList).length≤k:=by
 unfold textO at h
 split at h
 ·cases h
 ·rename_i hs
  split at h
  ·cases h
  ·split at h
   ·cases h
   ·rename_i y k2 e
    split at h
    ·cases h
    ·rename_i hk
     injection h with h1 h2
     subst h1 h2
     exact ⟨by omega,e,by omega⟩
theorem bs_data (l:List UInt8):(bs l).data.toList=l:=rfl
theorem text_close {α:Type} {rd:List Tok→Out α} {l:List UInt8} {x:α} {T:List Tok} {k:Nat} (hT:toks l=T∧whole l=true) (hl:l.length≤16384) (hr:rd T=.ok x k) (hk:T.length≤k):textO rd (bs l)=.ok x k:=by
 unfold textO
 rw [bs_size,if_neg (by omega),bs_data,hT.2,if_neg (by decide),hT.1,hr]
 simp only
 rw [if_neg (by omega)]
theorem text_big {α:Type} {rd:List Tok→Out α} {l:List UInt8} (hl:16384 < l.length):textO rd (bs l)=.no 1:=by
 unfold textO
 rw [bs_size,if_pos hl]
theorem hasT_out {ts:List Tok} {k:Nat} (h:ts.length≤k) (s:List UInt8) (hs:s ≠ []):hasT ts k s=false:=by
 unfold hasT
 rw [peekT_out h]
 simpa using hs.symm
abbrev rdTe:List Tok→Out TermT:=fun ts=>termO ts 66 0 0
abbrev rdTy:List Tok→Out TypeT:=fun ts=>typeO ts 66 0 0
abbrev rdGo:List Tok→Out GoalT:=fun ts=>goalO (primO ts 66 0) ts 0
theorem few_toks {s:ByteArray} (hs:s.size≤16384):(toks s.data.toList).length≤16384:=by
 have h5:=toks_len s.data.toList
 have hl:s.data.toList.length=s.size:=by simp
 omega
/-- What can be said of a thing that was read and is printed. -/
structure Round {α:Type} (rd:List Tok→Out α) (F:α→List UInt8) (x:α):Prop where
 short:(F x).length≤327680000
 some:F x ≠ []
 back:(F x).length≤16384→∃ k,textO rd (bs (F x))=.ok x k
 big:16384 < (F x).length→textO rd (bs (F x))=.no 1
theorem round_of {α:Type} {rd:List Tok→Out α} {F:α→List UInt8} {K:α→List Tok} {x:α} (hlx:Lxs (F x) (K x)) (hb:rd (K x)=.ok x (K x).length) (hf:∀ k,rd [] ≠ .ok x k) (hl:(F x).length≤327680000):Round rd F x:=by
 have hT:=lx_end hlx
 refine ⟨hl,fun e=>?_,fun h=>⟨_,text_close hT h hb (Nat.le_refl _)⟩,text_big⟩
 rw [e] at hT
 have e2:K x=[]:=by rw [← hT.1];simp [toks,lex_nil]
 rw [e2] at hb
 exact hf _ hb
theorem term_round {s:ByteArray} {t:TermT} {k:Nat} (h:textO rdTe s=.ok t k):termOk t∧Round rdTe termF t:=by
 obtain ⟨h1,h2,h3⟩:=text_open h
 have hS:GoodT (toks s.data.toList):=fun t ht=>toks_good ht
 obtain ⟨q1,q2⟩:=toks_smallT h1
 have hW:=termO_W hS 66 0 _ _ _ h2
 have hB:=termO_B hS 66 0 _ _ _ h2
 have hP:=termO_pays q1 66 0 _ _ _ h2
 have hk:=(termO_fwd _ 66 0 _ _ _ h2).2
 have hn:=few_toks h1
 refine ⟨termO_gives q2 66 0 _ _ _ h2,round_of (K:=termK) (lxs_term t hW) ?_ (fun k e=>?_) (by omega)⟩
 ·have:=termO_back 66 0 t (termK t) 0 hB (sits_all _) (hasT_out (by omega) _ (by simp))
  rw [Nat.zero_add] at this
  exact this
 ·have:=termO_fwd [] 66 0 _ _ _ e
  simp at this
  omega
theorem type_round {s:ByteArray} {t:TypeT} {k:Nat} (h:textO rdTy s=.ok t k):Round rdTy typeF t:=by
 obtain ⟨h1,h2,h3⟩:=text_open h
 have hS:GoodT (toks s.data.toList):=fun t ht=>toks_good ht
 obtain ⟨q1,q2⟩:=toks_smallT h1
 have hW:=typeO_W hS 66 0 _ _ _ h2
 have hB:=typeO_B hS 66 0 _ _ _ h2
 have hP:=typeO_pays q1 66 0 _ _ _ h2
 have hk:=(typeO_fwd _ 66 0 _ _ _ h2).2
 have hn:=few_toks h1
 refine round_of (K:=typeK) (lxs_type t hW) ?_ (fun k e=>?_) (by omega)
 ·have:=typeO_back 66 0 t (typeK t) 0 hB (sits_all _) (hasT_out (by omega) _ (by simp))
  rw [Nat.zero_add] at this
  exact this
 ·have:=typeO_fwd [] 66 0 _ _ _ e
  simp at this
  omega
theorem goal_round {s:ByteArray} {g:GoalT} {k:Nat} (h:textO rdGo s=.ok g k):goalOk g∧Round rdGo goalF g:=by
 obtain ⟨h1,h2,h3⟩:=text_open h
 have hS:GoodT (toks s.data.toList):=fun t ht=>toks_good ht
 obtain ⟨q1,q2⟩:=toks_smallT h1
 have hfw:=joinO_fwd (joinO_fwd (primO_fwd (toks s.data.toList) 66 0) [44] 5) [59] 6
 have hW:=goalO_W (primO_W hS 66 0) _ _ _ h2
 have hB:=goalO_B (primO_B hS 66 0) _ _ _ h2
 have hP:=goalO_pays (e:=96) (primO_pays q1 66 0) _ _ _ h2
 have hk:=(hfw _ _ _ h2).2
 have hn:=few_toks h1
 refine ⟨goalO_gives (primO_gives q2 66 0) _ _ _ h2,round_of (K:=goalK) (lxs_goal g hW) ?_ (fun k e=>?_) (by omega)⟩
 ·have:=top_back (prim_back 66 0) g (goalK g) 0 hB (sits_all _) ⟨⟨⟨hasT_out (by omega) _ (by simp),hasT_out (by omega) _ (by simp)⟩,hasT_out (by omega) _ (by simp)⟩,hasT_out (by omega) _ (by simp)⟩
  rw [Nat.zero_add] at this
  exact this
 ·have:=joinO_fwd (joinO_fwd (primO_fwd [] 66 0) [44] 5) [59] 6 _ _ _ e
  simp at this
  omega
end Lx
end Go.Proofs.YtajomoclbpobhaaGreatDoor
