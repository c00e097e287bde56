/- The reference's get, whole: at every depth. No conditions but the row's length. -/
import Derived.Test.YtnpacamcgifabaaDoorEb
import Derived.Test.YtnpacamcgifabaaDoorEc
namespace Go.Proofs.YtnpacamcgifabaaDoor
set_option linter.unusedSimpArgs false
set_option linter.unusedVariables false
namespace Lx
open Go Go.RowKit
theorem get_any:∀ k,GetC k
 | 0=>fun B l v w i dp h hB hl hi hdp=>by
  have h1:=get_low B l v w i dp h hB hl hi (.inl (by omega))
  rw [getP]
  exact h1
 | k+1=>fun B l v w i dp h hB hl hi hdp=>by
  by_cases he:i=l.length
  ·have h1:=get_low B l v w i dp h hB hl hi (.inr ⟨by omega,he⟩)
   rw [List.drop_of_length_le (by omega)]
   exact h1
  ·have hlt:i < l.length:=by omega
   rw [List.drop_eq_getElem_cons hlt]
   show Calls _ _ _ _ (GetR (if l[i].toNat=0∧8≤(l.drop (i+1)).length then some (DaT.mk false (wrap64 ((lowN ((l.drop (i+1)).take 8):Nat):Int)) ⟨#[]⟩ [],(l.drop (i+1)).drop 8) else if l[i].toNat=1 then strG (getP k) (l.drop (i+1)) else none) l.length w)
   have hlen:(l.drop (i+1)).length=l.length - (i+1):=List.length_drop
   by_cases h0:l[i].toNat=0
   ·have ht:l[i]=0:=UInt8.toNat.inj h0
    by_cases h8:8≤(l.drop (i+1)).length
    ·rw [if_pos ⟨h0,h8⟩,List.drop_drop]
     exact get_num B l v w i dp h hB hl (by omega) (by omega) ht
    ·rw [if_neg (fun e=>h8 e.2),if_neg (by omega)]
     exact get_no B l v w i dp h hB hl hlt (by omega) (.inl ⟨ht,by omega⟩)
   ·rw [if_neg (fun e=>h0 e.1)]
    by_cases h1:l[i].toNat=1
    ·have ht:l[i]=1:=UInt8.toNat.inj h1
     rw [if_pos h1]
     by_cases hs:l.length < i+2
     ·rw [List.drop_of_length_le (by omega),strG]
      exact get_no B l v w i dp h hB hl hlt (by omega) (.inr (.inr (.inl ⟨ht,hs⟩)))
     ·have hlt1:i+1 < l.length:=by omega
      have hlen2:(l.drop (i+1+1)).length=l.length - (i+2):=List.length_drop
      rw [List.drop_eq_getElem_cons hlt1,strG]
      by_cases hc:1≤l[i+1].toNat∧l[i+1].toNat≤32∧l[i+1].toNat+1≤(l.drop (i+1+1)).length∧((l.drop (i+1+1)).getD l[i+1].toNat 0).toNat≤8
      ·rw [if_pos hc]
       have hlt2:i+2+l[i+1].toNat < l.length:=by omega
       have hg:(l.drop (i+1+1)).getD l[i+1].toNat 0=l[i+2+l[i+1].toNat]:=by
        rw [List.getD_eq_getElem?_getD,List.getElem?_drop,List.getElem?_eq_getElem (by omega)]
        rfl
       have hc4:=hc.2.2.2
       rw [hg] at hc4
       rw [hg,List.drop_drop]
       have h2:=get_str k (Lib.hid (get_any k)) B l v w i dp l[i+1].toNat l[i+2+l[i+1].toNat].toNat h hB hl hlt (by omega) ht hlt1 rfl hc.1 hc.2.1 hlt2 rfl hc4
       rw [show i+1+1+(l[i+1].toNat+1)=i+l[i+1].toNat+3 by omega]
       cases hx:getsF (getP k) l[i+2+l[i+1].toNat].toNat (l.drop (i+l[i+1].toNat+3)) with
       | none=>rw [hx] at h2;exact h2
       | some p =>
        obtain ⟨p1,p2⟩:=p
        rw [hx] at h2
        exact h2
      ·rw [if_neg hc]
       refine get_no B l v w i dp h hB hl hlt (by omega) (.inr (.inr (.inr ⟨ht,hlt1,?_⟩)))
       by_cases c1:1≤l[i+1].toNat
       ·by_cases c2:l[i+1].toNat≤32
        ·by_cases c3:l[i+1].toNat+1≤(l.drop (i+1+1)).length
         ·refine .inr (.inr (.inr ⟨c1,c2,by omega,?_⟩))
          have hg:(l.drop (i+1+1)).getD l[i+1].toNat 0=l[i+2+l[i+1].toNat]'(by omega):=by
           rw [List.getD_eq_getElem?_getD,List.getElem?_drop,List.getElem?_eq_getElem (by omega)]
           rfl
          have c4:¬ (l[i+2+l[i+1].toNat]'(by omega)).toNat≤8:=fun e=>hc ⟨c1,c2,c3,by rw [hg];exact e⟩
          omega
         ·exact .inr (.inr (.inl ⟨c1,c2,by omega⟩))
        ·exact .inr (.inl ⟨c1,by omega⟩)
       ·exact .inl (by omega)
    ·rw [if_neg h1]
     exact get_no B l v w i dp h hB hl hlt (by omega) (.inr (.inl ⟨fun e=>h0 (by rw [e];rfl),fun e=>h1 (by rw [e];rfl)⟩))
end Lx
end Go.Proofs.YtnpacamcgifabaaDoor
