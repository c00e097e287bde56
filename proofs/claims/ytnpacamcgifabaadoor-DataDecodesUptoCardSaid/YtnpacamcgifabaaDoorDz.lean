/- The reference's reading, purely: its bytes are those of what comes of it; what is not too large is read alike. No program stands in this text; no conditions. -/
import Derived.Test.YtnpacamcgifabaaDoorDy
namespace Go.Proofs.YtnpacamcgifabaaDoor
set_option linter.unusedSimpArgs false
set_option linter.unusedVariables false
namespace Lx
open Go Go.RowKit
theorem gets_back (k:Nat) (f:List UInt8→Option (DaT × List UInt8)) (hf:∀ (p:List UInt8) (y:DaT) (r:List UInt8),f p=some (y,r)→p=encD y++r∧fitD y=true∧depD y≤k) :
  ∀ (c:Nat) (p:List UInt8) (l:List DaT) (r:List UInt8),getsF f c p=some (l,r)→p=encDs l++r∧fitDs l=true∧depDs l≤k∧l.length=c
 | 0,p,l,r,h=>by
  rw [getsF] at h
  obtain ⟨rfl,rfl⟩:=h
  exact ⟨by rw [encDs];rfl,by rw [fitDs],by rw [depDs];omega,rfl⟩
 | c+1,p,l,r,h=>by
  rw [getsF] at h
  split at h
  ·cases h
  ·rename_i x r1 h1
   split at h
   ·cases h
   ·rename_i l1 r2 h2
    obtain ⟨rfl,rfl⟩:=h
    obtain ⟨a1,a2,a4⟩:=hf _ _ _ h1
    obtain ⟨b1,b2,b4,b5⟩:=gets_back k f hf c _ _ _ h2
    refine ⟨?_,?_,?_,?_⟩
    ·rw [encDs,a1,b1,List.append_assoc]
    ·rw [fitDs,a2,b2];rfl
    ·rw [depDs];omega
    ·rw [List.length_cons,b5]
theorem strG_back (k:Nat) (f:List UInt8→Option (DaT × List UInt8)) (hf:∀ (p:List UInt8) (y:DaT) (r:List UInt8),f p=some (y,r)→p=encD y++r∧fitD y=true∧depD y≤k)
  (p:List UInt8) (y:DaT) (r:List UInt8) (h:strG f p=some (y,r)):1 :: p=encD y++r∧fitD y=true∧depD y≤k+1:=by
 cases p with
 | nil=>rw [strG] at h;cases h
 | cons b r2 =>
  rw [strG] at h
  by_cases hc:1≤b.toNat∧b.toNat≤32∧b.toNat+1≤r2.length∧(r2.getD b.toNat 0).toNat≤8
  ·rw [if_pos hc] at h
   cases hx:getsF f (r2.getD b.toNat 0).toNat (r2.drop (b.toNat+1)) with
   | none=>rw [hx] at h;cases h
   | some t =>
    obtain ⟨l,r4⟩:=t
    rw [hx] at h
    dsimp only at h
    obtain ⟨b1,b2,b4,b5⟩:=gets_back k f hf _ _ _ _ hx
    injection h with h
    injection h with h1 h2
    subst h1 h2
    have hlt:b.toNat < r2.length:=hc.2.2.1
    have e3:r2.getD b.toNat 0=r2[b.toNat]:=by rw [List.getD_eq_getElem?_getD,List.getElem?_eq_getElem hlt];rfl
    have hs:(bs (r2.take b.toNat)).size=b.toNat:=by rw [bs_len,List.length_take];omega
    have hsd:(bs (r2.take b.toNat)).data.toList=r2.take b.toNat:=by simp [bs]
    have hr2:r2=r2.take b.toNat++r2.getD b.toNat 0 :: (encDs l++r4):=by rw [← b1,e3,← List.drop_eq_getElem_cons hlt,List.take_append_drop]
    refine ⟨?_,?_,?_⟩
    ·rw [encD,if_pos rfl,hsd,byteZ_of hs,byteZ_of b5]
     conv=>lhs;rw [hr2]
     simp
    ·rw [fitD,if_pos rfl,hs,b5,b2,decide_eq_true hc.1,decide_eq_true hc.2.1,decide_eq_true hc.2.2.2];rfl
    ·rw [depD,if_pos rfl];omega
  ·rw [if_neg hc] at h;cases h
theorem get_back:∀ (k:Nat) (p:List UInt8) (y:DaT) (r:List UInt8),getP k p=some (y,r)→p=encD y++r∧fitD y=true∧depD y≤k
 | 0,_,_,_,h=>by rw [getP] at h;cases h
 | k+1,[],y,r,h=>by cases h
 | k+1,t :: r1,y,r,h=>by
  have h:(if t.toNat=0∧8≤r1.length then some (DaT.mk false (wrap64 ((lowN (r1.take 8):Nat):Int)) ⟨#[]⟩ [],r1.drop 8) else if t.toNat=1 then strG (getP k) r1 else none)=some (y,r):=h
  by_cases h0:t.toNat=0∧8≤r1.length
  ·rw [if_pos h0] at h
   have h8:(r1.take 8).length=8:=by rw [List.length_take];omega
   injection h with h
   injection h with h1 h2
   subst h1 h2
   have ht0:t=0:=UInt8.toNat.inj h0.1
   refine ⟨?_,?_,?_⟩
   ·rw [encD,if_neg (by decide),le8_low h8,ht0,List.append_assoc,List.take_append_drop];rfl
   ·rw [fitD];rfl
   ·rw [depD];simp
  ·rw [if_neg h0] at h
   by_cases h1:t.toNat=1
   ·rw [if_pos h1] at h
    have ht1:t=1:=UInt8.toNat.inj h1
    obtain ⟨a1,a2,a4⟩:=strG_back k (getP k) (get_back k) r1 y r h
    exact ⟨by rw [ht1];exact a1,a2,a4⟩
   ·rw [if_neg h1] at h;cases h
/-- What the reference takes, the program takes, unless it is too large; and it is the same. -/
theorem get_dec {k n:Nat} {p:List UInt8} {y:DaT} {r:List UInt8} (h:getP k p=some (y,r)) (hn:n+sizeD y≤4096):dec k n p=some (y,r,n+sizeD y):=by
 obtain ⟨h1,h2,h3⟩:=get_back k p y r h
 obtain ⟨y2,h4⟩:=dec_enc k n y r h2 h3 hn
 rw [← h1] at h4
 have h5:=dec_get k n p y2 r _ h4
 rw [h] at h5
 injection h5 with h5
 injection h5 with h5 _
 rw [h4,← h5]
theorem decs_le (f:Nat→List UInt8→Option (DaT × List UInt8 × Nat)) (hf:∀ (n:Nat) (p:List UInt8) (y:DaT) (r:List UInt8) (m:Nat),f n p=some (y,r,m)→m≤4096) :
  ∀ (c n:Nat) (p:List UInt8) (l:List DaT) (r:List UInt8) (m:Nat),n≤4096→decsF f c n p=some (l,r,m)→m≤4096
 | 0,n,p,l,r,m,hn,h=>by
  rw [decsF] at h
  obtain ⟨rfl,rfl,rfl⟩:=h
  exact hn
 | c+1,n,p,l,r,m,hn,h=>by
  rw [decsF] at h
  split at h
  ·cases h
  ·rename_i x r1 n1 h1
   split at h
   ·cases h
   ·rename_i l1 r2 n2 h2
    obtain ⟨rfl,rfl,rfl⟩:=h
    exact decs_le f hf c _ _ _ _ _ (hf _ _ _ _ _ h1) h2
theorem str_le (f:Nat→List UInt8→Option (DaT × List UInt8 × Nat)) (hf:∀ (n:Nat) (p:List UInt8) (y:DaT) (r:List UInt8) (m:Nat),f n p=some (y,r,m)→m≤4096)
  (n:Nat) (p:List UInt8) (y:DaT) (r:List UInt8) (m:Nat) (hn:n≤4096) (h:strD f n p=some (y,r,m)):m≤4096:=by
 cases p with
 | nil=>rw [strD] at h;cases h
 | cons b r2 =>
  rw [strD] at h
  split at h
  ·split at h
   ·cases h
   ·split at h
    ·split at h
     ·cases h
     ·rename_i hx
      obtain ⟨rfl,rfl,rfl⟩:=h
      exact decs_le f hf _ _ _ _ _ _ hn hx
    ·cases h
  ·cases h
theorem dec_le:∀ (k n:Nat) (p:List UInt8) (y:DaT) (r:List UInt8) (m:Nat),dec k n p=some (y,r,m)→m≤4096
 | 0,_,_,_,_,_,h=>by rw [dec] at h;cases h
 | k+1,n,[],y,r,m,h=>by
  have h:(if 4096 < n+1 then none else none)=some (y,r,m):=h
  split at h <;> cases h
 | k+1,n,t :: r1,y,r,m,h=>by
  have h:(if 4096 < n+1 then none else if t.toNat=0 then (if r1.length < 8 then none else some (DaT.mk false (numP (r1.take 8) 8) ⟨#[]⟩ [],r1.drop 8,n+1)) else if t.toNat=1 then strD (dec k) (n+1) r1 else none)=some (y,r,m):=h
  by_cases hb:4096 < n+1
  ·rw [if_pos hb] at h;cases h
  ·rw [if_neg hb] at h
   by_cases h0:t.toNat=0
   ·rw [if_pos h0] at h
    by_cases hl:r1.length < 8
    ·rw [if_pos hl] at h;cases h
    ·rw [if_neg hl] at h
     injection h with h
     injection h with h1 h2
     injection h2 with h2 h3
     omega
   ·rw [if_neg h0] at h
    by_cases h1:t.toNat=1
    ·rw [if_pos h1] at h
     exact str_le (dec k) (dec_le k) (n+1) r1 y r m (by omega) h
    ·rw [if_neg h1] at h;cases h
/-- The whole: the program takes these bytes as data just if the reference takes them and finds them good. -/
theorem dec_whole (p:List UInt8) (y:DaT):(∃ m,dec 200 0 p=some (y,[],m)) ↔ (getP 200 p=some (y,[])∧goodD y=true):=by
 constructor
 ·rintro ⟨m,h⟩
  obtain ⟨_,_,h3,h4⟩:=dec_back 200 0 p y [] m h
  have h5:m≤4096:=dec_le _ _ _ _ _ _ h
  exact ⟨dec_get _ _ _ _ _ _ h,by rw [goodD,decide_eq_true (show sizeD y≤4096 by omega),decide_eq_true h4];rfl⟩
 ·rintro ⟨h,hg⟩
  rw [goodD,Bool.and_eq_true] at hg
  have hg1:=of_decide_eq_true hg.1
  exact ⟨_,get_dec h (by omega)⟩
end Lx
end Go.Proofs.YtnpacamcgifabaaDoor
