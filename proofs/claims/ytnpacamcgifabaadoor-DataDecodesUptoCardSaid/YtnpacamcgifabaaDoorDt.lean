/- The decoder, purely: what is written is read; what is cut short is not; more behind is left. No program stands in this text; no conditions. -/
import Derived.Test.YtnpacamcgifabaaDoorDs
import Derived.Test.YtnpacamcgifabaaDoorDg
namespace Go.Proofs.YtnpacamcgifabaaDoor
set_option linter.unusedSimpArgs false
set_option linter.unusedVariables false
namespace Lx
open Go Go.RowKit
theorem byteZ_small {n:Nat} (h:n < 256):(byteZ (n:Int)).toNat=n:=by
 have h1:=byteZ_nat (n:Int)
 omega
theorem le8_len (n:Int):(le8 n).length=8:=by simp [le8]
theorem decs_enc (k:Nat) (f:Nat→List UInt8→Option (DaT × List UInt8 × Nat)) (hf:∀ (n:Nat) (x:DaT) (r:List UInt8),fitD x=true→depD x≤k→n+sizeD x≤4096→∃ y,f n (encD x++r)=some (y,r,n+sizeD x)) :
  ∀ (l:List DaT) (n:Nat) (r:List UInt8),fitDs l=true→depDs l≤k→n+sizeDs l≤4096→∃ ys,decsF f l.length n (encDs l++r)=some (ys,r,n+sizeDs l)
 | [],n,r,_,_,_=>⟨[],by simp [decsF,encDs,sizeDs]⟩
 | x :: l,n,r,h1,h2,h3=>by
  rw [fitDs,Bool.and_eq_true] at h1
  rw [depDs] at h2
  rw [sizeDs] at h3
  obtain ⟨y,hy⟩:=hf n x (encDs l++r) h1.1 (by omega) (by omega)
  obtain ⟨ys,hys⟩:=decs_enc k f hf l (n+sizeD x) r h1.2 (by omega) (by omega)
  refine ⟨y :: ys,?_⟩
  rw [encDs,List.append_assoc,List.length_cons,decsF,hy]
  show (match decsF f l.length (n+sizeD x) (encDs l++r) with | none=>none | some (l,r2,n2)=>some (y :: l,r2,n2))=_
  rw [hys,sizeDs]
  simp [Nat.add_assoc]
theorem dec_enc:∀ (k n:Nat) (x:DaT) (r:List UInt8),fitD x=true→depD x≤k→n+sizeD x≤4096→∃ y,dec k n (encD x++r)=some (y,r,n+sizeD x)
 | 0,n,x,r,_,h,_=>by have:=depD_pos x;omega
 | k+1,n,.mk c z s l,r,h1,h2,h3=>by
  cases c
  ·have e:encD (.mk false z s l)++r=0 :: (le8 z++r):=by rw [encD];simp
   have es:sizeD (.mk false z s l)=1:=by rw [sizeD];simp
   rw [e,es]
   rw [es] at h3
   refine ⟨.mk false (numP ((le8 z++r).take 8) 8) ⟨#[]⟩ [],?_⟩
   show (if 4096 < n+1 then none else if (0:UInt8).toNat=0 then (if (le8 z++r).length < 8 then none else _) else _)=_
   have hl:=le8_len z
   rw [if_neg (by omega),if_pos (by decide),if_neg (by rw [List.length_append];omega)]
   rw [List.drop_left' hl]
  ·rw [fitD,if_pos rfl] at h1
   simp only [Bool.and_eq_true,decide_eq_true_eq] at h1
   have es:sizeD (.mk true z s l)=1+sizeDs l:=by rw [sizeD];simp
   have ed:depD (.mk true z s l)=1+depDs l:=by rw [depD];simp
   rw [es] at h3 ⊢
   rw [ed] at h2
   obtain ⟨ys,hys⟩:=decs_enc k (dec k) (dec_enc k) l (n+1) r h1.2 (by omega) (by omega)
   have e:encD (.mk true z s l)++r=1 :: byteZ s.size :: (s.data.toList++(byteZ l.length :: (encDs l++r))):=by rw [encD];simp
   have hb1:=byteZ_small (n:=s.size) (by omega)
   have hb2:=byteZ_small (n:=l.length) (by omega)
   have hsl:s.data.toList.length=s.size:=by simp
   rw [e]
   refine ⟨.mk true 0 (bs ((s.data.toList++(byteZ l.length :: (encDs l++r))).take (byteZ s.size).toNat)) ys,?_⟩
   show (if 4096 < n+1 then none else if (1:UInt8).toNat=0 then _ else if (1:UInt8).toNat=1 then strD (dec k) (n+1) (byteZ s.size :: (s.data.toList++(byteZ l.length :: (encDs l++r)))) else none)=_
   rw [if_neg (by omega),if_neg (by decide),if_pos (by decide),strD,if_pos (by rw [hb1,List.length_append];omega)]
   have hd:(s.data.toList++(byteZ l.length :: (encDs l++r))).drop (byteZ s.size).toNat=byteZ l.length :: (encDs l++r):=by rw [hb1];exact List.drop_left' hsl
   rw [hd]
   show (if (byteZ l.length).toNat≤8 then _ else none)=_
   rw [hb2,if_pos h1.1.2,hys]
   simp [Nat.add_assoc,Nat.add_comm,Nat.add_left_comm]
theorem decs_ext (f:Nat→List UInt8→Option (DaT × List UInt8 × Nat)) (hf:∀ (n:Nat) (p q:List UInt8) (y:DaT) (r:List UInt8) (m:Nat),f n p=some (y,r,m)→f n (p++q)=some (y,r++q,m)) :
  ∀ (c n:Nat) (p q:List UInt8) (ys:List DaT) (r:List UInt8) (m:Nat),decsF f c n p=some (ys,r,m)→decsF f c n (p++q)=some (ys,r++q,m)
 | 0,n,p,q,ys,r,m,h=>by
  rw [decsF] at h ⊢
  injection h with h
  injection h with h1 h2
  injection h2 with h2 h3
  rw [h1,h2,h3]
 | c+1,n,p,q,ys,r,m,h=>by
  rw [decsF] at h ⊢
  cases hx:f n p with
  | none=>rw [hx] at h;cases h
  | some u =>
   obtain ⟨x,r1,n1⟩:=u
   rw [hx] at h
   rw [hf n p q x r1 n1 hx]
   dsimp only at h ⊢
   cases hy:decsF f c n1 r1 with
   | none=>rw [hy] at h;cases h
   | some u2 =>
    obtain ⟨l,r2,n2⟩:=u2
    rw [hy] at h
    rw [decs_ext f hf c n1 r1 q l r2 n2 hy]
    dsimp only at h ⊢
    injection h with h
    injection h with h1 h2
    injection h2 with h2 h3
    rw [h1,h2,h3]
theorem str_ext (f:Nat→List UInt8→Option (DaT × List UInt8 × Nat)) (hf:∀ (n:Nat) (p q:List UInt8) (y:DaT) (r:List UInt8) (m:Nat),f n p=some (y,r,m)→f n (p++q)=some (y,r++q,m)) (n:Nat) (p q:List UInt8) (y:DaT) (r:List UInt8) (m:Nat) (h:strD f n p=some (y,r,m)):strD f n (p++q)=some (y,r++q,m):=by
 cases p with
 | nil=>rw [strD] at h;cases h
 | cons b r2 =>
  rw [strD] at h
  by_cases hc:1≤b.toNat∧b.toNat≤32∧b.toNat≤r2.length
  ·rw [if_pos hc] at h
   rw [List.cons_append,strD,if_pos ⟨hc.1,hc.2.1,by rw [List.length_append];omega⟩,List.drop_append_of_le_length hc.2.2,List.take_append_of_le_length hc.2.2]
   cases hd:r2.drop b.toNat with
   | nil=>rw [hd] at h;cases h
   | cons a r3 =>
    rw [hd] at h
    rw [List.cons_append]
    dsimp only at h ⊢
    by_cases ha:a.toNat≤8
    ·rw [if_pos ha] at h ⊢
     cases hy:decsF f a.toNat n r3 with
     | none=>rw [hy] at h;cases h
     | some u =>
      obtain ⟨l,r4,n4⟩:=u
      rw [hy] at h
      rw [decs_ext f hf a.toNat n r3 q l r4 n4 hy]
      dsimp only at h ⊢
      injection h with h
      injection h with h1 h2
      injection h2 with h2 h3
      rw [h1,h2,h3]
    ·rw [if_neg ha] at h
     cases h
  ·rw [if_neg hc] at h
   cases h
theorem dec_ext:∀ (k n:Nat) (p q:List UInt8) (y:DaT) (r:List UInt8) (m:Nat),dec k n p=some (y,r,m)→dec k n (p++q)=some (y,r++q,m)
 | 0,_,_,_,_,_,_,h=>by rw [dec] at h;cases h
 | k+1,n,[],q,y,r,m,h=>by
  have h:(if 4096 < n+1 then none else none)=some (y,r,m):=h
  split at h <;> cases h
 | k+1,n,t :: r1,q,y,r,m,h=>by
  have h:(if 4096 < n+1 then none else if t.toNat=0 then (if r1.length < 8 then none else some (DaT.mk false (numP (r1.take 8) 8) ⟨#[]⟩ [],r1.drop 8,n+1)) else if t.toNat=1 then strD (dec k) (n+1) r1 else none)=some (y,r,m):=h
  show (if 4096 < n+1 then none else if t.toNat=0 then (if (r1++q).length < 8 then none else some (DaT.mk false (numP ((r1++q).take 8) 8) ⟨#[]⟩ [],(r1++q).drop 8,n+1)) else if t.toNat=1 then strD (dec k) (n+1) (r1++q) else none)=some (y,r++q,m)
  by_cases hb:4096 < n+1
  ·rw [if_pos hb] at h;cases h
  ·rw [if_neg hb] at h ⊢
   by_cases h0:t.toNat=0
   ·rw [if_pos h0] at h ⊢
    by_cases h8:r1.length < 8
    ·rw [if_pos h8] at h;cases h
    ·rw [if_neg h8] at h
     rw [if_neg (by rw [List.length_append];omega),List.take_append_of_le_length (by omega),List.drop_append_of_le_length (by omega)]
     injection h with h
     injection h with h1 h2
     injection h2 with h2 h3
     rw [h1,h2,h3]
   ·rw [if_neg h0] at h ⊢
    by_cases h1:t.toNat=1
    ·rw [if_pos h1] at h ⊢
     exact str_ext (dec k) (dec_ext k) (n+1) r1 q y r m h
    ·rw [if_neg h1] at h;cases h
/-- Bytes cut short are refused. -/
theorem dec_short {x:DaT} {c:Nat} (hf:fitD x=true) (hg:goodD x=true) (hc:c < (encD x).length):¬ ∃ y m,dec 200 0 ((encD x).take c)=some (y,[],m):=by
 rintro ⟨y,m,h⟩
 unfold goodD at hg
 simp only [Bool.and_eq_true,decide_eq_true_eq] at hg
 have h2:=dec_ext 200 0 _ ((encD x).drop c) y [] m h
 rw [List.take_append_drop] at h2
 obtain ⟨z,hz⟩:=dec_enc 200 0 x [] hf hg.2 (by omega)
 rw [List.append_nil,h2] at hz
 injection hz with hz
 injection hz with h3 h4
 injection h4 with h4 h5
 have h6:=congrArg List.length h4
 simp at h6
 omega
theorem dec_more {x:DaT} {q:List UInt8} (hf:fitD x=true) (hg:goodD x=true):(∃ y m,dec 200 0 (encD x++q)=some (y,[],m)) ↔ q=[]:=by
 unfold goodD at hg
 simp only [Bool.and_eq_true,decide_eq_true_eq] at hg
 obtain ⟨z,hz⟩:=dec_enc 200 0 x q hf hg.2 (by omega)
 constructor
 ·rintro ⟨y,m,h⟩
  rw [hz] at h
  simp only [Option.some.injEq,Prod.mk.injEq] at h
  exact h.2.1
 ·rintro rfl
  exact ⟨z,_,hz⟩
theorem enc_pos (x:DaT):1≤(encD x).length:=by
 obtain ⟨c,n,s,l⟩:=x
 rw [encD]
 cases c
 ·simp
 ·simp
end Lx
end Go.Proofs.YtnpacamcgifabaaDoor
