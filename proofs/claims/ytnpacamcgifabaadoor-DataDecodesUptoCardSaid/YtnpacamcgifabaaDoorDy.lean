/- The decoder, purely: what is read was written so (its bytes are those of what came of it), and a number's value. No program stands in this text; no conditions. -/
import Derived.Test.YtnpacamcgifabaaDoorDt
namespace Go.Proofs.YtnpacamcgifabaaDoor
set_option linter.unusedSimpArgs false
set_option linter.unusedVariables false
namespace Lx
open Go Go.RowKit
/-- A number by its bytes, the low one first. -/
def lowN:List UInt8→Nat
 | []=>0
 | b :: l=>b.toNat+256 * lowN l
theorem lowN_snoc:∀ (l:List UInt8) (b:UInt8),lowN (l++[b])=lowN l+b.toNat * 256 ^ l.length
 | [],b=>by simp [lowN]
 | a :: l,b=>by
  rw [List.cons_append,lowN,lowN,lowN_snoc l b,List.length_cons,Nat.pow_succ,Nat.mul_add,Nat.add_assoc]
  congr 2
  rw [Nat.mul_comm 256,Nat.mul_assoc]
theorem byte_lt (b:UInt8):b.toNat < 256:=b.toNat_lt
theorem lowN_lt:∀ l:List UInt8,lowN l < 256 ^ l.length
 | []=>by simp [lowN]
 | b :: l=>by
  have h:=lowN_lt l
  have hb:=byte_lt b
  rw [lowN,List.length_cons,Nat.pow_succ]
  omega
theorem ofInt_wrap (n:Nat):(BitVec.ofInt 64 (wrap64 (n:Int))).toNat=n % 18446744073709551616:=by
 rw [BitVec.toNat_ofInt]
 unfold wrap64
 omega
theorem or_i64 (a b i:Nat) (ha:a < 2 ^ i) (hs:a+b * 2 ^ i < 18446744073709551616):bits .or .i64 (wrap64 (a:Int)) (wrap64 ((b * 2 ^ i:Nat):Int))=wrap64 ((a+b * 2 ^ i:Nat):Int):=by
 show IntKind.i64.wrap ((BitVec.ofInt 64 (wrap64 (a:Int)) ||| BitVec.ofInt 64 (wrap64 ((b * 2 ^ i:Nat):Int))).toNat:Int)=_
 rw [BitVec.toNat_or,ofInt_wrap,ofInt_wrap,Nat.mod_eq_of_lt (by omega),Nat.mod_eq_of_lt (by omega),Nat.or_comm,← Nat.shiftLeft_eq,← Nat.shiftLeft_add_eq_or_of_lt ha,Nat.add_comm]
 generalize a+b <<< i=q
 unfold IntKind.wrap wrap64
 simp [IntKind.bits,IntKind.signed]
 split <;> omega
theorem numP_low (l:List UInt8):∀ i,i≤8→i≤l.length→numP l i=wrap64 ((lowN (l.take i):Nat):Int)
 | 0,_,_=>by simp [numP,lowN,wrap64]
 | i+1,h8,hl=>by
  have hlt:i < l.length:=by omega
  have hN:=lowN_lt (l.take i)
  have hb:=byte_lt (l.getD i 0)
  rw [List.length_take,Nat.min_eq_left (by omega)] at hN
  have hp:(256:Nat) ^ i=2 ^ (8 * i):=by rw [Nat.pow_mul]
  rw [hp] at hN
  have hle:(2:Nat) ^ (8 * i)≤2 ^ 56:=Nat.pow_le_pow_right (by decide) (by omega)
  have hsum:lowN (l.take i)+(l.getD i 0).toNat * 2 ^ (8 * i) < 18446744073709551616:=by
   have:=Nat.mul_le_mul (Nat.le_of_lt_succ hb) hle
   omega
  rw [numP,numP_low l i (by omega) (by omega),List.take_succ_eq_append_getElem hlt,lowN_snoc,List.length_take,Nat.min_eq_left (by omega),hp]
  have e1:wrap64 ((l.getD i 0).toNat:Int)=((l.getD i 0).toNat:Int):=by unfold wrap64;omega
  have e2:((l.getD i 0).toNat:Int) * 2 ^ (8 * i)=(((l.getD i 0).toNat * 2 ^ (8 * i):Nat):Int):=by push_cast;rfl
  have e3:l.getD i 0=l[i]:=by rw [List.getD_eq_getElem?_getD,List.getElem?_eq_getElem hlt];rfl
  rw [e1,e2,or_i64 _ _ _ hN hsum,e3]
theorem byteZ_eq {z:Int} {b:UInt8} (h:z % 256=(b.toNat:Int)):byteZ z=b:=by
 apply UInt8.toNat.inj
 have:=byteZ_nat z
 omega
theorem le_low:∀ (l:List UInt8) (q:Int),(List.range l.length).map (fun i=>byteZ (((lowN l:Int)+256 ^ l.length * q) / 2 ^ (8 * i)))=l
 | [],_=>rfl
 | b :: l,q=>by
  have hb:=byte_lt b
  have hpow:(256:Int) ^ (l.length+1) * q=256 * (256 ^ l.length * q):=by rw [Int.pow_succ,Int.mul_comm _ 256,Int.mul_assoc]
  have hM:((lowN (b :: l):Nat):Int)+256 ^ (b :: l).length * q=(b.toNat:Int)+256 * ((lowN l:Int)+256 ^ l.length * q):=by
   rw [List.length_cons,hpow,lowN];omega
  rw [hM,List.length_cons,List.range_succ_eq_map,List.map_cons,List.map_map]
  generalize hz:(lowN l:Int)+256 ^ l.length * q=z
  have h1:=le_low l q
  rw [hz] at h1
  congr 1
  ·exact byteZ_eq (by rw [show (2:Int) ^ (8 * 0)=1 by rfl];omega)
  ·refine Eq.trans (List.map_congr_left fun i _=>?_) h1
   show byteZ (((b.toNat:Int)+256 * z) / 2 ^ (8 * (i+1)))=byteZ (z / 2 ^ (8 * i))
   rw [show (2:Int) ^ (8 * (i+1))=256 * 2 ^ (8 * i) by rw [show 8 * (i+1)=8+8 * i by omega,Int.pow_add];rfl,← Int.ediv_ediv_of_nonneg (by decide),show ((b.toNat:Int)+256 * z) / 256=z by omega]
theorem le8_low {l:List UInt8} (h:l.length=8):le8 (wrap64 ((lowN l:Nat):Int))=l:=by
 obtain ⟨q,hq⟩:∃ q:Int,wrap64 ((lowN l:Nat):Int)=(lowN l:Int)+256 ^ l.length * q:=by
  refine ⟨-(((lowN l:Int)+9223372036854775808) / 18446744073709551616),?_⟩
  rw [h,show (256:Int) ^ 8=18446744073709551616 by decide]
  unfold wrap64
  omega
 have h1:=le_low l q
 rw [← hq,h] at h1
 exact h1
theorem decs_back (k:Nat) (f:Nat→List UInt8→Option (DaT × List UInt8 × Nat)) (hf:∀ (n:Nat) (p:List UInt8) (y:DaT) (r:List UInt8) (m:Nat),f n p=some (y,r,m)→p=encD y++r∧fitD y=true∧m=n+sizeD y∧depD y≤k) :
  ∀ (c n:Nat) (p:List UInt8) (l:List DaT) (r:List UInt8) (m:Nat),decsF f c n p=some (l,r,m)→p=encDs l++r∧fitDs l=true∧m=n+sizeDs l∧depDs l≤k∧l.length=c
 | 0,n,p,l,r,m,h=>by
  rw [decsF] at h
  obtain ⟨rfl,rfl,rfl⟩:=h
  exact ⟨by rw [encDs];rfl,by rw [fitDs],by rw [sizeDs];rfl,by rw [depDs];omega,rfl⟩
 | c+1,n,p,l,r,m,h=>by
  rw [decsF] at h
  split at h
  ·cases h
  ·rename_i x r1 n1 h1
   split at h
   ·cases h
   ·rename_i l1 r2 n2 h2
    obtain ⟨rfl,rfl,rfl⟩:=h
    obtain ⟨a1,a2,a3,a4⟩:=hf _ _ _ _ _ h1
    obtain ⟨b1,b2,b3,b4,b5⟩:=decs_back k f hf c _ _ _ _ _ h2
    refine ⟨?_,?_,?_,?_,?_⟩
    ·rw [encDs,a1,b1,List.append_assoc]
    ·rw [fitDs,a2,b2];rfl
    ·rw [sizeDs,b3,a3];omega
    ·rw [depDs];omega
    ·rw [List.length_cons,b5]
theorem byteZ_of {b:UInt8} {n:Nat} (h:n=b.toNat):byteZ (n:Int)=b:=byteZ_eq (by have:=byte_lt b;omega)
theorem str_back (k:Nat) (f:Nat→List UInt8→Option (DaT × List UInt8 × Nat)) (hf:∀ (n:Nat) (p:List UInt8) (y:DaT) (r:List UInt8) (m:Nat),f n p=some (y,r,m)→p=encD y++r∧fitD y=true∧m=n+sizeD y∧depD y≤k)
  (n:Nat) (p:List UInt8) (y:DaT) (r:List UInt8) (m:Nat) (h:strD f n p=some (y,r,m)):1 :: p=encD y++r∧fitD y=true∧m+1=n+sizeD y∧depD y≤k+1:=by
 cases p with
 | nil=>rw [strD] at h;cases h
 | cons b r2 =>
  rw [strD] at h
  by_cases hc:1≤b.toNat∧b.toNat≤32∧b.toNat≤r2.length
  ·rw [if_pos hc] at h
   cases hd:r2.drop b.toNat with
   | nil=>rw [hd] at h;cases h
   | cons a r3 =>
    rw [hd] at h
    dsimp only at h
    by_cases ha:a.toNat≤8
    ·rw [if_pos ha] at h
     cases hx:decsF f a.toNat n r3 with
     | none=>rw [hx] at h;cases h
     | some t =>
      obtain ⟨l,r4,n4⟩:=t
      rw [hx] at h
      dsimp only at h
      obtain ⟨b1,b2,b3,b4,b5⟩:=decs_back k f hf _ _ _ _ _ _ hx
      injection h with h
      injection h with h1 h2
      injection h2 with h2 h3
      subst h1 h2 h3
      have hs:(bs (r2.take b.toNat)).size=b.toNat:=by rw [bs_len,List.length_take];omega
      have hsd:(bs (r2.take b.toNat)).data.toList=r2.take b.toNat:=by simp [bs]
      have hr2:r2=r2.take b.toNat++a :: (encDs l++r4):=by rw [← b1,← hd,List.take_append_drop]
      refine ⟨?_,?_,?_,?_⟩
      ·rw [encD,if_pos rfl,hsd,byteZ_of hs,byteZ_of b5]
       conv=>lhs;rw [hr2]
       simp
      ·rw [fitD,if_pos rfl,hs,b5,b2,decide_eq_true hc.1,decide_eq_true hc.2.1,decide_eq_true ha];rfl
      ·rw [sizeD,if_pos rfl,b3];omega
      ·rw [depD,if_pos rfl];omega
    ·rw [if_neg ha] at h;cases h
  ·rw [if_neg hc] at h;cases h
/-- What is taken is written as it was. -/
theorem dec_back:∀ (k n:Nat) (p:List UInt8) (y:DaT) (r:List UInt8) (m:Nat),dec k n p=some (y,r,m)→p=encD y++r∧fitD y=true∧m=n+sizeD y∧depD y≤k
 | 0,_,_,_,_,_,h=>by rw [dec] at h;cases h
 | k+1,n,[],y,r,m,h=>by
  have h:(if 4096 < n+1 then none else none)=some (y,r,m):=h
  split at h <;> cases h
 | k+1,n,t :: r1,y,r,m,h=>by
  have h:(if 4096 < n+1 then none else if t.toNat=0 then (if r1.length < 8 then none else some (DaT.mk false (numP (r1.take 8) 8) ⟨#[]⟩ [],r1.drop 8,n+1)) else if t.toNat=1 then strD (dec k) (n+1) r1 else none)=some (y,r,m):=h
  by_cases hb:4096 < n+1
  ·rw [if_pos hb] at h;cases h
  ·rw [if_neg hb] at h
   by_cases h0:t.toNat=0
   ·rw [if_pos h0] at h
    by_cases hl:r1.length < 8
    ·rw [if_pos hl] at h;cases h
    ·rw [if_neg hl] at h
     have h8:(r1.take 8).length=8:=by rw [List.length_take];omega
     injection h with h
     injection h with h1 h2
     injection h2 with h2 h3
     subst h1 h2 h3
     have ht0:t=0:=UInt8.toNat.inj h0
     refine ⟨?_,?_,?_,?_⟩
     ·rw [encD,if_neg (by decide),numP_low _ 8 (by omega) (by omega),List.take_of_length_le (Nat.le_of_eq h8),le8_low h8,ht0,List.append_assoc,List.take_append_drop];rfl
     ·rw [fitD];rfl
     ·rw [sizeD];rfl
     ·rw [depD];simp
   ·rw [if_neg h0] at h
    by_cases h1:t.toNat=1
    ·rw [if_pos h1] at h
     have ht1:t=1:=UInt8.toNat.inj h1
     obtain ⟨a1,a2,a3,a4⟩:=str_back k (dec k) (dec_back k) (n+1) r1 y r m h
     exact ⟨by rw [ht1];exact a1,a2,by omega,a4⟩
    ·rw [if_neg h1] at h;cases h
/-- The reference's reading: so many, one behind the other. -/
def getsF (f:List UInt8→Option (DaT × List UInt8)):Nat→List UInt8→Option (List DaT × List UInt8)
 | 0,r=>some ([],r)
 | c+1,r=>match f r with
  | none=>none
  | some (x,r1)=>match getsF f c r1 with
   | none=>none
   | some (l,r2)=>some (x :: l,r2)
def strG (f:List UInt8→Option (DaT × List UInt8)):List UInt8→Option (DaT × List UInt8)
 | []=>none
 | b :: r2=>if 1≤b.toNat∧b.toNat≤32∧b.toNat+1≤r2.length∧(r2.getD b.toNat 0).toNat≤8 then (match getsF f (r2.getD b.toNat 0).toNat (r2.drop (b.toNat+1)) with
   | none=>none
   | some (l,r4)=>some (.mk true 0 (bs (r2.take b.toNat)) l,r4)) else none
def getP:Nat→List UInt8→Option (DaT × List UInt8)
 | 0,_=>none
 | k+1,r=>match r with
  | []=>none
  | t :: r1=>if t.toNat=0∧8≤r1.length then some (.mk false (wrap64 ((lowN (r1.take 8):Nat):Int)) ⟨#[]⟩ [],r1.drop 8)
   else if t.toNat=1 then strG (getP k) r1 else none
theorem decs_get (f:Nat→List UInt8→Option (DaT × List UInt8 × Nat)) (g:List UInt8→Option (DaT × List UInt8)) (hf:∀ (n:Nat) (p:List UInt8) (y:DaT) (r:List UInt8) (m:Nat),f n p=some (y,r,m)→g p=some (y,r)) :
  ∀ (c n:Nat) (p:List UInt8) (l:List DaT) (r:List UInt8) (m:Nat),decsF f c n p=some (l,r,m)→getsF g c p=some (l,r)
 | 0,n,p,l,r,m,h=>by
  rw [decsF] at h
  obtain ⟨rfl,rfl,rfl⟩:=h
  rw [getsF]
 | c+1,n,p,l,r,m,h=>by
  rw [decsF] at h
  split at h
  ·cases h
  ·rename_i x r1 n1 h1
   split at h
   ·cases h
   ·rename_i l1 r2 n2 h2
    obtain ⟨rfl,rfl,rfl⟩:=h
    rw [getsF,hf _ _ _ _ _ h1]
    dsimp only
    rw [decs_get f g hf c _ _ _ _ _ h2]
theorem str_get (f:Nat→List UInt8→Option (DaT × List UInt8 × Nat)) (g:List UInt8→Option (DaT × List UInt8)) (hf:∀ (n:Nat) (p:List UInt8) (y:DaT) (r:List UInt8) (m:Nat),f n p=some (y,r,m)→g p=some (y,r))
  (n:Nat) (p:List UInt8) (y:DaT) (r:List UInt8) (m:Nat) (h:strD f n p=some (y,r,m)):strG g p=some (y,r):=by
 cases p with
 | nil=>rw [strD] at h;cases h
 | cons b r2 =>
  rw [strD] at h
  by_cases hc:1≤b.toNat∧b.toNat≤32∧b.toNat≤r2.length
  ·rw [if_pos hc] at h
   cases hd:r2.drop b.toNat with
   | nil=>rw [hd] at h;cases h
   | cons a r3 =>
    rw [hd] at h
    dsimp only at h
    have hlen:b.toNat < r2.length:=by
     have:=congrArg List.length hd
     rw [List.length_drop,List.length_cons] at this
     omega
    have hd2:=List.drop_eq_getElem_cons hlen
    rw [hd] at hd2
    injection hd2 with e1 e2
    have e3:r2.getD b.toNat 0=a:=by rw [List.getD_eq_getElem?_getD,List.getElem?_eq_getElem hlen,e1];rfl
    by_cases ha:a.toNat≤8
    ·rw [if_pos ha] at h
     rw [strG,e3,if_pos ⟨hc.1,hc.2.1,hlen,ha⟩,← e2]
     cases hx:decsF f a.toNat n r3 with
     | none=>rw [hx] at h;cases h
     | some t =>
      obtain ⟨l,r4,n4⟩:=t
      rw [hx] at h
      dsimp only at h
      injection h with h
      injection h with h1 h2
      injection h2 with h2 h3
      subst h1 h2 h3
      rw [decs_get f g hf _ _ _ _ _ _ hx]
    ·rw [if_neg ha] at h;cases h
  ·rw [if_neg hc] at h;cases h
/-- What the program takes, the reference takes, and it is the same. -/
theorem dec_get:∀ (k n:Nat) (p:List UInt8) (y:DaT) (r:List UInt8) (m:Nat),dec k n p=some (y,r,m)→getP k p=some (y,r)
 | 0,_,_,_,_,_,h=>by rw [dec] at h;cases h
 | k+1,n,[],y,r,m,h=>by
  have h:(if 4096 < n+1 then none else none)=some (y,r,m):=h
  split at h <;> cases h
 | k+1,n,t :: r1,y,r,m,h=>by
  have h:(if 4096 < n+1 then none else if t.toNat=0 then (if r1.length < 8 then none else some (DaT.mk false (numP (r1.take 8) 8) ⟨#[]⟩ [],r1.drop 8,n+1)) else if t.toNat=1 then strD (dec k) (n+1) r1 else none)=some (y,r,m):=h
  show (if t.toNat=0∧8≤r1.length then some (DaT.mk false (wrap64 ((lowN (r1.take 8):Nat):Int)) ⟨#[]⟩ [],r1.drop 8) else if t.toNat=1 then strG (getP k) r1 else none)=some (y,r)
  by_cases hb:4096 < n+1
  ·rw [if_pos hb] at h;cases h
  ·rw [if_neg hb] at h
   by_cases h0:t.toNat=0
   ·rw [if_pos h0] at h
    by_cases hl:r1.length < 8
    ·rw [if_pos hl] at h;cases h
    ·rw [if_neg hl] at h
     have h8:(r1.take 8).length=8:=by rw [List.length_take];omega
     injection h with h
     injection h with h1 h2
     injection h2 with h2 h3
     subst h1 h2 h3
     rw [if_pos ⟨h0,by omega⟩,numP_low _ 8 (by omega) (by omega),List.take_of_length_le (Nat.le_of_eq h8)]
   ·rw [if_neg h0] at h
    by_cases h1:t.toNat=1
    ·rw [if_pos h1] at h
     rw [if_neg (fun q=>h0 q.1),if_pos h1]
     exact str_get (dec k) (getP k) (dec_get k) (n+1) r1 y r m h
    ·rw [if_neg h1] at h;cases h
end Lx
end Go.Proofs.YtnpacamcgifabaaDoor
