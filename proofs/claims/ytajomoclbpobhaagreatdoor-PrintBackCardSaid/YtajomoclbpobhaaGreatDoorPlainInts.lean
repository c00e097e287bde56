/- Plain facts: the tokens of an int's numeral, alone and behind a nought. No program stands in this text; no conditions. -/
import Derived.Test.YtajomoclbpobhaaGreatDoorRefA
import Derived.Test.YtajomoclbpobhaaGreatDoorPlainA
import Derived.Lib.ItoaLen
namespace Go.Proofs.YtajomoclbpobhaaGreatDoor
set_option linter.unusedSimpArgs false
set_option linter.unusedVariables false
namespace Lx
open Go
theorem dec_dig (u:Nat):allDig (Lib.decDigits u):=by
 induction u using Nat.strongRecOn with
 | _ u ih =>
  intro c hc
  rw [Lib.decDigits] at hc
  split at hc
  ·simp only [List.mem_cons,List.not_mem_nil,or_false] at hc
   subst hc
   rw [UInt8.toNat_ofNat']
   omega
  ·rename_i h
   rcases List.mem_append.1 hc with hc | hc
   ·exact ih (u / 10) (by omega) c hc
   ·simp only [List.mem_cons,List.not_mem_nil,or_false] at hc
    subst hc
    rw [UInt8.toNat_ofNat']
    omega
theorem dec_val (u:Nat):valN (Lib.decDigits u) 0=u:=by
 induction u using Nat.strongRecOn with
 | _ u ih =>
  rw [Lib.decDigits]
  split
  ·rename_i h
   rw [valN_cons,UInt8.toNat_ofNat']
   show 10 * 0+((48+u) % 256 - 48)=u
   omega
  ·rename_i h
   rw [valN_snoc,ih (u / 10) (by omega),UInt8.toNat_ofNat']
   omega
theorem dec_ne (u:Nat):Lib.decDigits u ≠ []:=by
 intro h
 have h1:=Lib.decDigits_length u
 have h2:=Lib.nDigits_pos u
 rw [h] at h1
 simp at h1
 omega
theorem run_dig_all:∀ l:List UInt8,allDig l→runL digI l=l.length
 | [],_=>rfl
 | c :: r,h=>by
  obtain ⟨h1,h2⟩:=h c (by simp)
  have hd:digI (c.toNat:Int)=true:=by
   unfold digI
   rw [decide_eq_true (by omega),decide_eq_true (by omega)]
   rfl
  simp only [runL,if_pos hd,List.length_cons]
  rw [run_dig_all r (fun x hx=>h x (by simp [hx]))]
theorem atoi_dec (z:List UInt8) (hz:z=[] ∨ z=[48]) (u:Nat) (hu:u < 9223372036854775808):Lib.atoiAll (z++Lib.decDigits u)=.ok (u:Int):=by
 have hd:allDig (z++Lib.decDigits u):=by
  intro c hc
  rcases List.mem_append.1 hc with hc | hc
  ·rcases hz with rfl | rfl
   ·simp at hc
   ·simp only [List.mem_cons,List.not_mem_nil,or_false] at hc
    subst hc
    decide
  ·exact dec_dig u c hc
 have hv:valN (z++Lib.decDigits u) 0=u:=by
  rcases hz with rfl | rfl
  ·exact dec_val u
  ·exact dec_val u
 have hne:z++Lib.decDigits u ≠ []:=by
  intro h
  exact dec_ne u (List.append_eq_nil_iff.1 h).2
 generalize z++Lib.decDigits u=l at *
 cases l with
 | nil=>exact absurd rfl hne
 | cons c r =>
  obtain ⟨h1,h2⟩:=hd c (by simp)
  rw [Lib.atoiAll_plain c r (by omega) (by omega)]
  unfold Lib.parseMag
  rw [if_neg (by simp),parse_val _ 0 hd (by omega),hv,if_pos (by omega)]
  simp only [Lib.signless]
  rw [if_neg (by omega)]
theorem atoi_itoa (n:Int) (h0:-9223372036854775808≤n) (h1:n≤9223372036854775807):Lib.atoiAll (Lib.itoa n)=.ok n:=by
 by_cases hn:n < 0
 ·obtain ⟨u,rfl⟩:∃ u:Nat,n=-(u:Int):=⟨n.natAbs,by omega⟩
  rw [Lib.itoa_neg u (by omega),Lib.atoiAll_minus]
  unfold Lib.parseMag
  rw [if_neg (dec_ne u),parse_val _ 0 (dec_dig u) (by omega),dec_val,if_pos (by omega)]
  simp only [Lib.signed]
  rw [if_neg (by omega)]
 ·obtain ⟨u,rfl⟩:∃ u:Nat,n=(u:Int):=⟨n.toNat,by omega⟩
  rw [Lib.itoa_nonneg]
  exact atoi_dec [] (.inl rfl) u (by omega)
theorem itoa_shape (n:Int):∃ c r,Lib.itoa n=c :: r∧allDig r∧((digI (c.toNat:Int) || (c.toNat:Int) == 45)=true)∧lowI (c.toNat:Int)=false∧(upI (c.toNat:Int) || (c.toNat:Int) == 95)=false∧blkI (c.toNat:Int)=false∧((c.toNat:Int) == 37)=false:=by
 by_cases hn:n < 0
 ·obtain ⟨u,rfl⟩:∃ u:Nat,n=-(u:Int):=⟨n.natAbs,by omega⟩
  rw [Lib.itoa_neg u (by omega)]
  exact ⟨45,_,rfl,dec_dig u,rfl,rfl,rfl,rfl,rfl⟩
 ·obtain ⟨u,rfl⟩:∃ u:Nat,n=(u:Int):=⟨n.toNat,by omega⟩
  rw [Lib.itoa_nonneg]
  have hd:=dec_dig u
  cases h:Lib.decDigits u with
  | nil=>exact absurd h (dec_ne u)
  | cons c r =>
   rw [h] at hd
   obtain ⟨h1,h2⟩:=hd c (by simp)
   refine ⟨c,r,rfl,fun x hx=>hd x (by simp [hx]),?_,?_,?_,?_,?_⟩
   ·have:digI (c.toNat:Int)=true:=by
     unfold digI
     rw [decide_eq_true (by omega),decide_eq_true (by omega)]
     rfl
    rw [this]
    rfl
   ·simp [lowI];omega
   ·simp [upI];omega
   ·simp [blkI];omega
   ·simp;omega
theorem tok_itoa (n:Int) (h0:-9223372036854775808≤n) (h1:n≤9223372036854775807):tokAt (Lib.itoa n)=some ⟨3,Lib.itoa n,n⟩:=by
 have ha:=atoi_itoa n h0 h1
 have hnum:numOf (Lib.itoa n)=some n:=by unfold numOf;rw [ha];simp only [if_pos]
 obtain ⟨c,r,e,hd,hk,hl,hu,_⟩:=itoa_shape n
 rw [e] at hnum ⊢
 have h2:tokAt (c :: r)=numTok (c :: r):=by
  simp only [tokAt]
  rw [if_neg (by rw [hl];exact Bool.false_ne_true),if_neg (by rw [hu];exact Bool.false_ne_true),if_pos hk]
 have h3:numLen (c :: r)=(c :: r).length:=by
  unfold numLen
  rw [List.tail_cons,run_dig_all r hd,List.length_cons]
  omega
 have h4:wordAt (c :: r) (c :: r).length=false:=by
  unfold wordAt
  rw [List.getElem?_eq_none (Nat.le_refl _)]
 rw [h2]
 unfold numTok
 rw [h3,h4,List.take_length,hnum]
 rfl
theorem lex_itoa (p:Nat) (n:Int) (h0:-9223372036854775808≤n) (h1:n≤9223372036854775807):lex false p (Lib.itoa n)=([(p,⟨3,Lib.itoa n,n⟩)],true):=by
 have ht:=tok_itoa n h0 h1
 obtain ⟨c,r,e,_,_,_,_,hb,h37⟩:=itoa_shape n
 rw [e] at ht ⊢
 rw [lex_tok p c r hb h37 _ ht]
 simp only [List.drop_length,lex_nil]
theorem lex_nought_bad (n:Int) (h0:0≤n) (h1:n≤9223372036854775807):whole (48 :: Lib.itoa n)=false:=by
 obtain ⟨u,rfl⟩:∃ u:Nat,n=(u:Int):=⟨n.toNat,by omega⟩
 rw [Lib.itoa_nonneg]
 have ha:=atoi_dec [48] (.inr rfl) u (by omega)
 have hnum:numOf (48 :: Lib.decDigits u)=none:=by
  unfold numOf
  rw [show 48 :: Lib.decDigits u=[48]++Lib.decDigits u from rfl,ha]
  simp only
  rw [if_neg]
  intro h
  rw [Lib.itoa_nonneg] at h
  have:=congrArg List.length h
  simp at this
 have h2:tokAt (48 :: Lib.decDigits u)=numTok (48 :: Lib.decDigits u):=rfl
 have h3:numLen (48 :: Lib.decDigits u)=(48 :: Lib.decDigits u).length:=by
  unfold numLen
  rw [List.tail_cons,run_dig_all _ (dec_dig u),List.length_cons]
  omega
 have h4:wordAt (48 :: Lib.decDigits u) (48 :: Lib.decDigits u).length=false:=by
  unfold wordAt
  rw [List.getElem?_eq_none (Nat.le_refl _)]
 have ht:tokAt (48 :: Lib.decDigits u)=none:=by
  rw [h2]
  unfold numTok
  rw [h3,h4,List.take_length,hnum]
  rfl
 unfold whole
 rw [lex_bad 0 48 _ rfl rfl ht]
theorem lex_nought_ok (n:Int) (h0:-9223372036854775808≤n) (h1:n < 0):whole (48 :: Lib.itoa n)=true:=by
 have hl:=lex_itoa 1 n h0 (by omega)
 obtain ⟨u,rfl⟩:∃ u:Nat,n=-(u:Int):=⟨n.natAbs,by omega⟩
 rw [Lib.itoa_neg u (by omega)] at hl ⊢
 have hnum:numOf [48]=some 0:=by
  have h:Lib.atoiAll [48]=.ok 0:=by decide +kernel
  have h2:Lib.itoa 0=[48]:=by
   rw [show (0:Int)=((0:Nat):Int) from rfl,Lib.itoa_nonneg,Lib.decDigits_one (by omega)]
   rfl
  unfold numOf
  rw [h]
  simp only [h2,if_pos]
 have ht:tokAt (48 :: 45 :: Lib.decDigits u)=some ⟨3,[48],0⟩:=by
  have h2:tokAt (48 :: 45 :: Lib.decDigits u)=numTok (48 :: 45 :: Lib.decDigits u):=rfl
  have h3:numLen (48 :: 45 :: Lib.decDigits u)=1:=rfl
  have h4:wordAt (48 :: 45 :: Lib.decDigits u) 1=false:=rfl
  rw [h2]
  unfold numTok
  rw [h3,h4]
  simp only [List.take_succ_cons,List.take_zero,hnum]
  rfl
 unfold whole
 rw [lex_tok 0 48 _ rfl rfl _ ht]
 show (lex false 1 (45 :: Lib.decDigits u)).2=true
 rw [hl]
end Lx
end Go.Proofs.YtajomoclbpobhaaGreatDoor
