/- What the statements' 'alive' of layer 3 reads, and how it is printed. No program stands in this text but the things' form; no conditions. -/
import Derived.Test.YtajomoclbpobhaaGreatDoorTextI
import Derived.Test.YtajomoclbpobhaaGreatDoorPrFL
namespace Go.Proofs.YtajomoclbpobhaaGreatDoor
set_option linter.unusedSimpArgs false
set_option linter.unusedVariables false
namespace Lx
open Go Go.RowKit
theorem plex_step {p p':Nat} {c:UInt8} {r rest:List UInt8} {t:Tok} {ys:List (Nat × Tok)} {b:Bool} (hb:blkI (c.toNat:Int)=false) (h:((c.toNat:Int) == 37)=false) (ht:tokAt (c :: r)=some t)
  (hp:p+t.text.length=p') (hr:(c :: r).drop t.text.length=rest) (hX:lex false p' rest=(ys,b)):lex false p (c :: r)=((p,t) :: ys,b):=by
 subst hp hr
 rw [lex_tok p c r hb h t ht,hX]
theorem pal_18:lex false 18 []=([],true):=lex_nil false 18
theorem pal_17:lex false 17 [46]=([(17,⟨4,[46],0⟩)],true):=plex_step rfl rfl rfl rfl rfl pal_18
theorem pal_16:lex false 16 [41,46]=([(16,⟨4,[41],0⟩),(17,⟨4,[46],0⟩)],true):=plex_step rfl rfl rfl rfl rfl pal_17
theorem pal_15:lex false 15 [100,41,46]=([(15,⟨1,[100],0⟩),(16,⟨4,[41],0⟩),(17,⟨4,[46],0⟩)],true):=plex_step rfl rfl rfl rfl rfl pal_16
theorem pal_14:lex false 14 [44,100,41,46]=([(14,⟨4,[44],0⟩),(15,⟨1,[100],0⟩),(16,⟨4,[41],0⟩),(17,⟨4,[46],0⟩)],true):=plex_step rfl rfl rfl rfl rfl pal_15
theorem pal_13:lex false 13 [99,44,100,41,46]=([(13,⟨1,[99],0⟩),(14,⟨4,[44],0⟩),(15,⟨1,[100],0⟩),(16,⟨4,[41],0⟩),(17,⟨4,[46],0⟩)],true):=plex_step rfl rfl rfl rfl rfl pal_14
theorem pal_12:lex false 12 [40,99,44,100,41,46]=([(12,⟨4,[40],0⟩),(13,⟨1,[99],0⟩),(14,⟨4,[44],0⟩),(15,⟨1,[100],0⟩),(16,⟨4,[41],0⟩),(17,⟨4,[46],0⟩)],true):=plex_step rfl rfl rfl rfl rfl pal_13
theorem pal_9:lex false 9 [110,111,116,40,99,44,100,41,46]=([(9,⟨1,[110,111,116],0⟩),(12,⟨4,[40],0⟩),(13,⟨1,[99],0⟩),(14,⟨4,[44],0⟩),(15,⟨1,[100],0⟩),(16,⟨4,[41],0⟩),(17,⟨4,[46],0⟩)],true):=plex_step rfl rfl rfl rfl rfl pal_12
theorem pal_8:lex false 8 [44,110,111,116,40,99,44,100,41,46]=([(8,⟨4,[44],0⟩),(9,⟨1,[110,111,116],0⟩),(12,⟨4,[40],0⟩),(13,⟨1,[99],0⟩),(14,⟨4,[44],0⟩),(15,⟨1,[100],0⟩),(16,⟨4,[41],0⟩),(17,⟨4,[46],0⟩)],true):=plex_step rfl rfl rfl rfl rfl pal_9
theorem pal_7:lex false 7 [41,44,110,111,116,40,99,44,100,41,46]=([(7,⟨4,[41],0⟩),(8,⟨4,[44],0⟩),(9,⟨1,[110,111,116],0⟩),(12,⟨4,[40],0⟩),(13,⟨1,[99],0⟩),(14,⟨4,[44],0⟩),(15,⟨1,[100],0⟩),(16,⟨4,[41],0⟩),(17,⟨4,[46],0⟩)],true):=plex_step rfl rfl rfl rfl rfl pal_8
theorem pal_6:lex false 6 [98,41,44,110,111,116,40,99,44,100,41,46]=([(6,⟨1,[98],0⟩),(7,⟨4,[41],0⟩),(8,⟨4,[44],0⟩),(9,⟨1,[110,111,116],0⟩),(12,⟨4,[40],0⟩),(13,⟨1,[99],0⟩),(14,⟨4,[44],0⟩),(15,⟨1,[100],0⟩),(16,⟨4,[41],0⟩),(17,⟨4,[46],0⟩)],true):=plex_step rfl rfl rfl rfl rfl pal_7
theorem pal_5:lex false 5 [59,98,41,44,110,111,116,40,99,44,100,41,46]=([(5,⟨4,[59],0⟩),(6,⟨1,[98],0⟩),(7,⟨4,[41],0⟩),(8,⟨4,[44],0⟩),(9,⟨1,[110,111,116],0⟩),(12,⟨4,[40],0⟩),(13,⟨1,[99],0⟩),(14,⟨4,[44],0⟩),(15,⟨1,[100],0⟩),(16,⟨4,[41],0⟩),(17,⟨4,[46],0⟩)],true):=plex_step rfl rfl rfl rfl rfl pal_6
theorem pal_4:lex false 4 [97,59,98,41,44,110,111,116,40,99,44,100,41,46]=([(4,⟨1,[97],0⟩),(5,⟨4,[59],0⟩),(6,⟨1,[98],0⟩),(7,⟨4,[41],0⟩),(8,⟨4,[44],0⟩),(9,⟨1,[110,111,116],0⟩),(12,⟨4,[40],0⟩),(13,⟨1,[99],0⟩),(14,⟨4,[44],0⟩),(15,⟨1,[100],0⟩),(16,⟨4,[41],0⟩),(17,⟨4,[46],0⟩)],true):=plex_step rfl rfl rfl rfl rfl pal_5
theorem pal_3:lex false 3 [40,97,59,98,41,44,110,111,116,40,99,44,100,41,46]=([(3,⟨4,[40],0⟩),(4,⟨1,[97],0⟩),(5,⟨4,[59],0⟩),(6,⟨1,[98],0⟩),(7,⟨4,[41],0⟩),(8,⟨4,[44],0⟩),(9,⟨1,[110,111,116],0⟩),(12,⟨4,[40],0⟩),(13,⟨1,[99],0⟩),(14,⟨4,[44],0⟩),(15,⟨1,[100],0⟩),(16,⟨4,[41],0⟩),(17,⟨4,[46],0⟩)],true):=plex_step rfl rfl rfl rfl rfl pal_4
theorem pal_1:lex false 1 [58,45,40,97,59,98,41,44,110,111,116,40,99,44,100,41,46]=([(1,⟨4,[58,45],0⟩),(3,⟨4,[40],0⟩),(4,⟨1,[97],0⟩),(5,⟨4,[59],0⟩),(6,⟨1,[98],0⟩),(7,⟨4,[41],0⟩),(8,⟨4,[44],0⟩),(9,⟨1,[110,111,116],0⟩),(12,⟨4,[40],0⟩),(13,⟨1,[99],0⟩),(14,⟨4,[44],0⟩),(15,⟨1,[100],0⟩),(16,⟨4,[41],0⟩),(17,⟨4,[46],0⟩)],true):=plex_step rfl rfl rfl rfl rfl pal_3
theorem pal_0:lex false 0 [112,58,45,40,97,59,98,41,44,110,111,116,40,99,44,100,41,46]=([(0,⟨1,[112],0⟩),(1,⟨4,[58,45],0⟩),(3,⟨4,[40],0⟩),(4,⟨1,[97],0⟩),(5,⟨4,[59],0⟩),(6,⟨1,[98],0⟩),(7,⟨4,[41],0⟩),(8,⟨4,[44],0⟩),(9,⟨1,[110,111,116],0⟩),(12,⟨4,[40],0⟩),(13,⟨1,[99],0⟩),(14,⟨4,[44],0⟩),(15,⟨1,[100],0⟩),(16,⟨4,[41],0⟩),(17,⟨4,[46],0⟩)],true):=plex_step rfl rfl rfl rfl rfl pal_1
def palT:List Tok:=[⟨1,[112],0⟩,⟨4,[58,45],0⟩,⟨4,[40],0⟩,⟨1,[97],0⟩,⟨4,[59],0⟩,⟨1,[98],0⟩,⟨4,[41],0⟩,⟨4,[44],0⟩,⟨1,[110,111,116],0⟩,⟨4,[40],0⟩,⟨1,[99],0⟩,⟨4,[44],0⟩,⟨1,[100],0⟩,⟨4,[41],0⟩,⟨4,[46],0⟩]
def palI:ItemT:=⟨4,[112],[],[],[],[],0,[],.mk 5 zeroT zeroT [] [] [.mk 6 zeroT zeroT [] [] [.mk 4 zeroT zeroT [97] [] [],.mk 4 zeroT zeroT [98] [] []],.mk 7 zeroT zeroT [] [] [.mk 5 zeroT zeroT [] [] [.mk 4 zeroT zeroT [99] [] [],.mk 4 zeroT zeroT [100] [] []]]]⟩
set_option maxRecDepth 100000 in
theorem pal_src:sourceO palT 0 0=.ok [palI] 15:=by kernel_rfl
theorem pal_text:textO (fun ts=>sourceO ts 0 0) ⟨#[112,58,45,40,97,59,98,41,44,110,111,116,40,99,44,100,41,46]⟩=.ok [palI] 15:=by
 obtain ⟨e1,e2⟩:=toks_of pal_0
 have e3:toks (ByteArray.mk #[112,58,45,40,97,59,98,41,44,110,111,116,40,99,44,100,41,46]).data.toList=palT:=e1
 rw [textO_good _ (by decide) e2,e3]
 show endO palT.length (sourceO palT 0 0)=_
 rw [pal_src]
 rfl
set_option maxRecDepth 100000 in
theorem pal_form:sourceF [palI]=[112,32,58,45,32,40,97,32,59,32,98,41,44,32,110,111,116,32,40,99,44,32,100,41,46,10]:=by
 simp [sourceF,joinF,itemF,palI,bodyF,kindG,goalF,goalsF,goalW,primW,conjW,parenF,partW,termsF,argsF]
theorem dig_step (n:Nat) (h:10≤n) {l:List UInt8} (hl:Lib.decDigits (n / 10)=l):Lib.decDigits n=l++[UInt8.ofNat (48+n % 10)]:=by
 subst hl
 rw [Lib.decDigits,dif_neg (by omega)]
end Lx
end Go.Proofs.YtajomoclbpobhaaGreatDoor
