/- A printer of package print and its tables of words; the contract of put: texts go behind what it holds. Conditions: the printer's block is its own; at most 2^40 bytes. -/
import Derived.Test.YtiljemkglhloeaaGreatDoorPrB
import Derived.Test.YtiljemkglhloeaaGreatDoorPrFL
import Derived.Test.YtiljemkglhloeaaGreatDoorSameA
namespace Go.Proofs.YtiljemkglhloeaaGreatDoor
set_option linter.unusedSimpArgs false
set_option linter.unusedVariables false
namespace Lx
open Go Go.RowKit
/-- The variable g holds just these texts. -/
def StrTab (g:Nat) (zs:List (List UInt8)) (w:World):Prop:=g < w.heap.size∧∀ j (hj:j < zs.length),w.cell? ⟨g,j,none⟩=some (.string (bs zs[j]))
theorem StrTab.below {g:Nat} {zs:List (List UInt8)} {B:Nat} {w w':World} (h:StrTab g zs w) (hb:Below B w w') (hg:g < B):StrTab g zs w' :=
 ⟨Nat.lt_of_lt_of_le h.1 hb.size,fun j hj=>(World.cell?_of_block (a:=⟨g,j,none⟩) (hb.block g hg)).trans (h.2 j hj)⟩
def wordsT:List (List UInt8):=[[],[116,114,117,101],[102,97,105,108],[32,61,32],[],[44,32],[32,59,32],[110,111,116,32],[116,104,114,111,119,32],[116,114,121,32]]
def detsT:List (List UInt8):=[[],[100,101,116],[115,101,109,105,100,101,116],[109,117,108,116,105],[110,111,110,100,101,116]]
theorem isP_below {B b:Nat} {xs:List Value} {w w':World} (h:IsP B b xs w) (hb:Below w.heap.size w w'):IsP B b xs w':=by
 have go:∀ p,Lib.BuilderAt 75 5 B b p xs w→Lib.BuilderAt 75 5 B b p xs w':=by
  rintro p ⟨h1,v,h2,h3,h4⟩
  refine ⟨h1,v,(hb.block b (Array.getElem?_eq_some_iff.1 h2).1).trans h2,h3.kept (row:=none) ⟨hb.os,hb.tape,hb.output,hb.size,fun k hk _=>hb.block k hk⟩ ?_,h4⟩
  cases v.ownBlock <;> simp
 rcases h with h | h
 ·exact .inl (go _ h)
 ·exact .inr (go _ h)
theorem IsP.lt {B b:Nat} {xs:List Value} {w:World} (h:IsP B b xs w):B≤b∧b < w.heap.size:=by
 rcases h with ⟨h1,v,h2,_⟩ | ⟨h1,v,h2,_⟩ <;> exact ⟨h1,(Array.getElem?_eq_some_iff.1 h2).1⟩
/-- All below B stands, and all that is neither the printer's block nor a row of bytes. -/
structure Kept (B b:Nat) (w w':World):Prop where
 below:Below B w w'
 others:Lib.OthersKept 5 (some b) w w'
theorem Kept.refl (B b:Nat) (w:World):Kept B b w w:=⟨Below.refl _ _,Lib.OthersKept.refl _ _ _⟩
theorem Kept.trans {B b:Nat} {x y z:World} (h:Kept B b x y) (k:Kept B b y z):Kept B b x z:=⟨h.below.trans k.below,h.others.trans k.others⟩
theorem Kept.alloc {B b:Nat} {x y:World} (h:Kept B b x y) (hB:B≤y.heap.size) (o:Obj):Kept B b x (y.alloc o):=⟨h.below.alloc hB _,h.others.alloc o⟩
theorem Kept.drewN {B b:Nat} {x y:World} (h:Kept B b x y) (n:Nat):Kept B b x (y.drewN n):=⟨⟨h.below.os,h.below.tape,h.below.output,h.below.size,h.below.block⟩,h.others⟩
theorem Kept.drew {B b:Nat} {x y:World} (h:Kept B b x y):Kept B b x y.drew:=⟨⟨h.below.os,h.below.tape,h.below.output,h.below.size,h.below.block⟩,h.others⟩
/-- A block of cells that are no bytes, and is not the printer's, stands. -/
theorem Kept.cells {B b g:Nat} {w w':World} (h:Kept B b w w') {cs:Array Value} {T:TypeId} {fz:Nat × Nat} (hg:w.heap[g]?=some (.cells cs T fz)) (hT:T ≠ 5) (hb:g ≠ b):w'.heap[g]?=some (.cells cs T fz) :=
 h.others g _ hg (fun e=>hb (Option.some.inj e)) (fun c f e=>by injection e with _ e2 _;exact hT e2)
/-- The globals that printing reads lie below B. -/
def LowB (B:Nat):Prop:=16 < B∧17 < B∧21 < B∧22 < B∧18 < B
theorem tab_low {B g:Nat} {w w':World} {n:String} {k:IntKind} {zs:List Int} (hg:Tryz.prog.globalNamed n=some g) (h:Lib.TabIs Tryz.prog w n k zs) (hb:Below B w w') (hB:g < B):Lib.TabIs Tryz.prog w' n k zs:=by
 unfold Lib.TabIs World.var? at h ⊢
 rw [hg] at h ⊢
 simp only [Option.bind_some] at h ⊢
 rw [hb.block g hB]
 exact h
theorem Env.low {B:Nat} {w w':World} (h:Env w) (hb:Below B w w') (hl:LowB B):Env w':=by
 obtain ⟨_,_,l3,l4,l5⟩:=hl
 refine ⟨Nat.le_trans h.size hb.size,?_,?_,tab_low (g:=18) (by kernel_rfl) h.tab hb l5⟩
 ·obtain ⟨te,pe,h1⟩:=h.syn
  exact ⟨te,pe,(hb.cell (p:=⟨21,0,none⟩) l3).trans h1⟩
 ·obtain ⟨te,pe,h1⟩:=h.rng
  exact ⟨te,pe,(hb.cell (p:=⟨22,0,none⟩) l4).trans h1⟩
/-- A printer in a block of the call's own holds these bytes; the tables of words stand. -/
structure Pri (B b:Nat) (l:List UInt8) (w:World):Prop where
 isP:IsP B b (Lib.byteCells l) w
 words:StrTab 16 wordsT w
 dets:StrTab 17 detsT w
 env:Env w
 low:LowB B
theorem Pri.lt {B b:Nat} {l:List UInt8} {w:World} (h:Pri B b l w):B≤b∧b < w.heap.size:=h.isP.lt
theorem Pri.move {B b:Nat} {l:List UInt8} {w w':World} (h:Pri B b l w) (hb:Below w.heap.size w w'):Pri B b l w' :=
 ⟨isP_below h.isP hb,h.words.below hb h.words.1,h.dets.below hb h.dets.1,h.env.below hb,h.low⟩
theorem Pri.alloc {B b:Nat} {l:List UInt8} {w:World} (h:Pri B b l w) (o:Obj):Pri B b l (w.alloc o):=h.move ((Below.refl _ _).alloc (Nat.le_refl _) _)
theorem Pri.step {B b:Nat} {l l':List UInt8} {w w':World} (h:Pri B b l w) (hb:Below B w w') (hi:IsP B b (Lib.byteCells l') w'):Pri B b l' w' :=
 ⟨hi,h.words.below hb h.low.1,h.dets.below hb h.low.2.1,h.env.low hb h.low,h.low⟩
theorem Pri.drewN {B b:Nat} {l:List UInt8} {w:World} (h:Pri B b l w) (n:Nat):Pri B b l (w.drewN n):=h.move ⟨rfl,rfl,rfl,Nat.le_refl _,fun _ _=>rfl⟩
theorem Pri.drew {B b:Nat} {l:List UInt8} {w:World} (h:Pri B b l w):Pri B b l w.drew:=h.move ⟨rfl,rfl,rfl,Nat.le_refl _,fun _ _=>rfl⟩
theorem Kept.move {B b:Nat} {x y z:World} (h:Kept B b x y) (hb:Below y.heap.size y z) (hB:B≤y.heap.size):Kept B b x z :=
 h.trans ⟨hb.mono hB,fun k o hk _ _=>(hb.block k (Array.getElem?_eq_some_iff.1 hk).1).trans hk⟩
theorem byteCells_app' (l m:List UInt8):Lib.byteCells (l++m)=Lib.byteCells l++Lib.byteCells m:=by simp [Lib.byteCells]
theorem stays {α:Type} {V:Holds α} (hV:Stable V) {x:α} {v:Value} {lo hi B:Nat} {w w':World} (h:V x v lo hi w) (hb:Below B w w') (hh:hi≤B):V x v lo hi w' :=
 hV x v lo hi w w' h (fun k _ k2=>hb.block k (by omega))
theorem joinF_take_le (m:List UInt8) (ws:List (List UInt8)):∀ (n k:Nat),k+n=ws.length→(joinF m (ws.take k)).length≤(joinF m ws).length
 | 0,k,h=>by rw [List.take_of_length_le (by omega)];exact Nat.le_refl _
 | n+1,k,h=>by
  have h1:=joinF_take_le m ws n (k+1) (by omega)
  rw [joinF_take m ws k (by omega)] at h1
  split at h1
  ·rename_i h0
   subst h0
   simp [joinF]
  ·simp only [List.length_append] at h1
   omega
theorem joinF_step {α:Type} (m:List UInt8) (f:α→List UInt8) (xs:List α) (k:Nat) (h:k < xs.length) :
  joinF m ((xs.map f).take (k+1))=(if k=0 then f xs[k] else joinF m ((xs.map f).take k)++(m++f xs[k]))∧(joinF m ((xs.map f).take (k+1))).length≤(joinF m (xs.map f)).length:=by
 refine ⟨?_,joinF_take_le m _ (xs.length - (k+1)) _ (by rw [List.length_map];omega)⟩
 rw [joinF_take m _ k (by simpa using h)]
 simp
end Lx
end Go.Proofs.YtiljemkglhloeaaGreatDoor
