/- Terms and data, plainly: a term's data, data's term, whether a variable stands in a term; package data's isOpen. Conditions: as each states. -/
/- Package data's each at terms and at data; dataOf and termOf: a term's data, data's term, in new blocks. Conditions: each row has at most 4096 things. -/
/- The reference's of: a term's data, and whether no variable stands in it. Conditions: each row has at most 4096 things. -/
import Derived.Test.YtiljemkglhloeaaGreatDoorGa
import Derived.Test.YtiljemkglhloeaaGreatDoorPBa
import Derived.Test.YtiljemkglhloeaaGreatDoorDxA
import Derived.Test.YtiljemkglhloeaaGreatDoorDxI
import Derived.Deep.RegionWith
import Derived.Deep.Cut
namespace Go.Proofs.YtiljemkglhloeaaGreatDoor
set_option linter.unusedSimpArgs false
set_option linter.unusedVariables false
namespace Lx
open Go Go.RowKit
mutual
/-- A term's data. -/
def daOf:TermT→DaT
 | .mk k s z l=>if k=2 then .mk false z ⟨#[]⟩ [] else .mk true 0 (bs s) (daOfs l)
def daOfs:List TermT→List DaT
 | []=>[]
 | x :: l=>daOf x :: daOfs l
end
theorem daOfs_map:∀ l,daOfs l=l.map daOf
 | []=>rfl
 | x :: l=>by rw [daOfs,daOfs_map l];rfl
mutual
/-- Data's term. -/
def tmOf:DaT→TermT
 | .mk c n s l=>if c=true then .mk 3 s.data.toList 0 (tmOfs l) else .mk 2 [] n []
def tmOfs:List DaT→List TermT
 | []=>[]
 | x :: l=>tmOf x :: tmOfs l
end
theorem tmOfs_map:∀ l,tmOfs l=l.map tmOf
 | []=>rfl
 | x :: l=>by rw [tmOfs,tmOfs_map l];rfl
mutual
/-- Whether a variable stands in it. -/
def opT:TermT→Bool
 | .mk k _ _ l=>k == 1 || opTs l
def opTs:List TermT→Bool
 | []=>false
 | x :: l=>opT x || opTs l
end
theorem opTs_any:∀ l,opTs l=l.any opT
 | []=>rfl
 | x :: l=>by rw [opTs,opTs_any l];rfl
mutual
/-- Each row is one that memory may hold. -/
def fewM:TermT→Prop
 | .mk _ _ _ l=>l.length≤4096∧fewMs l
def fewMs:List TermT→Prop
 | []=>True
 | x :: l=>fewM x∧fewMs l
end
theorem fewMs_iff:∀ l,fewMs l ↔ ∀ x ∈ l,fewM x
 | []=>by simp [fewMs]
 | x :: l=>by rw [fewMs,fewMs_iff l];simp
theorem termB_few:∀ (m:Nat) (ne:Int) (t:TermT),termB m ne t→fewM t
 | 0,_,_,h=>h.elim
 | m+1,ne,.mk k s z l,h=>by
  rw [termB] at h
  rw [fewM,fewMs_iff]
  obtain ⟨_,⟨_,_,rfl,_⟩ | ⟨_,_,rfl,_⟩ | ⟨_,_,_,hl,hx⟩⟩:=h
  ·simp
  ·simp
  ·exact ⟨by omega,fun x h=>termB_few m (ne+1) x (hx x h)⟩
mutual
/-- The reference's word: no variable, by the kinds. -/
def okM:TermT→Bool
 | .mk k _ _ l=>k == 2 || (k == 3 && okMs l)
def okMs:List TermT→Bool
 | []=>true
 | x :: l=>okM x && okMs l
end
theorem okMs_all:∀ l,okMs l=l.all okM
 | []=>rfl
 | x :: l=>by rw [okMs,okMs_all l];rfl
theorem okM_eq (k:Int) (s:List UInt8) (z:Int) (l:List TermT):okM (.mk k s z l)=(k == 2 || (k == 3 && l.all okM)):=by rw [okM,okMs_all]
theorem ok_op:∀ (m:Nat) (ne:Int) (t:TermT),termB m ne t→okM t=!opT t
 | 0,_,_,h=>h.elim
 | m+1,ne,.mk k s z l,h=>by
  rw [termB] at h
  rw [okM_eq,opT,opTs_any]
  obtain ⟨_,⟨rfl,_,rfl,_⟩ | ⟨rfl,rfl,rfl,_⟩ | ⟨rfl,rfl,_,hl,hx⟩⟩:=h
  ·rfl
  ·rfl
  ·show l.all okM=!(false || l.any opT)
   rw [Bool.false_or]
   have e:∀ l':List TermT,(∀ x ∈ l',okM x=!opT x)→l'.all okM=!l'.any opT:=by
    intro l' hh
    induction l' with
    | nil=>rfl
    | cons y l' ih =>
     rw [List.all_cons,List.any_cons,ih (fun x hm=>hh x (by simp [hm])),hh y (by simp)]
     cases opT y <;> simp
   exact e l (fun x hm=>ok_op m (ne+1) x (hx x hm))
/-- Package data's isOpen at terms held so deep. -/
def OpenC (d:Nat):Prop:=∀ (Vol:Nat→Prop) (x:TermT) (v:Value) (w:World),TmW d Vol x v w→Calls Tryz.prog 52 #[v] w fun e w'=>e=.returned (.bool (opT x))∧Below w.heap.size w w'
set_option maxRecDepth 100000 in
set_option maxHeartbeats 2000000 in
theorem index_open (d:Nat) (HC:Hid (OpenC d)) (Vol:Nat→Prop) (l:List TermT) (v:Value) (w:World) (hv:RowW 4 (TmW d) Vol l v w) :
  Calls Tryz.prog 115 #[v,.func (.func 52) #[] #[]] w fun e w'=>∃ r:Int,e=.returned (.int .i64 r)∧decide (r ≥ 0)=l.any opT∧Below w.heap.size w w':=by
 obtain ⟨A,c,rfl⟩:=hv.slice
 have hfew:=hv.few
 unfold maxLen at hfew
 have HV:=Lib.hid hv
 clear hv
 go_enter Tryz.func115,Tryz.ntmps115
 go_wp2_with fail
 go_loopw [8] (fun t wr=>∃ k:Nat,k≤l.length∧t=.int .i64 k∧Hid (Below w.heap.size w wr)∧Hid (∀ (j:Nat) (h:j < l.length),j < k→opT l[j]=false)) (fun t _=>l.length - (intOf t).toNat)
 case atStart=>exact ⟨0,Nat.zero_le _,rfl,Lib.hid (Below.refl _ _),Lib.hid (fun j _ h=>by omega)⟩
 case round =>
  obtain ⟨k,hk,rfl,HB,HN⟩:=hrel
  by_cases hlt:k < l.length
  ·obtain ⟨g,o,vi,rfl,hg,_,hvi,hc⟩:=RowW.at ((RowW.step (TmW.step d)).below HV.out HB.out) k hlt
   obtain ⟨B1,n1,c1,rfl⟩:=hvi.this
   have a0:=(hc 0 (by decide)).trans rfl
   have a1:=(hc 1 (by decide)).trans rfl
   have a2:=(hc 2 (by decide)).trans rfl
   have a3:=(hc 3 (by decide)).trans rfl
   simp only [cellsL,Value.cells,List.getElem?_cons_zero,List.getElem?_cons_succ,Nat.add_zero] at a0 a1 a2 a3
   have HX:=Lib.hid (HC.out Vol l[k] _ _ hvi)
   have hk0:(0:Int)≤(k:Int):=by omega
   have hk1:(k:Int) < (l.length:Int):=by omega
   have hdc:decide (k < l.length)=true:=by simpa using hlt
   clear hc hvi
   cases hp:opT l[k]
   all_goals
    rw [hp] at HX
    go_wp2_with (go_at_call 52;refine HX.out.mono ?_;rintro e w3 ⟨rfl,hb3⟩;have HB3:=Lib.hid (HB.out.trans (hb3.mono HB.out.size));clear hb3)
   ·go_roundw
    case rel=>exact ⟨k+1,by omega,by go_num,HB3,Lib.hid (fun j h hj=>by
     by_cases e:j=k
     ·subst e;exact hp
     ·exact HN.out j h (by omega))⟩
    case measure=>simp [intOf];omega
   ·go_ret
    exact ⟨(k:Int),rfl,by
     have:l.any opT=true:=List.any_eq_true.2 ⟨l[k],List.getElem_mem _,hp⟩
     rw [this];simp,HB3.out⟩
  ·obtain rfl:k=l.length:=by omega
   have hdc:decide (l.length < l.length)=false:=by simp
   go_wp2_with fail
   go_ret
   exact ⟨-1,rfl,by
    have:l.any opT=false:=by
     rw [List.any_eq_false]
     intro x hx
     obtain ⟨j,hj,rfl⟩:=List.getElem_of_mem hx
     rw [HN.out j hj hj];simp
    rw [this];rfl,HB.out⟩
theorem contains_open (d:Nat) (HC:Hid (OpenC d)) (Vol:Nat→Prop) (l:List TermT) (v:Value) (w:World) (hv:RowW 4 (TmW d) Vol l v w) :
  Calls Tryz.prog 87 #[v,.func (.func 52) #[] #[]] w fun e w'=>e=.returned (.bool (l.any opT))∧Below w.heap.size w w':=by
 have HX:=Lib.hid (index_open d HC Vol l v w hv)
 clear hv
 go_enter Tryz.func87,Tryz.ntmps87
 go_wp2_with (go_at_call 115;refine HX.out.mono ?_;rintro e w3 ⟨r,rfl,hr,hb⟩;have HR:=Lib.hid hr;have HB:=Lib.hid hb;clear hr hb)
 go_ret
 exact ⟨by rw [HR.out];rfl,HB.out⟩
set_option maxRecDepth 100000 in
set_option maxHeartbeats 2000000 in
theorem open_step (d:Nat) (HC:Hid (OpenC d)):OpenC (d+1):=by
 rintro Vol ⟨k,s,z,l⟩ v w ⟨va,rfl,hr⟩
 obtain ⟨A,c,rfl⟩:=hr.slice
 have hb:=below_alloc w (.cells #[.int .i64 k,.string (bs s),.int .i64 z,.slice A l.length c] 28)
 have HB:=Lib.hid hb
 have HX:=Lib.hid (heap_alloc_new w (.cells #[.int .i64 k,.string (bs s),.int .i64 z,.slice A l.length c] 28))
 have HR:=Lib.hid ((RowW.step (TmW.step d)).below hr hb)
 have HO:Hid (opT (.mk k s z l)=(k == 1 || l.any opT)):=Lib.hid (by rw [opT,opTs_any])
 clear hr hb
 have x0:=(cellH HX.out 0).trans rfl
 have x3:=(cellH HX.out 3).trans rfl
 by_cases h1:k=1
 ·subst h1
  go_enter Tryz.func52,Tryz.ntmps52
  go_wp2_with fail
  go_ret
  exact ⟨by rw [HO.out];rfl,HB.out⟩
 ·have hq:(k == 1)=false:=by simpa using h1
  go_enter Tryz.func52,Tryz.ntmps52
  go_wp2_with fail
  go_at_call 87
  refine (contains_open d HC Vol l _ _ HR.out).mono ?_
  rintro e w1 ⟨rfl,hb1⟩
  have HB1:=Lib.hid (HB.out.trans (hb1.mono HB.out.size))
  clear hb1
  go_wp2_with fail
  go_ret
  exact ⟨by rw [HO.out,hq];rfl,HB1.out⟩
theorem open_any:∀ d,OpenC d
 | 0=>fun _ _ _ _ h=>h.elim
 | d+1=>open_step d (Lib.hid (open_any d))
end Lx
end Go.Proofs.YtiljemkglhloeaaGreatDoor
namespace Go.Proofs.YtiljemkglhloeaaGreatDoor
set_option linter.unusedSimpArgs false
set_option linter.unusedVariables false
namespace Lx
open Go Go.RowKit
mutual
def fewD:DaT→Prop
 | .mk c _ _ l=>c=true→l.length≤4096∧fewDs l
def fewDs:List DaT→Prop
 | []=>True
 | x :: l=>fewD x∧fewDs l
end
theorem fewDs_iff:∀ l,fewDs l ↔ ∀ x ∈ l,fewD x
 | []=>by simp [fewDs]
 | x :: l=>by rw [fewDs,fewDs_iff l];simp
mutual
/-- What a constructor's arguments are; an int's are none. -/
def cleanD:DaT→DaT
 | .mk c n s l=>if c=true then .mk true n s (cleanDs l) else .mk false n s []
def cleanDs:List DaT→List DaT
 | []=>[]
 | x :: l=>cleanD x :: cleanDs l
end
theorem infoDaG:(Tryz.prog.info? 46).map (fun i=>(i.zero,i.size,i.bytes))=some (some (.agg #[.bool false,.int .i64 0,.string ⟨#[]⟩,.slice none 0 0]),4,56):=by kernel_rfl
theorem bs_dataT (s:ByteArray):bs s.data.toList=s:=ByteArray.ext (by simp [bs])
/-- What the change makes of one, in new blocks. -/
def DofC (d:Nat):Prop:=∀ (Vol:Nat→Prop) (x:TermT) (v:Value) (w:World),TmW d Vol x v w→fewM x→(∀ k,Vol k→k < w.heap.size)→Calls Tryz.prog 53 #[v] w fun e w'=>∃ v',e=.returned v'∧DaW d Vol (daOf x) v' w'∧Below w.heap.size w w'
set_option maxRecDepth 100000 in
set_option maxHeartbeats 2000000 in
theorem each_dataOf (d:Nat) (HC:Hid (DofC d)) (Vol:Nat→Prop) (l:List TermT) (v:Value) (w:World) (hv:RowW 4 (TmW d) Vol l v w) (hl:l.length≤4096) (hf:∀ x ∈ l,fewM x) (hvl:∀ k,Vol k→k < w.heap.size) :
  Calls Tryz.prog 88 #[v,.func (.func 53) #[] #[]] w fun e w'=>∃ v',e=.returned v'∧RowW 4 (DaW d) Vol (l.map daOf) v' w'∧Below w.heap.size w w':=by
 obtain ⟨A,c,rfl⟩:=hv.slice
 have HV:=Lib.hid hv
 have HVL:=Lib.hid hvl
 have HFW:=Lib.hid hf
 clear hf hvl
 obtain ⟨i0,hi0,hz0,hz1,hz2⟩:=info_parts infoDaG
 have HI0:=Lib.hid hi0
 have HI1:=Lib.hid hz0
 have HI2:=Lib.hid hz1
 have HI3:=Lib.hid hz2
 clear hi0 hz0 hz1 hz2 hv
 go_enter Tryz.func88,Tryz.ntmps88
 go_wp2_with fail
 go_loopw [5,10] (fun v t wr=>∃ (k:Nat) (s:Option Addr) (cap:Nat) (vs:List Value),k≤l.length∧t=.int .i64 k∧v=.slice s k cap∧Hid (RowG 46 4 (DaW d) Vol w wr s cap ((l.take k).map daOf) vs)) (fun _ t _=>l.length - (intOf t).toNat)
 case atStart=>exact ⟨0,none,0,[],Nat.zero_le _,rfl,rfl,Lib.hid (by rw [List.take_zero,List.map_nil];exact RowG.start Vol w)⟩
 case round =>
  obtain ⟨k,s,cap,vs,hk,rfl,rfl,HR⟩:=hrel
  have hlk:((l.take k).map daOf).length=k:=by rw [List.length_map,List.length_take];omega
  have HLK:=Lib.hid hlk
  by_cases hlt:k < l.length
  ·obtain ⟨g,o,vi,rfl,hg,_,hvi,hc⟩:=RowW.at (RowW.step (TmW.step d) Vol (fun k=>Vol k ∨ s=some ⟨k,0,none⟩) _ _ _ _ HV.out (Kb.of_below HR.out.below) (fun j hj e=>e.elim id (fun e=>by have:=(HR.out.own.lt j (by rw [e];rfl)).1;omega))) k hlt
   obtain ⟨B1,n1,c1,rfl⟩:=hvi.this
   have a0:=(hc 0 (by decide)).trans rfl
   have a1:=(hc 1 (by decide)).trans rfl
   have a2:=(hc 2 (by decide)).trans rfl
   have a3:=(hc 3 (by decide)).trans rfl
   simp only [cellsL,Value.cells,List.getElem?_cons_zero,List.getElem?_cons_succ,Nat.add_zero] at a0 a1 a2 a3
   have hk0:(0:Int)≤(k:Int):=by omega
   have hk1:(k:Int) < (l.length:Int):=by omega
   have hdc:decide (k < l.length)=true:=by simpa using hlt
   have HTK:=Lib.hid (show (l.take (k+1)).map daOf=(l.take k).map daOf++[daOf l[k]] by rw [List.take_succ_eq_append_getElem hlt,List.map_append,List.map_singleton])
   have HBZ:=Lib.hid (below_alloc wr (.cells #[.int .i64 l[k].kd,.string (bs l[k].nm),.int .i64 l[k].nu,.slice B1 n1 c1] 28))
   have HMN:=Lib.hid (HR.out.mine HVL.out)
   have HX:=Lib.hid (HC.out _ l[k] _ _ ((TmW.step d).below hvi HBZ.out) (HFW.out _ (List.getElem_mem hlt)) (fun k e=>Nat.lt_of_lt_of_le (HMN.out k e) HBZ.out.size))
   clear hc hvi hlk
   generalize l[k]=x at *
   go_wp2_with (first
    | (go_at_call 53;refine HX.out.mono ?_;rintro e w4 ⟨v4,rfl,hv4,hb4⟩;obtain ⟨y5,y6,y7,hv4e⟩:=hv4.this;generalize hkk:(daOf x).ctor=z0 at hv4e;generalize hnn:(daOf x).int=z1 at hv4e;generalize hvv:(daOf x).name=z2 at hv4e;subst hv4e;clear hkk hnn hvv;have HV4:=Lib.hid hv4;have HB4:=Lib.hid (HBZ.out.trans (hb4.mono HBZ.out.size));have HO4:=Lib.hid (own_belowN HR.out.own HB4.out);have hs4:=HR.out.below.size;have hs5:=HB4.out.size;rw [HLK.out] at HO4;clear hv4 hb4)
    | (at_builtin;refine wpList_append_lies _ rfl _ _ 44 rfl w.heap.size 46 i0 (.agg #[.bool false,.int .i64 0,.string ⟨#[]⟩,.slice none 0 0]) 4 56 Tryz.underlying44 HI0.out HI1.out HI2.out HI3.out rfl (by decide) _ _ _ rfl (HO4.out.alloc _) ⟨w4.heap.size,0,none⟩ 1 1 [.bool z0,.int .i64 z1,.string z2,.slice y5 y6 y7] rfl rfl (cells_new _ #[.bool z0,.int .i64 z1,.string z2,.slice y5 y6 y7] _ _ rfl) (by simp [Value.oneCell']) (by decide) (by unfold maxLen;omega) (by omega) (by simp;omega) _ rfl ?_;intro g2 cap2 w6 hown6 hg6 hat6 _;have HO6:=Lib.hid hown6;have HG6:=Lib.hid hg6;have HA6:=Lib.hid hat6;clear hown6 hg6 hat6))
   have HNX:Hid (RowG 46 4 (DaW d) Vol w w6 (some ⟨g2,0,none⟩) cap2 ((l.take (k+1)).map daOf) (vs++[Value.agg #[.bool z0,.int .i64 z1,.string z2,.slice y5 y6 y7]])):=Lib.hid (by
    rw [HTK.out]
    exact HR.out.snoc (DaW.step d) HVL.out HB4.out HV4.out (by rw [HLK.out];exact HO6.out) (by rw [HLK.out];exact HG6.out) (by rw [HLK.out];exact HA6.out))
   go_roundw
   case rel=>exact ⟨k+1,some ⟨g2,0,none⟩,cap2,_,by omega,by go_num,rfl,HNX⟩
   case measure=>simp [intOf];omega
  ·obtain rfl:k=l.length:=by omega
   have hdc:decide (l.length < l.length)=false:=by simp
   rw [List.take_length] at HR
   go_wp2_with fail
   go_ret
   refine ⟨_,rfl,?_,HR.out.below⟩
   have h1:=HR.out.held (DaW.step d) (daCells d) HVL.out
   rw [List.length_map] at h1
   exact h1
set_option maxRecDepth 100000 in
set_option maxHeartbeats 4000000 in
theorem dataOf_step (d:Nat) (HC:Hid (DofC d)):DofC (d+1):=by
 rintro Vol ⟨k,s,z,l⟩ v w ⟨va,rfl,hr⟩ hf hvl
 obtain ⟨A1,c1,rfl⟩:=hr.slice
 rw [fewM,fewMs_iff] at hf
 have HB0:=Lib.hid (show Below w.heap.size w ((w.alloc (.cells #[.int .i64 k,.string (bs s),.int .i64 z,.slice A1 l.length c1] 28)).alloc (.cells #[.bool false,.int .i64 0,.string ⟨#[]⟩,.slice none 0 0] 46)) from (below_alloc _ _).alloc (by simp) _)
 have HW0:=Lib.hid ((Below.heap_alloc (w.alloc (.cells #[.int .i64 k,.string (bs s),.int .i64 z,.slice A1 l.length c1] 28)) (.cells #[.bool false,.int .i64 0,.string ⟨#[]⟩,.slice none 0 0] 46) w.heap.size (by simp)).trans (heap_alloc_new w (.cells #[.int .i64 k,.string (bs s),.int .i64 z,.slice A1 l.length c1] 28)))
 have hz:(w.alloc (.cells #[.int .i64 k,.string (bs s),.int .i64 z,.slice A1 l.length c1] 28)).heap.size=w.heap.size+1:=by simp
 have HW1:=Lib.hid (heap_alloc_new (w.alloc (.cells #[.int .i64 k,.string (bs s),.int .i64 z,.slice A1 l.length c1] 28)) (.cells #[.bool false,.int .i64 0,.string ⟨#[]⟩,.slice none 0 0] 46))
 rw [hz] at HW1
 have hz2:((w.alloc (.cells #[.int .i64 k,.string (bs s),.int .i64 z,.slice A1 l.length c1] 28)).alloc (.cells #[.bool false,.int .i64 0,.string ⟨#[]⟩,.slice none 0 0] 46)).heap.size=w.heap.size+2:=by simp
 by_cases k2:k=2
 ·subst k2
  have HCH:=Lib.hid (show daOf (.mk 2 s z l)=.mk false z ⟨#[]⟩ [] by rw [daOf,if_pos rfl])
  clear HW0 HW1 hz hz2 hr hf
  go_enter Tryz.func53,Tryz.ntmps53
  go_wp2_with fail
  exact bodyPost_ret (v:=.agg #[.bool false,.int .i64 z,.string ⟨#[]⟩,.slice none 0 0]) (by simp [results,Tryz.results53,go_sem]) rfl ⟨_,rfl,by rw [HCH.out];exact ⟨_,rfl,RowW.nil _ _⟩,(below_alloc w _).alloc (by simp) _⟩
 ·have e2:(k == 2)=false:=by simpa using k2
  have HCH:=Lib.hid (show daOf (.mk k s z l)=.mk true 0 (bs s) (l.map daOf) by rw [daOf,if_neg k2,daOfs_map])
  have HX:Hid (∀ W,Below w.heap.size w W→w.heap.size+1 < W.heap.size→Calls Tryz.prog 88 #[.slice A1 l.length c1,.func (.func 53) #[] #[]] W fun e w'=>∃ v',e=.returned v'∧RowW 4 (DaW d) (fun k=>Vol k ∨ k=w.heap.size+1) (l.map daOf) v' w'∧Below W.heap.size W w'):=Lib.hid (fun W hb h1=>each_dataOf d HC (fun k=>Vol k ∨ k=w.heap.size+1) l _ W (RowW.step (TmW.step d) _ _ _ _ _ _ hr (Kb.of_below hb) (fun k hk e=>e.elim id (fun e=>by omega))) hf.1 hf.2 (fun k e=>e.elim (fun e=>Nat.lt_of_lt_of_le (hvl k e) hb.size) (fun e=>by omega)))
  clear hr hf
  have HA:=HW0
  have HR:=HW1
  have HZ2:=Lib.hid hz2
  clear hz hz2 HW0 HW1
  go_enter Tryz.func53,Tryz.ntmps53
  go_upto_region 3 with fail
  generalize ((w.alloc (.cells #[.int .i64 k,.string (bs s),.int .i64 z,.slice A1 l.length c1] 28)).alloc (.cells #[.bool false,.int .i64 0,.string ⟨#[]⟩,.slice none 0 0] 46))=Z at HA HR HZ2 HB0 ⊢
  have HA:Hid (Z.drew.heap[w.heap.size]?=_):=HA
  have HR:Hid (Z.drew.heap[w.heap.size+1]?=_):=HR
  have HZ2:Hid (Z.drew.heap.size=_):=HZ2
  have HB0:=Lib.hid (below_drw HB0.out)
  have a1:=(cellH HA.out 1).trans rfl
  have a3:=(cellH HA.out 3).trans rfl
  go_region_with (go_at_call 88;refine (HX.out _ HB0.out (by have:=HZ2.out;omega)).mono ?_;rintro e wA ⟨vA,rfl,hvA,hbA⟩;obtain ⟨r1,r3,hve⟩:=hvA.slice;have HLN:=Lib.hid (show (l.map daOf).length=(l.map daOf).length from rfl);generalize (l.map daOf).length=r2 at hve HLN;subst hve;have HVA:=Lib.hid hvA;have HBA:=Lib.hid hbA;have HAA:=Lib.hid ((hbA.block w.heap.size (by have:=HZ2.out;omega)).trans HA.out);have HRA:=Lib.hid ((hbA.block (w.heap.size+1) (by have:=HZ2.out;omega)).trans HR.out);have HB1:=Lib.hid (HB0.out.trans (hbA.mono HB0.out.size));have HSA:=Lib.hid hbA.size;have c1':=(cellH HAA.out 1).trans rfl;have g0:=(cellH HRA.out 0).trans rfl;have g1:=(cellH HRA.out 1).trans rfl;have g2:=(cellH HRA.out 2).trans rfl;have g3:=(cellH HRA.out 3).trans rfl;have h0:=frozenH HRA.out 0;have h1:=frozenH HRA.out 1;have h2:=frozenH HRA.out 2;have h3:=frozenH HRA.out 3;clear hvA hbA)
  all_goals
   go_wp2_with fail
   clear g0 g1 g2 g3 h0 h1 h2 h3
   have hk:=kput4 wA (w.heap.size+1) (.bool true) (.int .i64 0) (.string (bs s)) (.slice r1 r2 r3)
   have hq:=put4F (.bool true) (.int .i64 0) (.string (bs s)) (.slice r1 r2 r3) HRA.out
   generalize ((((wA.setCell ⟨w.heap.size+1,0,none⟩ (.bool true)).setCell ⟨w.heap.size+1,1,none⟩ (.int .i64 0)).setCell ⟨w.heap.size+1,2,none⟩ (.string (bs s))).setCell ⟨w.heap.size+1,3,none⟩ (.slice r1 r2 r3))=W at hk hq ⊢
   have c0:=(cellH hq 0).trans rfl
   have c1:=(cellH hq 1).trans rfl
   have c2:=(cellH hq 2).trans rfl
   have c3:=(cellH hq 3).trans rfl
   have z2:=HZ2.out
   have za:=HSA.out
   refine bodyPost_ret (v:=.agg #[.bool true,.int .i64 0,.string (bs s),.slice r1 r2 r3]) (by simp [results,Tryz.results53,go_sem,c0,c1,c2,c3]) rfl ⟨_,rfl,?_,?_⟩
   ·rw [HCH.out]
    exact ⟨_,rfl,RowW.step (DaW.step d) _ _ _ _ _ _ HVA.out (hk.wider (fun k _ e=>.inr e)) (fun k _ e=>.inl e)⟩
   ·exact HB1.out.trans (hk.below (by omega) (fun j e=>by omega))
theorem dataOf_any:∀ d,DofC d
 | 0=>fun _ _ _ _ h=>h.elim
 | d+1=>dataOf_step d (Lib.hid (dataOf_any d))
/-- What the change makes of one, in new blocks. -/
def TofC (d:Nat):Prop:=∀ (Vol:Nat→Prop) (x:DaT) (v:Value) (w:World),DaW d Vol x v w→fewD x→(∀ k,Vol k→k < w.heap.size)→Calls Tryz.prog 48 #[v] w fun e w'=>∃ v',e=.returned v'∧TmW d Vol (tmOf x) v' w'∧Below w.heap.size w w'
set_option maxRecDepth 100000 in
set_option maxHeartbeats 2000000 in
theorem each_termOf (d:Nat) (HC:Hid (TofC d)) (Vol:Nat→Prop) (l:List DaT) (v:Value) (w:World) (hv:RowW 4 (DaW d) Vol l v w) (hl:l.length≤4096) (hf:∀ x ∈ l,fewD x) (hvl:∀ k,Vol k→k < w.heap.size) :
  Calls Tryz.prog 80 #[v,.func (.func 48) #[] #[]] w fun e w'=>∃ v',e=.returned v'∧RowW 4 (TmW d) Vol (l.map tmOf) v' w'∧Below w.heap.size w w':=by
 obtain ⟨A,c,rfl⟩:=hv.slice
 have HV:=Lib.hid hv
 have HVL:=Lib.hid hvl
 have HFW:=Lib.hid hf
 clear hf hvl
 obtain ⟨i0,hi0,hz0,hz1,hz2⟩:=info_parts infoTerm
 have HI0:=Lib.hid hi0
 have HI1:=Lib.hid hz0
 have HI2:=Lib.hid hz1
 have HI3:=Lib.hid hz2
 clear hi0 hz0 hz1 hz2 hv
 go_enter Tryz.func80,Tryz.ntmps80
 go_wp2_with fail
 go_loopw [5,10] (fun v t wr=>∃ (k:Nat) (s:Option Addr) (cap:Nat) (vs:List Value),k≤l.length∧t=.int .i64 k∧v=.slice s k cap∧Hid (RowG 28 4 (TmW d) Vol w wr s cap ((l.take k).map tmOf) vs)) (fun _ t _=>l.length - (intOf t).toNat)
 case atStart=>exact ⟨0,none,0,[],Nat.zero_le _,rfl,rfl,Lib.hid (by rw [List.take_zero,List.map_nil];exact RowG.start Vol w)⟩
 case round =>
  obtain ⟨k,s,cap,vs,hk,rfl,rfl,HR⟩:=hrel
  have hlk:((l.take k).map tmOf).length=k:=by rw [List.length_map,List.length_take];omega
  have HLK:=Lib.hid hlk
  by_cases hlt:k < l.length
  ·obtain ⟨g,o,vi,rfl,hg,_,hvi,hc⟩:=RowW.at (RowW.step (DaW.step d) Vol (fun k=>Vol k ∨ s=some ⟨k,0,none⟩) _ _ _ _ HV.out (Kb.of_below HR.out.below) (fun j hj e=>e.elim id (fun e=>by have:=(HR.out.own.lt j (by rw [e];rfl)).1;omega))) k hlt
   obtain ⟨B1,n1,c1,rfl⟩:=hvi.this
   have a0:=(hc 0 (by decide)).trans rfl
   have a1:=(hc 1 (by decide)).trans rfl
   have a2:=(hc 2 (by decide)).trans rfl
   have a3:=(hc 3 (by decide)).trans rfl
   simp only [cellsL,Value.cells,List.getElem?_cons_zero,List.getElem?_cons_succ,Nat.add_zero] at a0 a1 a2 a3
   have hk0:(0:Int)≤(k:Int):=by omega
   have hk1:(k:Int) < (l.length:Int):=by omega
   have hdc:decide (k < l.length)=true:=by simpa using hlt
   have HTK:=Lib.hid (show (l.take (k+1)).map tmOf=(l.take k).map tmOf++[tmOf l[k]] by rw [List.take_succ_eq_append_getElem hlt,List.map_append,List.map_singleton])
   have HBZ:=Lib.hid (below_alloc wr (.cells #[.bool l[k].ctor,.int .i64 l[k].int,.string l[k].name,.slice B1 n1 c1] 46))
   have HMN:=Lib.hid (HR.out.mine HVL.out)
   have HX:=Lib.hid (HC.out _ l[k] _ _ ((DaW.step d).below hvi HBZ.out) (HFW.out _ (List.getElem_mem hlt)) (fun k e=>Nat.lt_of_lt_of_le (HMN.out k e) HBZ.out.size))
   clear hc hvi hlk
   generalize l[k]=x at *
   go_wp2_with (first
    | (go_at_call 48;refine HX.out.mono ?_;rintro e w4 ⟨v4,rfl,hv4,hb4⟩;obtain ⟨y5,y6,y7,hv4e⟩:=hv4.this;generalize hkk:(tmOf x).kd=z0 at hv4e;generalize hnn:(tmOf x).nm=z1 at hv4e;generalize hvv:(tmOf x).nu=z2 at hv4e;subst hv4e;clear hkk hnn hvv;have HV4:=Lib.hid hv4;have HB4:=Lib.hid (HBZ.out.trans (hb4.mono HBZ.out.size));have HO4:=Lib.hid (own_belowN HR.out.own HB4.out);have hs4:=HR.out.below.size;have hs5:=HB4.out.size;rw [HLK.out] at HO4;clear hv4 hb4)
    | (at_builtin;refine wpList_append_lies _ rfl _ _ 26 rfl w.heap.size 28 i0 (.agg #[.int .i64 0,.string ⟨#[]⟩,.int .i64 0,.slice none 0 0]) 4 56 Tryz.underlying26 HI0.out HI1.out HI2.out HI3.out rfl (by decide) _ _ _ rfl (HO4.out.alloc _) ⟨w4.heap.size,0,none⟩ 1 1 [.int .i64 z0,.string (bs z1),.int .i64 z2,.slice y5 y6 y7] rfl rfl (cells_new _ #[.int .i64 z0,.string (bs z1),.int .i64 z2,.slice y5 y6 y7] _ _ rfl) (by simp [Value.oneCell']) (by decide) (by unfold maxLen;omega) (by omega) (by simp;omega) _ rfl ?_;intro g2 cap2 w6 hown6 hg6 hat6 _;have HO6:=Lib.hid hown6;have HG6:=Lib.hid hg6;have HA6:=Lib.hid hat6;clear hown6 hg6 hat6))
   have HNX:Hid (RowG 28 4 (TmW d) Vol w w6 (some ⟨g2,0,none⟩) cap2 ((l.take (k+1)).map tmOf) (vs++[Value.agg #[.int .i64 z0,.string (bs z1),.int .i64 z2,.slice y5 y6 y7]])):=Lib.hid (by
    rw [HTK.out]
    exact HR.out.snoc (TmW.step d) HVL.out HB4.out HV4.out (by rw [HLK.out];exact HO6.out) (by rw [HLK.out];exact HG6.out) (by rw [HLK.out];exact HA6.out))
   go_roundw
   case rel=>exact ⟨k+1,some ⟨g2,0,none⟩,cap2,_,by omega,by go_num,rfl,HNX⟩
   case measure=>simp [intOf];omega
  ·obtain rfl:k=l.length:=by omega
   have hdc:decide (l.length < l.length)=false:=by simp
   rw [List.take_length] at HR
   go_wp2_with fail
   go_ret
   refine ⟨_,rfl,?_,HR.out.below⟩
   have h1:=HR.out.held (TmW.step d) (tmCells d) HVL.out
   rw [List.length_map] at h1
   exact h1
set_option maxRecDepth 100000 in
set_option maxHeartbeats 4000000 in
theorem termOf_step (d:Nat) (HC:Hid (TofC d)):TofC (d+1):=by
 rintro Vol ⟨c,n,s,l⟩ v w ⟨va,rfl,hr⟩ hf hvl
 obtain ⟨A1,c1,rfl⟩:=hr.slice
 rw [fewD,fewDs_iff] at hf
 have HB0:=Lib.hid (show Below w.heap.size w ((w.alloc (.cells #[.bool c,.int .i64 n,.string s,.slice A1 l.length c1] 46)).alloc (.cells #[.int .i64 0,.string ⟨#[]⟩,.int .i64 0,.slice none 0 0] 28)) from (below_alloc _ _).alloc (by simp) _)
 have HW0:=Lib.hid ((Below.heap_alloc (w.alloc (.cells #[.bool c,.int .i64 n,.string s,.slice A1 l.length c1] 46)) (.cells #[.int .i64 0,.string ⟨#[]⟩,.int .i64 0,.slice none 0 0] 28) w.heap.size (by simp)).trans (heap_alloc_new w (.cells #[.bool c,.int .i64 n,.string s,.slice A1 l.length c1] 46)))
 have hz:(w.alloc (.cells #[.bool c,.int .i64 n,.string s,.slice A1 l.length c1] 46)).heap.size=w.heap.size+1:=by simp
 have HW1:=Lib.hid (heap_alloc_new (w.alloc (.cells #[.bool c,.int .i64 n,.string s,.slice A1 l.length c1] 46)) (.cells #[.int .i64 0,.string ⟨#[]⟩,.int .i64 0,.slice none 0 0] 28))
 rw [hz] at HW1
 have hz2:((w.alloc (.cells #[.bool c,.int .i64 n,.string s,.slice A1 l.length c1] 46)).alloc (.cells #[.int .i64 0,.string ⟨#[]⟩,.int .i64 0,.slice none 0 0] 28)).heap.size=w.heap.size+2:=by simp
 cases c
 ·skip
  have HCH:=Lib.hid (show tmOf (.mk false n s l)=.mk 2 [] n [] by rw [tmOf,if_neg (by decide)])
  clear HW0 HW1 hz hz2 hr hf
  go_enter Tryz.func48,Tryz.ntmps48
  go_wp2_with fail
  exact bodyPost_ret (v:=.agg #[.int .i64 2,.string ⟨#[]⟩,.int .i64 n,.slice none 0 0]) (by simp [results,Tryz.results48,go_sem]) rfl ⟨_,rfl,by rw [HCH.out];exact ⟨_,rfl,RowW.nil _ _⟩,(below_alloc w _).alloc (by simp) _⟩
 ·have hf:=hf rfl
  have HCH:=Lib.hid (show tmOf (.mk true n s l)=.mk 3 s.data.toList 0 (l.map tmOf) by rw [tmOf,if_pos rfl,tmOfs_map])
  have HX:Hid (∀ W,Below w.heap.size w W→w.heap.size+1 < W.heap.size→Calls Tryz.prog 80 #[.slice A1 l.length c1,.func (.func 48) #[] #[]] W fun e w'=>∃ v',e=.returned v'∧RowW 4 (TmW d) (fun k=>Vol k ∨ k=w.heap.size+1) (l.map tmOf) v' w'∧Below W.heap.size W w'):=Lib.hid (fun W hb h1=>each_termOf d HC (fun k=>Vol k ∨ k=w.heap.size+1) l _ W (RowW.step (DaW.step d) _ _ _ _ _ _ hr (Kb.of_below hb) (fun k hk e=>e.elim id (fun e=>by omega))) hf.1 hf.2 (fun k e=>e.elim (fun e=>Nat.lt_of_lt_of_le (hvl k e) hb.size) (fun e=>by omega)))
  clear hr hf
  have HA:=HW0
  have HR:=HW1
  have HZ2:=Lib.hid hz2
  clear hz hz2 HW0 HW1
  go_enter Tryz.func48,Tryz.ntmps48
  go_upto_region 3 with fail
  generalize ((w.alloc (.cells #[.bool true,.int .i64 n,.string s,.slice A1 l.length c1] 46)).alloc (.cells #[.int .i64 0,.string ⟨#[]⟩,.int .i64 0,.slice none 0 0] 28))=Z at HA HR HZ2 HB0 ⊢
  have HA:Hid (Z.drew.heap[w.heap.size]?=_):=HA
  have HR:Hid (Z.drew.heap[w.heap.size+1]?=_):=HR
  have HZ2:Hid (Z.drew.heap.size=_):=HZ2
  have HB0:=Lib.hid (below_drw HB0.out)
  have a2:=(cellH HA.out 2).trans rfl
  have a3:=(cellH HA.out 3).trans rfl
  go_region_with (go_at_call 80;refine (HX.out _ HB0.out (by have:=HZ2.out;omega)).mono ?_;rintro e wA ⟨vA,rfl,hvA,hbA⟩;obtain ⟨r1,r3,hve⟩:=hvA.slice;have HLN:=Lib.hid (show (l.map tmOf).length=(l.map tmOf).length from rfl);generalize (l.map tmOf).length=r2 at hve HLN;subst hve;have HVA:=Lib.hid hvA;have HBA:=Lib.hid hbA;have HAA:=Lib.hid ((hbA.block w.heap.size (by have:=HZ2.out;omega)).trans HA.out);have HRA:=Lib.hid ((hbA.block (w.heap.size+1) (by have:=HZ2.out;omega)).trans HR.out);have HB1:=Lib.hid (HB0.out.trans (hbA.mono HB0.out.size));have HSA:=Lib.hid hbA.size;have c2':=(cellH HAA.out 2).trans rfl;have g0:=(cellH HRA.out 0).trans rfl;have g1:=(cellH HRA.out 1).trans rfl;have g2:=(cellH HRA.out 2).trans rfl;have g3:=(cellH HRA.out 3).trans rfl;have h0:=frozenH HRA.out 0;have h1:=frozenH HRA.out 1;have h2:=frozenH HRA.out 2;have h3:=frozenH HRA.out 3;clear hvA hbA)
  all_goals
   go_wp2_with fail
   clear g0 g1 g2 g3 h0 h1 h2 h3
   have hk:=kput4 wA (w.heap.size+1) (.int .i64 3) (.string s) (.int .i64 0) (.slice r1 r2 r3)
   have hq:=put4F (.int .i64 3) (.string s) (.int .i64 0) (.slice r1 r2 r3) HRA.out
   generalize ((((wA.setCell ⟨w.heap.size+1,0,none⟩ (.int .i64 3)).setCell ⟨w.heap.size+1,1,none⟩ (.string s)).setCell ⟨w.heap.size+1,2,none⟩ (.int .i64 0)).setCell ⟨w.heap.size+1,3,none⟩ (.slice r1 r2 r3))=W at hk hq ⊢
   have c0:=(cellH hq 0).trans rfl
   have c1:=(cellH hq 1).trans rfl
   have c2:=(cellH hq 2).trans rfl
   have c3:=(cellH hq 3).trans rfl
   have z2:=HZ2.out
   have za:=HSA.out
   refine bodyPost_ret (v:=.agg #[.int .i64 3,.string s,.int .i64 0,.slice r1 r2 r3]) (by simp [results,Tryz.results48,go_sem,c0,c1,c2,c3]) rfl ⟨_,rfl,?_,?_⟩
   ·rw [HCH.out]
    exact ⟨_,by rw [bs_dataT],RowW.step (TmW.step d) _ _ _ _ _ _ HVA.out (hk.wider (fun k _ e=>.inr e)) (fun k _ e=>.inl e)⟩
   ·exact HB1.out.trans (hk.below (by omega) (fun j e=>by omega))
theorem termOf_any:∀ d,TofC d
 | 0=>fun _ _ _ _ h=>h.elim
 | d+1=>termOf_step d (Lib.hid (termOf_any d))
end Lx
end Go.Proofs.YtiljemkglhloeaaGreatDoor
namespace Go.Proofs.YtiljemkglhloeaaGreatDoor
set_option linter.unusedSimpArgs false
set_option linter.unusedVariables false
namespace Lx
open Go Go.RowKit
theorem append_dat {w:World} {ops:Array Oper} {rest:List Oper} {o:Oper} {a:Act} {Q:Exit→Act→World→Prop} (hgd:o.guard=none) (s x:Operand)
  (ho:o.op=.call { callee:=.builtin .append,args:=#[s,x],argTypes:=#[44,44] })
  (base:Nat) (v:Value) (n:Nat) (xs:List Value) (hs:a.eval s=v) (hown:w.ownsRow base 46 4 v n xs) (B:Nat) (k:Bool) (z:Int) (y:ByteArray) (A:Option Addr) (l c:Nat) (hx:a.eval x=.slice (some ⟨B,0,none⟩) 1 1) (hB:w.heap[B]?=some (.cells #[.bool k,.int .i64 z,.string y,.slice A l c] 46 (0,0))) (hn:n≤2000000) (hbase:base≤w.heap.size)
  (h:∀ g c' w',w'.ownsRow base 46 4 (.slice (some ⟨g,0,none⟩) (n+1) c') (n+1) (xs++[.bool k,.int .i64 z,.string y,.slice A l c])→w.grownBy w' v.ownBlock→(v.ownBlock=some g ∨ g=w.heap.size)→wpList Tryz.prog ops Q rest (a.put o.dst (.slice (some ⟨g,0,none⟩) (n+1) c')) w'):wpList Tryz.prog ops Q (o :: rest) a w:=by
 obtain ⟨i0,hi,hz0,hz1,hz2⟩:=info_parts infoDaG
 exact wpList_append_lies w hgd s x _ ho base _ i0 _ 4 56 Tryz.underlying44 hi hz0 hz1 hz2 rfl (by decide) v n xs hs hown ⟨B,0,none⟩ 1 1 [.bool k,.int .i64 z,.string y,.slice A l c] hx rfl (World.news_of_block (cs:=#[.bool k,.int .i64 z,.string y,.slice A l c]) hB) (by simp [Value.oneCell'])
  (by omega) (by unfold maxLen;omega) (by omega) hbase _ rfl (fun g cap w' h2 h3 h4 _=>h g cap w' h2 h3 h4)
theorem take_ok {l:List TermT} {n:Nat} (h:n < l.length):(l.take (n+1)).all okM=((l.take n).all okM && okM l[n]):=by
 rw [List.take_succ_eq_append_getElem h,List.all_append]
 simp
theorem take_da {l:List TermT} {n:Nat} (h:n < l.length):(l.take (n+1)).map daOf=(l.take n).map daOf++[daOf l[n]]:=by
 rw [List.take_succ_eq_append_getElem h,List.map_append,List.map_singleton]
/-- What the reference's of gives, at terms held so deep. -/
def OfC (d:Nat):Prop:=∀ (Vol:Nat→Prop) (x:TermT) (v:Value) (w:World),TmW d Vol x v w→fewM x →
 Calls Tryz.prog 55 #[v] w fun e w'=>∃ v',e=.returned (.tuple #[v',.bool (okM x)])∧DaE (fun j=>j < w.heap.size) (daOf x) v' w'∧Below w.heap.size w w'
set_option maxRecDepth 100000 in
set_option maxHeartbeats 8000000 in
theorem of_step (d:Nat) (HC:Hid (OfC d)):OfC (d+1):=by
 rintro Vol ⟨k,s,z,l⟩ v w ⟨va,rfl,hr⟩ hf
 obtain ⟨A1,c1,rfl⟩:=hr.slice
 have hfew:=hr.few
 unfold maxLen at hfew
 rw [fewM,fewMs_iff] at hf
 by_cases k2:k=2
 ·subst k2
  have HCH:=Lib.hid (show daOf (.mk 2 s z l)=.mk false z ⟨#[]⟩ [] by rw [daOf,if_pos rfl])
  have HOK:=Lib.hid (show okM (.mk 2 s z l)=true by rw [okM_eq];rfl)
  clear hr hf
  go_enter Tryz.func55,Tryz.ntmps55
  go_wp2_with fail
  exact bodyPost_ret (v:=.tuple #[.agg #[.bool false,.int .i64 z,.string ⟨#[]⟩,.slice none 0 0],.bool true]) (by simp [results,Tryz.results55,go_sem]) rfl ⟨_,by rw [HOK.out],by rw [HCH.out];exact ⟨1,_,rfl,RowW.nil _ _⟩,(below_alloc w _).alloc (by simp) _⟩
 ·have e2:(k == 2)=false:=by simpa using k2
  obtain ⟨q,hq⟩:∃ q,(k == 3)=q:=⟨_,rfl⟩
  have HCH:=Lib.hid (show daOf (.mk k s z l)=.mk true 0 (bs s) (l.map daOf) by rw [daOf,if_neg k2,daOfs_map])
  have HOK:=Lib.hid (show okM (.mk k s z l)=(q && l.all okM) by rw [okM_eq,e2,hq];rfl)
  have HV:=Lib.hid (RowW.step (TmW.step d) _ (fun j=>w.heap.size≤j) _ _ _ _ hr (Kb.refl _ w) (fun j hj e=>by omega))
  have HF:=Lib.hid hf.2
  have HLL:=Lib.hid hf.1
  obtain ⟨nm,hnm⟩:∃ nm,bs s=nm:=⟨_,rfl⟩
  rw [hnm] at HCH ⊢
  have HB0:=Lib.hid (show Below w.heap.size w (((w.alloc (.cells #[.int .i64 k,.string nm,.int .i64 z,.slice A1 l.length c1] 28)).alloc (.cells #[.bool false,.int .i64 0,.string ⟨#[]⟩,.slice none 0 0] 46)).alloc (.cells #[.bool true,.int .i64 0,.string nm,.slice none 0 0] 46)) from ((below_alloc _ _).alloc (by simp) _).alloc (by simp;omega) _)
  have HX0:=Lib.hid ((Below.heap_alloc ((w.alloc (.cells #[.int .i64 k,.string nm,.int .i64 z,.slice A1 l.length c1] 28)).alloc (.cells #[.bool false,.int .i64 0,.string ⟨#[]⟩,.slice none 0 0] 46)) (.cells #[.bool true,.int .i64 0,.string nm,.slice none 0 0] 46) (w.alloc (.cells #[.int .i64 k,.string nm,.int .i64 z,.slice A1 l.length c1] 28)).heap.size (by simp)).trans (heap_alloc_new (w.alloc (.cells #[.int .i64 k,.string nm,.int .i64 z,.slice A1 l.length c1] 28)) (.cells #[.bool false,.int .i64 0,.string ⟨#[]⟩,.slice none 0 0] 46)))
  have HX2:=Lib.hid (heap_alloc_new ((w.alloc (.cells #[.int .i64 k,.string nm,.int .i64 z,.slice A1 l.length c1] 28)).alloc (.cells #[.bool false,.int .i64 0,.string ⟨#[]⟩,.slice none 0 0] 46)) (.cells #[.bool true,.int .i64 0,.string nm,.slice none 0 0] 46))
  have hz1:(w.alloc (.cells #[.int .i64 k,.string nm,.int .i64 z,.slice A1 l.length c1] 28)).heap.size=w.heap.size+1:=by simp
  have hz2:((w.alloc (.cells #[.int .i64 k,.string nm,.int .i64 z,.slice A1 l.length c1] 28)).alloc (.cells #[.bool false,.int .i64 0,.string ⟨#[]⟩,.slice none 0 0] 46)).heap.size=w.heap.size+2:=by simp
  rw [hz1] at HX0
  rw [hz2] at HX2
  have HSZ:=Lib.hid (show (((w.alloc (.cells #[.int .i64 k,.string nm,.int .i64 z,.slice A1 l.length c1] 28)).alloc (.cells #[.bool false,.int .i64 0,.string ⟨#[]⟩,.slice none 0 0] 46)).alloc (.cells #[.bool true,.int .i64 0,.string nm,.slice none 0 0] 46)).heap.size=w.heap.size+3 by simp)
  clear hr hf hnm hz1 hz2
  go_enter Tryz.func55,Tryz.ntmps55
  go_wp2_with fail
  generalize (((w.alloc (.cells #[.int .i64 k,.string nm,.int .i64 z,.slice A1 l.length c1] 28)).alloc (.cells #[.bool false,.int .i64 0,.string ⟨#[]⟩,.slice none 0 0] 46)).alloc (.cells #[.bool true,.int .i64 0,.string nm,.slice none 0 0] 46))=W6 at HB0 HX0 HX2 HSZ ⊢
  obtain ⟨N1,hN1⟩:∃ N1,w.heap.size+1=N1:=⟨_,rfl⟩
  have HNE1:=Lib.hid hN1
  rw [hN1] at HX0
  rw [show w.heap.size+2=w.heap.size+1+1 from rfl,hN1] at HX2
  try rw [hN1]
  obtain ⟨N2,hN2⟩:∃ N2,N1+1=N2:=⟨_,rfl⟩
  have HNE2:Hid (w.heap.size+2=N2):=Lib.hid (by omega)
  rw [hN2] at HX2
  try rw [hN2]
  clear hN1 hN2 hq e2
  go_loopw [5,25] (fun t u wr=>∃ (acc:List DaT) (vs:List Value) (sl:Option Addr) (cap:Nat),acc.length≤l.length∧t=.bool (q && (l.take acc.length).all okM)∧u=.int .i64 acc.length∧Hid (acc=(l.take acc.length).map daOf)∧Hid (Below w.heap.size w wr)∧Hid (wr.heap[N1]?=some (.cells #[.bool false,.int .i64 0,.string ⟨#[]⟩,.slice none 0 0] 46 (0,0))) ∧
    Hid (wr.heap[N2]?=some (.cells #[.bool true,.int .i64 0,.string nm,.slice sl acc.length cap] 46 (0,0)))∧Hid (RowD (fun j=>j < W6.heap.size) W6 wr sl cap acc vs)) (fun _ u _=>l.length - (intOf u).toNat)
  case atStart=>exact ⟨[],[],none,0,Nat.zero_le _,by simp,rfl,Lib.hid rfl,HB0,HX0,HX2,Lib.hid (RowD.start _ _)⟩
  case round =>
   obtain ⟨acc,vs,sl,cap,haz,rfl,rfl,HAC,HBW,HX0,HX2,HRO⟩:=hrel
   have HAZ:=Lib.hid haz
   have HSZR:Hid (w.heap.size+3≤wr.heap.size):=Lib.hid (by have:=HRO.out.keep.size;have:=HSZ.out;omega)
   clear haz
   by_cases hlt:acc.length < l.length
   ·obtain ⟨g,o,vi,rfl,hg,_,hvi,hc⟩:=RowW.at (RowW.step (TmW.step d) _ _ _ _ _ _ HV.out (Kb.of_below HBW.out) (fun _ _ e=>e)) acc.length hlt
    have HVI:=Lib.hid hvi
    obtain ⟨B1,n1,d1,rfl⟩:=hvi.this
    have a0:=(hc 0 (by decide)).trans rfl
    have a1:=(hc 1 (by decide)).trans rfl
    have a2:=(hc 2 (by decide)).trans rfl
    have a3:=(hc 3 (by decide)).trans rfl
    simp only [cellsL,Value.cells,List.getElem?_cons_zero,List.getElem?_cons_succ,Nat.add_zero] at a0 a1 a2 a3
    have hk0:(0:Int)≤(acc.length:Int):=by omega
    have hk1:(acc.length:Int) < (l.length:Int):=by omega
    have hdc:decide (acc.length < l.length)=true:=by simpa using hlt
    have HLT:=Lib.hid hlt
    have HTA:=Lib.hid (take_ok hlt)
    have HTM:=Lib.hid (take_da hlt)
    have HFX:=Lib.hid (HF.out _ (List.getElem_mem hlt))
    generalize l[acc.length]=x at *
    have HX:=Lib.hid (HC.out _ x _ (wr.alloc (.cells #[.int .i64 x.kd,.string (bs x.nm),.int .i64 x.nu,.slice B1 n1 d1] 28)) ((TmW.step d).below HVI.out (below_alloc _ _)) HFX.out)
    have HBB:=Lib.hid (below_alloc wr (.cells #[.int .i64 x.kd,.string (bs x.nm),.int .i64 x.nu,.slice B1 n1 d1] 28))
    clear hc hvi hlt HVI
    obtain ⟨QQ,hQ⟩:∃ QQ,(q && (l.take acc.length).all okM)=QQ:=⟨_,rfl⟩
    have HQ:=Lib.hid hQ
    rw [hQ]
    clear hQ
    generalize hkd:x.kd=z0 at *
    generalize hnm2:bs x.nm=z1 at *
    generalize hnu:x.nu=z2 at *
    clear hkd hnm2 hnu
    go_wp2_with fail
    go_at_call 55
    refine HX.out.mono ?_
    rintro e W3 ⟨v3,rfl,hd3,hb3⟩
    have HB3:=Lib.hid (HBB.out.trans (hb3.mono HBB.out.size))
    obtain ⟨A2,m2,r2,hve⟩:=hd3.this
    obtain ⟨cc,hcc⟩:∃ cc,(daOf x).ctor=cc:=⟨_,rfl⟩
    obtain ⟨zz,hzz⟩:∃ zz,(daOf x).int=zz:=⟨_,rfl⟩
    obtain ⟨ss,hss⟩:∃ ss,(daOf x).name=ss:=⟨_,rfl⟩
    rw [hcc,hzz,hss] at hve
    subst hve
    clear hcc hzz hss
    have HX0:=Lib.hid ((HB3.out.block _ (Array.getElem?_eq_some_iff.1 HX0.out).1).trans HX0.out)
    have HX2:=Lib.hid ((HB3.out.block _ (Array.getElem?_eq_some_iff.1 HX2.out).1).trans HX2.out)
    have HRO3:=Lib.hid (HRO.out.go (fun _ e=>e) (Kb.of_below HB3.out))
    have HDA3:Hid (DaE (fun j=>j < W6.heap.size ∨ sl=some ⟨j,0,none⟩) (daOf x) (.agg #[.bool cc,.int .i64 zz,.string ss,.slice A2 m2 r2]) W3):=Lib.hid (DaE.step _ _ _ _ _ _ hd3 (Kb.refl _ _) (fun j _ e=>by
     have h2:=HRO.out.keep.size
     simp
     rcases e with e | e
     ·omega
     ·have:=(HRO.out.own.lt j (by rw [e];rfl)).2
      omega))
    have HB4:=Lib.hid (HB3.out.trans ((below_alloc W3 (.cells #[.bool cc,.int .i64 zz,.string ss,.slice A2 m2 r2] 46)).mono HB3.out.size))
    have HW4:=Lib.hid (heap_alloc_new W3 (.cells #[.bool cc,.int .i64 zz,.string ss,.slice A2 m2 r2] 46))
    have HX04:=Lib.hid (((below_alloc W3 (.cells #[.bool cc,.int .i64 zz,.string ss,.slice A2 m2 r2] 46)).block N1 (Array.getElem?_eq_some_iff.1 HX0.out).1).trans HX0.out)
    have HX24:=Lib.hid (((below_alloc W3 (.cells #[.bool cc,.int .i64 zz,.string ss,.slice A2 m2 r2] 46)).block N2 (Array.getElem?_eq_some_iff.1 HX2.out).1).trans HX2.out)
    have HRO4:=Lib.hid (HRO3.out.go (fun _ e=>e) (Kb.of_below (below_alloc W3 (.cells #[.bool cc,.int .i64 zz,.string ss,.slice A2 m2 r2] 46))))
    have HDA4:=Lib.hid (DaE.step _ _ _ _ _ _ HDA3.out (Kb.of_below (below_alloc W3 (.cells #[.bool cc,.int .i64 zz,.string ss,.slice A2 m2 r2] 46))) (fun _ _ e=>e))
    clear hd3 hb3 a0 a1 a2 a3 hdc HX HBB
    have HS3:=Lib.hid HB3.out.size
    go_upto_region 9 with fail
    generalize hW4:W3.alloc (.cells #[.bool cc,.int .i64 zz,.string ss,.slice A2 m2 r2] 46)=W4 at HB4 HW4 HX04 HX24 HRO4 HDA4 ⊢
    clear hW4
    obtain ⟨N8,hN8⟩:∃ N8,W3.heap.size=N8:=⟨_,rfl⟩
    have HN8:=Lib.hid hN8
    rw [hN8] at HW4 ⊢
    clear hN8
    have HO5:=Lib.hid (own_belowN HRO4.out.own (below_alloc W4 (.cells #[.bool cc,.int .i64 zz,.string ss,.slice A2 m2 r2] 46)))
    have HS5:Hid (W6.heap.size≤(W4.alloc (.cells #[.bool cc,.int .i64 zz,.string ss,.slice A2 m2 r2] 46)).heap.size):=Lib.hid (by have:=HRO4.out.keep.size;simp;omega)
    have hnown:∀ j,j < W6.heap.size→some j ≠ (Value.slice sl acc.length cap).ownBlock:=fun j hj e=>by have:=(HO5.out.lt j e.symm).1;omega
    have HNOWN:=Lib.hid hnown
    have HN16:Hid (N1 < W6.heap.size):=Lib.hid (by have:=HSZ.out;have:=HNE1.out;omega)
    have HN26:Hid (N2 < W6.heap.size):=Lib.hid (by have:=HSZ.out;have:=HNE2.out;omega)
    have HX05:=Lib.hid (((below_alloc W4 (.cells #[.bool cc,.int .i64 zz,.string ss,.slice A2 m2 r2] 46)).block N1 (Array.getElem?_eq_some_iff.1 HX04.out).1).trans HX04.out)
    have HX25:=Lib.hid (((below_alloc W4 (.cells #[.bool cc,.int .i64 zz,.string ss,.slice A2 m2 r2] 46)).block N2 (Array.getElem?_eq_some_iff.1 HX24.out).1).trans HX24.out)
    clear hnown
    have b0:=(cellH HW4.out 0).trans rfl
    have b1:=(cellH HW4.out 1).trans rfl
    have b2:=(cellH HW4.out 2).trans rfl
    have b3:=(cellH HW4.out 3).trans rfl
    have n3:=(cellH HX24.out 3).trans rfl
    cases QQ
    all_goals
     go_wp2_with (at_builtin;refine append_dat rfl _ _ rfl W6.heap.size (.slice sl acc.length cap) acc.length _ rfl HO5.out W4.heap.size cc zz ss A2 m2 r2 rfl (heap_alloc_new W4 _) (by have:=HLT.out;have:=HLL.out;omega) HS5.out ?_;intro g4 c4 W5 hown5 hg5 hat5;have HOW5:=Lib.hid hown5;have HG5:=Lib.hid hg5;have HAT5:=Lib.hid hat5;have HX27:=Lib.hid ((hg5.block N2 (Array.getElem?_eq_some_iff.1 HX25.out).1 (HNOWN.out N2 HN26.out)).trans HX25.out);clear hown5 hg5 hat5 n3 b0 b1 b2 b3;have z3:=(cellH HX27.out 3).trans rfl;have y3:=frozenH HX27.out 3)
     have hsn:=HRO4.out.snoc (x2:=daOf x) (v2:=.agg #[.bool cc,.int .i64 zz,.string ss,.slice A2 m2 r2]) (o:=.cells #[.bool cc,.int .i64 zz,.string ss,.slice A2 m2 r2] 46) (Kb.refl _ _) HDA4.out HOW5.out HG5.out HAT5.out
     have hput:=blk_put W5 N2 3 (.slice (some ⟨g4,0,none⟩) (acc.length+1) c4) HX27.out (by show 3 < 4;decide)
     have hkp:Kb (fun j=>j=N2) W5 (W5.setCell ⟨N2,3,none⟩ (.slice (some ⟨g4,0,none⟩) (acc.length+1) c4)):=(Kb.refl (fun j=>j=N2) W5).put (p:=⟨N2,3,none⟩) rfl _
     have hlen:(acc++[daOf x]).length=acc.length+1:=by simp
     have hb6:Below w.heap.size w (W5.setCell ⟨N2,3,none⟩ (.slice (some ⟨g4,0,none⟩) (acc.length+1) c4)):=by
      have h1:=HBW.out.trans (HB4.out.mono HBW.out.size)
      have h2:Below w.heap.size w W5:=below_grownB (h1.alloc (by exact h1.size) (.cells #[.bool cc,.int .i64 zz,.string ss,.slice A2 m2 r2] 46)) HG5.out (fun k e=>by have:=(HO5.out.lt k e).1;have:=HSZ.out;omega) (by have:=h1.size;simp;omega)
      exact h2.trans (hkp.below (B:=w.heap.size) h2.size (fun j e=>by have:=HNE2.out;omega))
     have hb0:(W5.setCell ⟨N2,3,none⟩ (.slice (some ⟨g4,0,none⟩) (acc.length+1) c4)).heap[N1]?=some (.cells #[.bool false,.int .i64 0,.string ⟨#[]⟩,.slice none 0 0] 46 (0,0)):=by
      have h1:=(HG5.out.block N1 (Array.getElem?_eq_some_iff.1 HX05.out).1 (HNOWN.out N1 HN16.out)).trans HX05.out
      exact (hkp.block N1 (Array.getElem?_eq_some_iff.1 h1).1 (by have:=HNE1.out;have:=HNE2.out;omega)).trans h1
     go_roundw
     case rel=>exact ⟨acc++[daOf x],_,_,c4,by rw [hlen];exact HLT.out,by rw [hlen,HTA.out,← Bool.and_assoc,HQ.out];rfl,by rw [hlen];go_num,Lib.hid (by rw [hlen,HTM.out,← HAC.out]),Lib.hid hb6,Lib.hid hb0,Lib.hid (by rw [hlen];exact hput),Lib.hid (hsn.go (fun _ e=>e) (hkp.wider (fun j _ e=>by subst e;exact HN26.out)))⟩
     case measure=>have:=HLT.out;simp [intOf];omega
   ·have hzz:acc.length=l.length:=by have:=HAZ.out;omega
    have hdc:decide (acc.length < l.length)=false:=by simpa using hlt
    have HZZ:=Lib.hid hzz
    have e0:=(cellH HX2.out 0).trans rfl
    have e1:=(cellH HX2.out 1).trans rfl
    have e2:=(cellH HX2.out 2).trans rfl
    have e3:=(cellH HX2.out 3).trans rfl
    have k0:=(cellH HX0.out 0).trans rfl
    have k1:=(cellH HX0.out 1).trans rfl
    have k2:=(cellH HX0.out 2).trans rfl
    have k3:=(cellH HX0.out 3).trans rfl
    have f0:=frozenH HX0.out 0
    have f1:=frozenH HX0.out 1
    have f2:=frozenH HX0.out 2
    have f3:=frozenH HX0.out 3
    clear hzz hlt
    go_wp2_with fail
    have hp4:=put4F (.bool true) (.int .i64 0) (.string nm) (.slice sl acc.length cap) HX0.out
    have hk4:=kput4 wr N1 (.bool true) (.int .i64 0) (.string nm) (.slice sl acc.length cap)
    have c0:=(cellH hp4 0).trans rfl
    have c1:=(cellH hp4 1).trans rfl
    have c2:=(cellH hp4 2).trans rfl
    have c3:=(cellH hp4 3).trans rfl
    have hb4:=hk4.below (B:=w.heap.size) (by have:=HSZR.out;omega) (fun j e=>by have:=HNE1.out;omega)
    have hrow:=HRO.out.held (fun _ e=>e)
    have hda:=daE_row (c:=true) (n:=0) (s:=nm) hrow
    have hda2:=DaE.step _ (fun j=>j < w.heap.size) _ _ _ _ hda (hk4.wider (fun j _ e=>by have:=HSZ.out;have:=HNE1.out;show j < W6.heap.size;omega)) (fun j _ e=>by have:=HSZ.out;show j < W6.heap.size;omega)
    refine bodyPost_ret (v:=.tuple #[.agg #[.bool true,.int .i64 0,.string nm,.slice sl acc.length cap],.bool (q && (l.take acc.length).all okM)]) (by simp [results,Tryz.results55,go_sem,c0,c1,c2,c3]) rfl ⟨.agg #[.bool true,.int .i64 0,.string nm,.slice sl acc.length cap],?_,?_,HBW.out.trans hb4⟩
    ·rw [HOK.out,HZZ.out,List.take_length]
    ·rw [HCH.out]
     have e:l.map daOf=acc:=by rw [HAC.out,HZZ.out,List.take_length]
     rw [e]
     exact hda2
theorem of_any:∀ d,OfC d
 | 0=>fun _ _ _ _ h=>h.elim
 | d+1=>of_step d (Lib.hid (of_any d))
end Lx
end Go.Proofs.YtiljemkglhloeaaGreatDoor
