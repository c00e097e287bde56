/- augurnum.Bytes: a copy with six marked bytes behind. Conditions: as it states. -/
import Derived.Test.YtnpacamcgifabaaDoorDv
import Derived.Laws.MakeOwn
namespace Go.Proofs.YtnpacamcgifabaaDoor
set_option linter.unusedSimpArgs false
set_option linter.unusedVariables false
namespace Lx
open Go Go.RowKit
def marks:List UInt8:=[201,202,203,204,205,206]
/-- 'append(own, 201, .., 206)'. -/
theorem append_marks {w:World} {ops:Array Oper} {rest:List Oper} {o:Oper} {a:Act} {Q:Exit→Act→World→Prop} (hgd:o.guard=none) (s x:Operand)
  (ho:o.op=.call { callee:=.builtin .append,args:=#[s,x],argTypes:=#[64,64] })
  (B:Nat) (l:List UInt8) (v:Value) (hs:a.eval s=v) (hown:OwnB B l v w) (N:Nat) (hx:a.eval x=.slice (some ⟨N,0,none⟩) 6 6) (hN:w.heap[N]?=some (.cells #[.int .u8 201,.int .u8 202,.int .u8 203,.int .u8 204,.int .u8 205,.int .u8 206] 5 (0,0))) (hl:l.length≤10000000000000) (hbase:B≤w.heap.size)
  (h:∀ g c' w',OwnB B (l++marks) (.slice (some ⟨g,0,none⟩) (l.length+6) c') w'→w.grownBy w' v.ownBlock→wpList Tryd.prog ops Q rest (a.put o.dst (.slice (some ⟨g,0,none⟩) (l.length+6) c')) w'):wpList Tryd.prog ops Q (o :: rest) a w:=by
 obtain ⟨i0,hi,hz0,hz1,hz2⟩:=info_parts infoB
 refine wpList_append_lies w hgd s x 64 ho B 5 i0 _ 1 1 Tryd.underlying64 hi hz0 hz1 hz2 rfl (by decide) v l.length (Lib.byteCells l) hs hown ⟨N,0,none⟩ 6 6 [.int .u8 201,.int .u8 202,.int .u8 203,.int .u8 204,.int .u8 205,.int .u8 206] hx rfl (World.news_of_block (cs:=#[.int .u8 201,.int .u8 202,.int .u8 203,.int .u8 204,.int .u8 205,.int .u8 206]) hN) (by simp [Value.oneCell']) (by decide) (by unfold maxLen;omega) (by omega) hbase _ rfl ?_
 intro g cap w' h2 h3 _ _
 exact h _ cap w' (by unfold OwnB;rw [byteCells_app,List.length_append];exact h2) h3
/-- What Bytes leaves. -/
def BytP (l:List UInt8) (w:World):Ending→World→Prop:=fun e w'=>Below w.heap.size w w'∧∃ g cap,e=.returned (.slice (some ⟨g,0,none⟩) l.length cap)∧l.length+6≤cap∧OwnB w.heap.size (l++marks) (.slice (some ⟨g,0,none⟩) (l.length+6) cap) w'
set_option maxRecDepth 100000 in
set_option maxHeartbeats 4000000 in
theorem bytes_any (l:List UInt8) (v:Value) (w:World) (h:RowW 1 ByH (fun j=>w.heap.size≤j) l v w) (h0:∀ n c,v=.slice none n c→c=0) (hl:l.length≤10000000) :
  Calls Tryd.prog 37 #[v] w (BytP l w):=by
 obtain ⟨A,c,rfl⟩:=h.slice
 obtain ⟨i0,hi,hz0,hz1,hz2⟩:=info_parts infoB
 obtain ⟨w1,hmk,hown,hgr⟩:=run_make_own (P:=Tryd.prog) w w.heap.size 64 5 i0 _ 1 Tryd.underlying64 hi hz0 hz1 .i64 .i64 (l.length+6) (by rw [hz2];omega) (by unfold maxLen;omega) (Nat.le_refl _)
 rw [show ((l.length+6:Nat):Int)=(l.length:Int)+6 by omega] at hmk
 have hb1:Below w.heap.size w w1:=below_grownB (Below.refl _ _) hgr (fun k e=>by cases e) (Nat.le_refl _)
 have HO1:Hid (OwnB w.heap.size [] (.slice (some ⟨w.heap.size,0,none⟩) 0 (l.length+6)) w1):=Lib.hid hown
 have HB1:=Lib.hid hb1
 have HR:=Lib.hid (RowW.step ByH.step _ _ _ _ _ _ h (Kb.of_below (S:=fun j=>w.heap.size≤j) hb1) (fun _ _ e=>e))
 have H0:=Lib.hid h0
 have HL:=Lib.hid hl
 clear h h0 hown hgr hb1 hi hz0 hz1 hz2
 go_enter Tryd.func37,Tryd.ntmps37
 go_upto_region 2 with (first
  | (at_builtin;refine append_row (by kernel_rfl) _ _ rfl w.heap.size [] (.slice (some ⟨w.heap.size,0,none⟩) 0 (l.length+6)) rfl HO1.out (fun j=>w.heap.size≤j) l (.slice A l.length c) rfl HR.out (fun n c e=>H0.out n c e) (by have:=HL.out;simp;omega) HB1.out.size ?_;intro v2 w2 hown2 hg2;have HO2:Hid (OwnB w.heap.size l v2 w2):=Lib.hid hown2;have HB2:=Lib.hid (below_grownB HB1.out hg2 (fun k e=>(HO1.out.lt k e).1) HB1.out.size);clear hown2 hg2)
  | (at_builtin;refine append_marks rfl _ _ rfl w.heap.size l _ rfl (OwnB.below HO2.out (below_alloc w2 _)) w2.heap.size rfl (heap_alloc_new w2 _) (by have:=HL.out;omega) (by have:=HB2.out.size;simp;omega) ?_;intro g3 c3 w3 hown3 hg3;have HO3:=Lib.hid hown3;have HG3:=Lib.hid hg3;clear hown3 hg3))
 have hcap:l.length+6≤c3:=by
  obtain ⟨A',c',e,h1,_,_⟩:=HO3.out.row
  injection e with _ _ e3
  rw [List.length_append] at h1
  have:marks.length=6:=rfl
  omega
 have hsl:=run_head (some ⟨g3,0,none⟩) (l.length+6) c3 l.length w3 (by omega)
 have HCAP:=Lib.hid hcap
 have HB3:=Lib.hid (below_grownB (HB2.out.alloc HB2.out.size (.cells #[.int .u8 201,.int .u8 202,.int .u8 203,.int .u8 204,.int .u8 205,.int .u8 206] 5)) HG3.out (fun k e=>(HO2.out.lt k e).1) (by have:=HB2.out.size;simp;omega))
 clear hcap hmk
 go_wp2_with fail
 go_ret
 exact (by unfold BytP;exact ⟨HB3.out,g3,c3,rfl,HCAP.out,HO3.out⟩)
end Lx
end Go.Proofs.YtnpacamcgifabaaDoor
