/- The contracts of package lex's functions that find one token: token, word, number, mark, first: each returns the token that the plain function finds at the text's beginning. Conditions: the text is not empty and has at most 2^47 bytes; the two error variables of strconv hold an error; strconv's table of powers of ten holds them. -/
/- The contract of package lex's number: the int at a text's beginning, or none. Conditions: the text is not empty and has at most 2^47 bytes; the two error variables of strconv hold an error; strconv's table of powers of ten holds them. -/
/- The contracts of package lex's mark and first: the token at a text's beginning, or none. Conditions: the text is not empty and has at most 2^47 bytes; the two error variables of strconv hold an error; strconv's table of powers of ten holds them. -/
/- The contract of package lex's Lex at every text: its tokens in a new row of cells and no error, or no token and one of the two errors. Conditions: the texts' sizes are at most 2^47; the error variables hold an error; strconv's table of powers of ten holds them. -/
/- The contract of package lex's Lex at every text: its tokens in a new row of cells and no error, or no token and one of the two errors. Conditions: the text has at most 2^47 bytes; the error variables hold an error; strconv's table of powers of ten holds them. -/
import Derived.Test.YtiljemkglhloeaaGreatDoorRunA
import Derived.Test.YtiljemkglhloeaaGreatDoorShelf
import Derived.Deep.QuietTactic
import Derived.BigQuiet
import Derived.Lib.SmallJoins
import Derived.Lib.QuietBelow
import Derived.Test.YtiljemkglhloeaaGreatDoorPlainA
import Derived.Maps.AppendAt
import Derived.RangeFuncBox
namespace Go.Proofs.YtiljemkglhloeaaGreatDoor
set_option linter.unusedSimpArgs false
set_option linter.unusedVariables false
namespace Lx
open Go Go.RowKit
theorem clone_any (s:ByteArray) (hs:s.size≤281474976710656) (w:World) :
  Calls Tryz.prog 187 #[.string s] w fun e w'=>e=.returned (.string s)∧Below w.heap.size w w':=by
 have HC:=Lib.hid (Tryz.stringslite_Clone s)
 go_enter Tryz.func187,Tryz.ntmps187
 go_wp2_with (go_at_call 194;refine (HC.out _ hs).mono ?_;rintro e w1 ⟨rfl,hb1⟩)
 go_ret
 exact ⟨rfl,hb1⟩
theorem bcell {B:Nat} {W w1:World} (hb:Below B W w1):(∀ b o,b < B→w1.cell? ⟨b,o,none⟩=W.cell? ⟨b,o,none⟩)∧(∀ b o,b < B→w1.frozen? ⟨b,o,none⟩=W.frozen? ⟨b,o,none⟩) :=
 ⟨fun b o h=>hb.cell (p:=⟨b,o,none⟩) h,fun b o h=>hb.frozen (p:=⟨b,o,none⟩) h⟩
theorem token_any (k:Int) (s:ByteArray) (hs:s.size≤281474976710656) (w:World) :
  Calls Tryz.prog 180 #[.int .i64 k,.string s] w fun e w'=>e=.returned (.agg #[.int .i64 k,.string s,.int .i64 0])∧Below w.heap.size w w':=by
 have HC:=Lib.hid (clone_any s hs)
 go_enter Tryz.func180,Tryz.ntmps180
 go_wp2_with (go_at_call 187;refine (HC.out _).mono ?_;rintro e w1 ⟨rfl,hb1⟩;obtain ⟨hc,hf⟩:=bcell hb1)
 refine bodyPost_ret (v:=.agg #[.int .i64 k,.string s,.int .i64 0]) (by simp [results,Tryz.results180,go_sem,hc]) rfl ⟨rfl,?_⟩
 exact (((((Below.refl _ _).alloc (Nat.le_refl _) _).trans (hb1.mono (by simp))).setCell (Nat.le_refl _) _).setCell (Nat.le_refl _) _).setCell (Nat.le_refl _) _
/-- What the calls of this layer read of the program's variables: the two errors of strconv and its table. -/
structure Env (w:World):Prop where
 size:20 < w.heap.size
 syn:∃ te pe,w.cell? ⟨21,0,none⟩=some (.iface te pe)
 rng:∃ te pe,w.cell? ⟨22,0,none⟩=some (.iface te pe)
 tab : Lib.TabIs Tryz.prog w "internal/strconv.uint64pow10" .u64 Lib.pow10Tab
theorem Env.below {w w':World} (h:Env w) (hb:Below w.heap.size w w'):Env w':=by
 have h0:=h.size
 refine ⟨Nat.le_trans h0 hb.size,?_,?_,Joins.tab_stays (g:=18) (by kernel_rfl) h.tab hb (Nat.le_refl _)⟩
 ·obtain ⟨te,pe,h1⟩:=h.syn
  exact ⟨te,pe,(hb.cell (p:=⟨21,0,none⟩) (World.block_lt_of_cell? _ _ h1)).trans h1⟩
 ·obtain ⟨te,pe,h1⟩:=h.rng
  exact ⟨te,pe,(hb.cell (p:=⟨22,0,none⟩) (World.block_lt_of_cell? _ _ h1)).trans h1⟩
/-- A token as the code holds it. -/
def bs (l:List UInt8):ByteArray:=⟨l.toArray⟩
def tokV (t:Tok):Value:=.agg #[.int .i64 t.kind,.string (bs t.text),.int .i64 t.num]
def noTok:Value:=.agg #[.int .i64 0,.string ⟨#[]⟩,.int .i64 0]
def tk (o:Option Tok):Int:=match o with
 | some t=>t.kind
 | none=>0
def tx (o:Option Tok):ByteArray:=match o with
 | some t=>bs t.text
 | none=>⟨#[]⟩
def tn (o:Option Tok):Int:=match o with
 | some t=>t.num
 | none=>0
def tb (o:Option Tok):Bool:=match o with
 | some _=>true
 | none=>false
/-- What a function that finds a token returns: the token and true; or no token and false. -/
def TokEnd (o:Option Tok) (w:World) (e:Ending) (w':World):Prop :=
 e=.returned (.tuple #[.agg #[.int .i64 (tk o),.string (tx o),.int .i64 (tn o)],.bool (tb o)])∧Below w.heap.size w w'
theorem bs_size (l:List UInt8):(bs l).size=l.length:=by simp [bs,ByteArray.size]
theorem take_bs (s:ByteArray) (n:Nat):s.extract 0 n=bs (s.data.toList.take n):=by
 unfold bs
 apply ByteArray.ext
 apply Array.ext'
 simp
theorem tail_list (s:ByteArray):(s.extract 1 s.size).data.toList=s.data.toList.tail:=by
 rw [ext_list];simp
/-- A token's three cells, laid in a new block. -/
theorem below_dN {B:Nat} {a w:World} (h:Below B a w) (n:Nat):Below B a (w.drewN n):=⟨h.os,h.tape,h.output,h.size,h.block⟩
theorem below_tok {w w1:World} {o:Obj} (h:Below (w.alloc o).heap.size (w.alloc o) w1) (a b c:Value) :
  Below w.heap.size w (((w1.setCell ⟨w.heap.size,0,none⟩ a).setCell ⟨w.heap.size,1,none⟩ b).setCell ⟨w.heap.size,2,none⟩ c) :=
 (((((Below.refl _ _).alloc (Nat.le_refl _) _).trans (h.mono (by simp))).setCell (Nat.le_refl _) _).setCell (Nat.le_refl _) _).setCell (Nat.le_refl _) _
theorem wordt_any (k:Int) (s:ByteArray) (hs:s.size≤140737488355328) (h0:0 < s.size) (w:World) :
  Calls Tryz.prog 161 #[.int .i64 k,.string s] w fun e w'=>TokEnd (wordTok k s.data.toList) w e w':=by
 have HR:=Lib.hid (run_word (s.extract 1 s.size) (by simp;omega))
 have HL:=Lib.hid (tail_list s)
 have hle:=runL_le wordI s.data.toList.tail
 simp at hle
 rw [HL.out] at HR
 have HE:Hid (TokEnd (wordTok k s.data.toList)=TokEnd (if 1+runL wordI s.data.toList.tail≤32 then some ⟨k,s.data.toList.take (1+runL wordI s.data.toList.tail),0⟩ else none)):=rfl
 rw [HE.out]
 clear HE
 generalize runL wordI s.data.toList.tail=n at *
 have HT:=Lib.hid (take_bs s (1+n))
 have HK:=Lib.hid (token_any k (s.extract 0 (1+n)) (by simp;omega))
 by_cases h:1+n≤32
 ·rw [if_pos h]
  have HP:Hid (∀ e w',(e=.returned (.tuple #[.agg #[.int .i64 k,.string (s.extract 0 (1+n)),.int .i64 0],.bool true])∧Below w.heap.size w w')→TokEnd (some ⟨k,s.data.toList.take (1+n),0⟩) w e w'):=by
   rintro e w' ⟨rfl,hb⟩
   exact ⟨by rw [HT.out];rfl,hb⟩
  refine Calls.mono ?_ HP.out
  clear HP HT HL
  go_enter Tryz.func161,Tryz.ntmps161
  go_wp2_with (first | (go_at_call 158;refine (HR.out _).mono ?_;rintro e w1 ⟨rfl,rfl⟩) | (go_at_call 180;refine (HK.out _).mono ?_;rintro e w1 ⟨rfl,hb1⟩;obtain ⟨hc,hf⟩:=bcell hb1))
  exact bodyPost_ret (v:=.tuple #[.agg #[.int .i64 k,.string (s.extract 0 (1+n)),.int .i64 0],.bool true]) (by simp [results,Tryz.results161,go_sem,hc]) rfl ⟨rfl,below_tok hb1 _ _ _⟩
 ·rw [if_neg h]
  have h':¬ (1+(n:Int)≤32):=by omega
  clear HT HL HK
  go_enter Tryz.func161,Tryz.ntmps161
  go_wp2_with (go_at_call 158;refine (HR.out _).mono ?_;rintro e w1 ⟨rfl,rfl⟩)
  exact bodyPost_ret (v:=.tuple #[noTok,.bool false]) (by simp [results,Tryz.results161,go_sem,noTok]) rfl ⟨rfl,(Below.refl _ _).alloc (Nat.le_refl _) _⟩
end Lx
end Go.Proofs.YtiljemkglhloeaaGreatDoor
namespace Go.Proofs.YtiljemkglhloeaaGreatDoor
set_option linter.unusedSimpArgs false
set_option linter.unusedVariables false
namespace Lx
open Go Go.RowKit
/-! ### numbers -/
theorem atoi_ok (s:ByteArray) (hs:s.size≤140737488355328) (v:Int) (h:Lib.atoiAll s.data.toList=.ok v) (w:World) :
  Calls Tryz.prog 181 #[.string s] w fun e w'=>e=.returned (.tuple #[.int .i64 v,.nilIface])∧Below w.heap.size w w':=by
 refine (Tryz.strconv_Atoi_ok s (by omega) v h w).mono ?_
 rintro e w' ⟨rfl,rfl | ⟨t,rfl⟩⟩
 ·exact ⟨rfl,Below.refl _ _⟩
 ·exact ⟨rfl,Lib.bytesWorld_below _ _ _⟩
theorem atoi_bad (s:ByteArray) (hs:s.size≤140737488355328) (h:∀ v,Lib.atoiAll s.data.toList ≠ .ok v) (w:World) (hE:Env w) :
  Calls Tryz.prog 181 #[.string s] w fun e w'=>∃ n N,e=.returned (.tuple #[.int .i64 n,.iface 222 (.pointer (some ⟨N,0,none⟩))])∧Below w.heap.size w w':=by
 obtain ⟨te,pe,h1⟩:=hE.syn
 obtain ⟨tr,pr,h2⟩:=hE.rng
 rcases hh:Lib.atoiAll s.data.toList with v | _ | _
 ·exact absurd hh (h v)
 ·refine (Any.strconv_Atoi_syntax Tryz.laysC172 s (by omega) hh _ w h1 (.inr ⟨te,pe,rfl⟩)).mono ?_
  rintro e w' ⟨N,rfl,_,_,hb⟩
  exact ⟨_,N,rfl,hb⟩
 ·refine (Any.strconv_Atoi_range Tryz.laysC172 s (by omega) hh _ w h2 (.inr ⟨tr,pr,rfl⟩)).mono ?_
  rintro e w' ⟨N,rfl,_,_,hb⟩
  exact ⟨_,N,rfl,hb⟩
theorem below_grow (w:World) (k:Nat) (os:Array Obj):Below w.heap.size w (Sort.grow (w.drewN k) os) :=
 ⟨rfl,rfl,rfl,by simp [Sort.grow],fun i hi=>by
  show (w.heap++os)[i]?=w.heap[i]?
  rw [Array.getElem?_append_left hi]⟩
theorem itoa_any (v:Int) (h0:-9223372036854775808≤v) (h1:v≤9223372036854775807) (w:World) (hE:Env w) :
  Calls Tryz.prog 74 #[.int .i64 v] w fun e w'=>e=.returned (.string (bs (Lib.itoa v)))∧Below w.heap.size w w':=by
 refine (Tryz.strconv_Itoa v h0 h1 w hE.tab).mono ?_
 rintro e w' ⟨rfl,k,os,rfl⟩
 exact ⟨rfl,below_grow w k os⟩
theorem wordAt_yes {s:ByteArray} {n:Nat} (h:wordAt s.data.toList n=true):∃ hn:n < s.size,wordI ((s[n]).toNat:Int)=true:=by
 unfold wordAt at h
 split at h
 ·rename_i c hc
  obtain ⟨hn,he⟩:=List.getElem?_eq_some_iff.1 hc
  refine ⟨by simpa using hn,?_⟩
  rw [← h,← he,Array.getElem_toList]
  rfl
 ·cases h
theorem wordAt_no {s:ByteArray} {n:Nat} (h:wordAt s.data.toList n=false) (hn:n < s.size):wordI ((s[n]).toNat:Int)=false:=by
 unfold wordAt at h
 split at h
 ·rename_i c hc
  obtain ⟨hn,he⟩:=List.getElem?_eq_some_iff.1 hc
  rw [← h,← he,Array.getElem_toList]
  rfl
 ·rename_i hc
  rw [List.getElem?_eq_none_iff] at hc
  simp at hc
  exact absurd hn (by have:s.size=s.data.size:=rfl;omega)
theorem number_word (s:ByteArray) (hs:s.size≤140737488355328) (h0:0 < s.size) (h:wordAt s.data.toList (numLen s.data.toList)=true) (w:World) :
  Calls Tryz.prog 164 #[.string s] w fun e w'=>TokEnd none w e w':=by
 have HR:=Lib.hid (run_dig (s.extract 1 s.size) (by simp;omega))
 have HW:=Lib.hid word_any
 have HL:=Lib.hid (tail_list s)
 rw [HL.out] at HR
 unfold numLen at h
 generalize runL digI s.data.toList.tail=n at *
 obtain ⟨hn,h1⟩:=wordAt_yes h
 clear h
 go_enter Tryz.func164,Tryz.ntmps164
 go_wp2_with (first | (go_at_call 158;refine (HR.out _).mono ?_;rintro e w1 ⟨rfl,rfl⟩) | (go_at_call 179;refine (HW.out _ _).mono ?_;rintro e w1 ⟨rfl,rfl⟩))
 exact bodyPost_ret (v:=.tuple #[noTok,.bool false]) (by simp [results,Tryz.results164,go_sem,noTok]) rfl ⟨rfl,(Below.refl _ _).alloc (Nat.le_refl _) _⟩
theorem number_bad (s:ByteArray) (hs:s.size≤140737488355328) (h0:0 < s.size) (h:wordAt s.data.toList (numLen s.data.toList)=false) (hb:∀ v,Lib.atoiAll (s.data.toList.take (numLen s.data.toList)) ≠ .ok v) (w:World) (hE:Env w) :
  Calls Tryz.prog 164 #[.string s] w fun e w'=>TokEnd none w e w':=by
 have HR:=Lib.hid (run_dig (s.extract 1 s.size) (by simp;omega))
 have HW:=Lib.hid word_any
 have HL:=Lib.hid (tail_list s)
 have hle:=runL_le digI s.data.toList.tail
 simp at hle
 rw [HL.out] at HR
 unfold numLen at h hb
 generalize runL digI s.data.toList.tail=n at *
 have H1:=Lib.hid (fun hn=>wordAt_no (s:=s) (n:=1+n) h hn)
 clear h
 have HA:=Lib.hid (fun w hE=>atoi_bad (s.extract 0 (1+n)) (by simp;omega) (by rw [take_bs];exact hb) w hE)
 have HV:=Lib.hid hE
 clear hb hE
 rcases Nat.lt_or_ge (1+n) s.size with hn | hn
 all_goals
  first | (have h1:=H1.out hn) | skip
  go_enter Tryz.func164,Tryz.ntmps164
  go_wp2_with (first | (go_at_call 158;refine (HR.out _).mono ?_;rintro e w1 ⟨rfl,rfl⟩) | (go_at_call 179;refine (HW.out _ _).mono ?_;rintro e w1 ⟨rfl,rfl⟩) | (go_at_call 181;refine (HA.out _ (HV.out.below ((Below.refl _ _).alloc (Nat.le_refl _) _))).mono ?_;rintro e w1 ⟨v,N,rfl,hb1⟩;obtain ⟨hc,hf⟩:=bcell hb1))
  go_quiet (fail)
  go_wp2
  refine bodyPost_ret (v:=.tuple #[noTok,.bool false]) (by simp [results,Tryz.results164,go_sem,hc,noTok]) rfl ⟨rfl,below_tok (below_dN hb1 _) _ _ _⟩
theorem number_not (s:ByteArray) (hs:s.size≤140737488355328) (h0:0 < s.size) (h:wordAt s.data.toList (numLen s.data.toList)=false) (v:Int)
  (hv:Lib.atoiAll (s.data.toList.take (numLen s.data.toList))=.ok v) (hi:Lib.itoa v ≠ s.data.toList.take (numLen s.data.toList)) (w:World) (hE:Env w) :
  Calls Tryz.prog 164 #[.string s] w fun e w'=>TokEnd none w e w':=by
 have HR:=Lib.hid (run_dig (s.extract 1 s.size) (by simp;omega))
 have HW:=Lib.hid word_any
 have HL:=Lib.hid (tail_list s)
 have hle:=runL_le digI s.data.toList.tail
 simp at hle
 rw [HL.out] at HR
 unfold numLen at h hv hi
 generalize runL digI s.data.toList.tail=n at *
 have H1:=Lib.hid (fun hn=>wordAt_no (s:=s) (n:=1+n) h hn)
 clear h
 have HA:=Lib.hid (fun w=>atoi_ok (s.extract 0 (1+n)) (by simp;omega) v (by rw [take_bs];exact hv) w)
 obtain ⟨hb0,hb1⟩:=Lib.atoiAll_bounds hv
 have HI:=Lib.hid (fun w hE=>itoa_any v hb0 hb1 w hE)
 have hne:((bs (Lib.itoa v)).toList == (s.extract 0 (1+n)).toList)=false:=by
  rw [beq_eq_false_iff_ne,take_bs,ByteArray.toList_eq,ByteArray.toList_eq]
  intro h
  exact hi (by simpa [bs] using h)
 have HV:=Lib.hid hE
 clear hv hi hE hb0 hb1
 generalize bs (Lib.itoa v)=x at *
 rcases Nat.lt_or_ge (1+n) s.size with hn | hn
 all_goals
  first | (have h1:=H1.out hn) | skip
  go_enter Tryz.func164,Tryz.ntmps164
  go_wp2_with (first | (go_at_call 158;refine (HR.out _).mono ?_;rintro e w1 ⟨rfl,rfl⟩) | (go_at_call 179;refine (HW.out _ _).mono ?_;rintro e w1 ⟨rfl,rfl⟩) | (go_at_call 181;refine (HA.out _).mono ?_;rintro e w1 ⟨rfl,hb1⟩;obtain ⟨hc,hf⟩:=bcell hb1))
  have hE1:=Lib.hid (HV.out.below (((Below.refl _ _).alloc (Nat.le_refl _) _).trans (hb1.mono (by simp))))
  have cI:∀ d os,Calls Tryz.prog 74 #[.int .i64 v] (Sort.grow (redrawn w1 d) os) fun e w''=>e=.returned (.string x)∧∃ p:Regrown,w''=Sort.grow (redrawn w1 p.d) p.os :=
   fun d os=>Calls.regrown_of (HI.out _ (hE1.out.below (below_regrown w1 d os)))
  have CI:=Lib.hid cI
  clear cI
  refine wp_region_quiet_below (by kernel_rfl) (by kernel_rfl) ?_
  repeat (first | go_big_quiet_step (exact CI.out _ _) | quiet_step (exact CI.out _ _))
  refine wpQuiet_nil ?_
  intro _ hw'
  obtain ⟨⟨dq,osq⟩,hw''⟩:=hw'
  subst hw''
  have hbb:=hb1.trans ((below_regrown w1 dq osq).mono hb1.size)
  generalize Sort.grow (redrawn w1 dq) osq=w2 at hbb ⊢
  clear hc hf
  obtain ⟨hc,hf⟩:=bcell hbb
  go_wp2
  exact bodyPost_ret (v:=.tuple #[noTok,.bool false]) (by simp [results,Tryz.results164,go_sem,hc,noTok]) rfl ⟨rfl,below_tok hbb _ _ _⟩
theorem number_yes (s:ByteArray) (hs:s.size≤140737488355328) (h0:0 < s.size) (h:wordAt s.data.toList (numLen s.data.toList)=false) (v:Int)
  (hv:Lib.atoiAll (s.data.toList.take (numLen s.data.toList))=.ok v) (hi:Lib.itoa v=s.data.toList.take (numLen s.data.toList)) (w:World) (hE:Env w) :
  Calls Tryz.prog 164 #[.string s] w fun e w'=>TokEnd (some ⟨3,s.data.toList.take (numLen s.data.toList),v⟩) w e w':=by
 have HR:=Lib.hid (run_dig (s.extract 1 s.size) (by simp;omega))
 have HW:=Lib.hid word_any
 have HL:=Lib.hid (tail_list s)
 have hle:=runL_le digI s.data.toList.tail
 simp at hle
 rw [HL.out] at HR
 unfold numLen at h hv hi ⊢
 generalize runL digI s.data.toList.tail=n at *
 have H1:=Lib.hid (fun hn=>wordAt_no (s:=s) (n:=1+n) h hn)
 clear h
 have HA:=Lib.hid (fun w=>atoi_ok (s.extract 0 (1+n)) (by simp;omega) v (by rw [take_bs];exact hv) w)
 obtain ⟨hb0,hb1⟩:=Lib.atoiAll_bounds hv
 have HI:=Lib.hid (fun w hE=>itoa_any v hb0 hb1 w hE)
 have hx:bs (Lib.itoa v)=s.extract 0 (1+n):=by rw [take_bs,hi]
 have HT:=Lib.hid (take_bs s (1+n))
 rw [hx] at HI
 have HV:=Lib.hid hE
 have HK:=Lib.hid (token_any 3 (s.extract 0 (1+n)) (by simp;omega))
 have HP:Hid (∀ e w',(e=.returned (.tuple #[.agg #[.int .i64 3,.string (s.extract 0 (1+n)),.int .i64 v],.bool true])∧Below w.heap.size w w')→TokEnd (some ⟨3,s.data.toList.take (1+n),v⟩) w e w'):=by
  rintro e w' ⟨rfl,hb⟩
  exact ⟨by rw [HT.out];rfl,hb⟩
 refine Calls.mono ?_ HP.out
 clear hv hi hE hx hb0 hb1 HT HP
 rcases Nat.lt_or_ge (1+n) s.size with hn | hn
 all_goals
  first | (have h1:=H1.out hn) | skip
  go_enter Tryz.func164,Tryz.ntmps164
  go_wp2_with (first | (go_at_call 158;refine (HR.out _).mono ?_;rintro e w1 ⟨rfl,rfl⟩) | (go_at_call 179;refine (HW.out _ _).mono ?_;rintro e w1 ⟨rfl,rfl⟩) | (go_at_call 181;refine (HA.out _).mono ?_;rintro e w1 ⟨rfl,hb1⟩;obtain ⟨hc,hf⟩:=bcell hb1))
  have hE1:=Lib.hid (HV.out.below (((Below.refl _ _).alloc (Nat.le_refl _) _).trans (hb1.mono (by simp))))
  have cI:∀ d os,Calls Tryz.prog 74 #[.int .i64 v] (Sort.grow (redrawn w1 d) os) fun e w''=>e=.returned (.string (s.extract 0 (1+n)))∧∃ p:Regrown,w''=Sort.grow (redrawn w1 p.d) p.os :=
   fun d os=>Calls.regrown_of (HI.out _ (hE1.out.below (below_regrown w1 d os)))
  have CI:=Lib.hid cI
  clear cI
  refine wp_region_quiet_below (by kernel_rfl) (by kernel_rfl) ?_
  repeat (first | go_big_quiet_step (exact CI.out _ _) | quiet_step (exact CI.out _ _))
  refine wpQuiet_nil ?_
  intro _ hw'
  obtain ⟨⟨dq,osq⟩,hw''⟩:=hw'
  subst hw''
  have hbb:=hb1.trans ((below_regrown w1 dq osq).mono hb1.size)
  generalize Sort.grow (redrawn w1 dq) osq=w2 at hbb ⊢
  clear hc hf
  go_wp2_with (go_at_call 180;refine (HK.out _).mono ?_;rintro e w3 ⟨rfl,hb3⟩;have hbc:=hbb.trans (hb3.mono hbb.size);obtain ⟨hc,hf⟩:=bcell hbc;have hz:w.heap.size < w3.heap.size:=by have:=hbc.size;simp at this;omega)
  exact bodyPost_ret (v:=.tuple #[.agg #[.int .i64 3,.string (s.extract 0 (1+n)),.int .i64 v],.bool true]) (by simp [results,Tryz.results164,go_sem,hc,hz]) rfl ⟨rfl,(below_tok hbc _ _ _).alloc (by simp;omega) _⟩
theorem number_any (s:ByteArray) (hs:s.size≤140737488355328) (h0:0 < s.size) (w:World) (hE:Env w) :
  Calls Tryz.prog 164 #[.string s] w fun e w'=>TokEnd (numTok s.data.toList) w e w':=by
 by_cases h:wordAt s.data.toList (numLen s.data.toList)=true
 ·rw [show numTok s.data.toList=none by unfold numTok;rw [if_pos h]]
  exact number_word s hs h0 h w
 ·have h':wordAt s.data.toList (numLen s.data.toList)=false:=by simpa using h
  by_cases hv:∃ v,Lib.atoiAll (s.data.toList.take (numLen s.data.toList))=.ok v
  ·obtain ⟨v,hv⟩:=hv
   by_cases hi:Lib.itoa v=s.data.toList.take (numLen s.data.toList)
   ·rw [show numTok s.data.toList=some ⟨3,s.data.toList.take (numLen s.data.toList),v⟩ by unfold numTok;rw [if_neg h];simp only [numOf,hv,if_pos hi]]
    exact number_yes s hs h0 h' v hv hi w hE
   ·rw [show numTok s.data.toList=none by unfold numTok;rw [if_neg h];simp only [numOf,hv,if_neg hi]]
    exact number_not s hs h0 h' v hv hi w hE
  ·have hb:∀ v,Lib.atoiAll (s.data.toList.take (numLen s.data.toList)) ≠ .ok v:=fun v e=>hv ⟨v,e⟩
   rw [show numTok s.data.toList=none by
    unfold numTok
    rw [if_neg h]
    have:numOf (s.data.toList.take (numLen s.data.toList))=none:=by
     unfold numOf
     split
     ·rename_i u hu;exact absurd hu (hb u)
     ·rfl
    rw [this]]
   exact number_bad s hs h0 h' hb w hE
end Lx
end Go.Proofs.YtiljemkglhloeaaGreatDoor
namespace Go.Proofs.YtiljemkglhloeaaGreatDoor
set_option linter.unusedSimpArgs false
set_option linter.unusedVariables false
namespace Lx
open Go Go.RowKit
theorem mark_index_fin:∀ x:Fin 256,decide (Lib.indexByte [40,41,44,46,59,124,61] (x.val.toUInt8) < 0)=!markI (x.val:Int):=by decide +kernel
theorem mark_index (c:UInt8):decide (Lib.indexByte [40,41,44,46,59,124,61] ((c.toNat:Int).toNat.toUInt8) < 0)=!markI (c.toNat:Int):=by
 have h:=mark_index_fin ⟨c.toNat,c.toNat_lt⟩
 simpa using h
theorem beq58 (a:UInt8):((58:UInt8) == a)=((a.toNat:Int) == 58):=by
 rw [Bool.eq_iff_iff,beq_iff_eq,beq_iff_eq]
 constructor
 ·rintro rfl;rfl
 ·intro h;exact UInt8.toNat_inj.1 (by show 58=a.toNat;omega)
theorem beq45 (a:UInt8):((45:UInt8) == a)=((a.toNat:Int) == 45):=by
 rw [Bool.eq_iff_iff,beq_iff_eq,beq_iff_eq]
 constructor
 ·rintro rfl;rfl
 ·intro h;exact UInt8.toNat_inj.1 (by show 45=a.toNat;omega)
theorem arrow_prefix (l:List UInt8):Lib.hasPrefix l [58,45]=arrow l:=by
 cases l with
 | nil=>rfl
 | cons a r =>
  cases r with
  | nil=>simp [Lib.hasPrefix,arrow,List.isPrefixOf]
  | cons b r =>
   simp only [Lib.hasPrefix,arrow,List.isPrefixOf,beq58,beq45,Bool.and_true]
theorem mark_arrow (s:ByteArray) (h:arrow s.data.toList=true) (w:World) :
  Calls Tryz.prog 165 #[.string s] w fun e w'=>TokEnd (some ⟨4,[58,45],0⟩) w e w':=by
 have hp:=Tryz.strings_HasPrefix s (bs [58,45])
 rw [show (bs [58,45]).data.toList=[58,45] from rfl,arrow_prefix,h] at hp
 have HP:=Lib.hid hp
 have HK:=Lib.hid (token_any 4 (bs [58,45]) (by rw [bs_size];simp))
 clear hp h
 unfold bs at HP HK
 go_enter Tryz.func165,Tryz.ntmps165
 go_wp2_with (first | (go_at_call 182;refine (HP.out _).mono ?_;rintro e w1 ⟨rfl,rfl⟩) | (go_at_call 180;refine (HK.out _).mono ?_;rintro e w1 ⟨rfl,hb1⟩;obtain ⟨hc,hf⟩:=bcell hb1))
 exact bodyPost_ret (v:=.tuple #[tokV ⟨4,[58,45],0⟩,.bool true]) (by simp [results,Tryz.results165,go_sem,hc,tokV,bs]) rfl ⟨rfl,below_tok hb1 _ _ _⟩
theorem mark_one (s:ByteArray) (hs:s.size≤140737488355328) (h0:0 < s.size) (h:arrow s.data.toList=false) (hm:markI ((s[0]).toNat:Int)=true) (w:World) :
  Calls Tryz.prog 165 #[.string s] w fun e w'=>TokEnd (some ⟨4,[s[0]],0⟩) w e w':=by
 have hp:=Tryz.strings_HasPrefix s (bs [58,45])
 rw [show (bs [58,45]).data.toList=[58,45] from rfl,arrow_prefix,h] at hp
 have HP:=Lib.hid hp
 have hi:=Tryz.strings_IndexByte (bs [40,41,44,46,59,124,61]) ((s[0]).toNat:Int)
 rw [show (bs [40,41,44,46,59,124,61]).data.toList=[40,41,44,46,59,124,61] from rfl] at hi
 have hx:=mark_index s[0]
 rw [hm] at hx
 generalize Lib.indexByte [40,41,44,46,59,124,61] ((s[0].toNat:Int).toNat.toUInt8)=x at hi hx
 have hx':0≤x:=by simpa using hx
 have HI:=Lib.hid hi
 have he:s.extract 0 1=bs [s[0]]:=by
  rw [take_bs]
  congr 1
  rw [List.take_one,List.head?_eq_getElem?,List.getElem?_eq_getElem (by simpa using h0)]
  rfl
 have HE:=Lib.hid he
 have HK:=Lib.hid (token_any 4 (s.extract 0 1) (by simp;omega))
 have HQ:Hid (∀ e w',(e=.returned (.tuple #[.agg #[.int .i64 4,.string (s.extract 0 1),.int .i64 0],.bool true])∧Below w.heap.size w w')→TokEnd (some ⟨4,[s[0]],0⟩) w e w'):=by
  rintro e w' ⟨rfl,hb⟩
  exact ⟨by rw [HE.out];rfl,hb⟩
 refine Calls.mono ?_ HQ.out
 clear hp h hm hi hx he HE HQ
 unfold bs at HP HI
 go_enter Tryz.func165,Tryz.ntmps165
 go_wp2_with (first | (go_at_call 182;refine (HP.out _).mono ?_;rintro e w1 ⟨rfl,rfl⟩) | (go_at_call 183;refine (HI.out _).mono ?_;rintro e w1 ⟨rfl,rfl⟩) | (go_at_call 180;refine (HK.out _).mono ?_;rintro e w1 ⟨rfl,hb1⟩;obtain ⟨hc,hf⟩:=bcell hb1))
 exact bodyPost_ret (v:=.tuple #[.agg #[.int .i64 4,.string (s.extract 0 1),.int .i64 0],.bool true]) (by simp [results,Tryz.results165,go_sem,hc]) rfl ⟨rfl,below_tok hb1 _ _ _⟩
theorem mark_none (s:ByteArray) (h0:0 < s.size) (h:arrow s.data.toList=false) (hm:markI ((s[0]).toNat:Int)=false) (w:World) :
  Calls Tryz.prog 165 #[.string s] w fun e w'=>TokEnd none w e w':=by
 have hp:=Tryz.strings_HasPrefix s (bs [58,45])
 rw [show (bs [58,45]).data.toList=[58,45] from rfl,arrow_prefix,h] at hp
 have HP:=Lib.hid hp
 have hi:=Tryz.strings_IndexByte (bs [40,41,44,46,59,124,61]) ((s[0]).toNat:Int)
 rw [show (bs [40,41,44,46,59,124,61]).data.toList=[40,41,44,46,59,124,61] from rfl] at hi
 have hx:=mark_index s[0]
 rw [hm] at hx
 generalize Lib.indexByte [40,41,44,46,59,124,61] ((s[0].toNat:Int).toNat.toUInt8)=x at hi hx
 have hx':x < 0:=by simpa using hx
 have HI:=Lib.hid hi
 clear hp h hm hi hx
 unfold bs at HP HI
 go_enter Tryz.func165,Tryz.ntmps165
 go_wp2_with (first | (go_at_call 182;refine (HP.out _).mono ?_;rintro e w1 ⟨rfl,rfl⟩) | (go_at_call 183;refine (HI.out _).mono ?_;rintro e w1 ⟨rfl,rfl⟩))
 exact bodyPost_ret (v:=.tuple #[noTok,.bool false]) (by simp [results,Tryz.results165,go_sem,noTok]) rfl ⟨rfl,(Below.refl _ _).alloc (Nat.le_refl _) _⟩
theorem list_cons (s:ByteArray) (h0:0 < s.size):s.data.toList=s[0] :: s.data.toList.tail:=by
 rw [← List.drop_one]
 have:=List.drop_eq_getElem_cons (l:=s.data.toList) (i:=0) (by simpa using h0)
 simp only [List.drop_zero,Array.getElem_toList] at this
 exact this
theorem mark_any (s:ByteArray) (hs:s.size≤140737488355328) (h0:0 < s.size) (w:World) :
  Calls Tryz.prog 165 #[.string s] w fun e w'=>TokEnd (markTok s.data.toList) w e w':=by
 by_cases h:arrow s.data.toList=true
 ·rw [show markTok s.data.toList=some ⟨4,[58,45],0⟩ by unfold markTok;rw [if_pos h]]
  exact mark_arrow s h w
 ·have h':arrow s.data.toList=false:=by simpa using h
  by_cases hm:markI ((s[0]).toNat:Int)=true
  ·rw [show markTok s.data.toList=some ⟨4,[s[0]],0⟩ by unfold markTok;rw [if_neg h,list_cons s h0];simp only [if_pos hm]]
   exact mark_one s hs h0 h' hm w
  ·rw [show markTok s.data.toList=none by unfold markTok;rw [if_neg h,list_cons s h0];simp only [if_neg hm]]
   exact mark_none s h0 h' (by simpa using hm) w
/-- The token at a text's beginning. -/
theorem first_any (s:ByteArray) (hs:s.size≤140737488355328) (h0:0 < s.size) (w:World) (hE:Env w) :
  Calls Tryz.prog 140 #[.string s] w fun e w'=>TokEnd (tokAt s.data.toList) w e w':=by
 have HL:=Lib.hid low_any
 have HU:=Lib.hid up_any
 have HD:=Lib.hid dig_any
 have hW:=fun k w=>wordt_any k s hs h0 w
 have hN:=fun w hE=>number_any s hs h0 w hE
 have hM:=fun w=>mark_any s hs h0 w
 have HV:=Lib.hid hE
 have ht:Hid (tokAt s.data.toList=if lowI ((s[0]).toNat:Int)=true then wordTok 1 s.data.toList
  else if (upI ((s[0]).toNat:Int) || ((s[0]).toNat:Int) == 95)=true then wordTok 2 s.data.toList
  else if (digI ((s[0]).toNat:Int) || ((s[0]).toNat:Int) == 45)=true then numTok s.data.toList
  else markTok s.data.toList):=by
  rw [list_cons s h0]
  rfl
 clear hE
 by_cases h1:lowI ((s[0]).toNat:Int)=true
 ·rw [ht.out,if_pos h1]
  have HW:=Lib.hid (hW 1)
  clear hW hN hM ht HV HU HD
  generalize wordTok 1 s.data.toList=o at *
  go_enter Tryz.func140,Tryz.ntmps140
  go_wp2_with (first | (go_at_call 160;refine (HL.out _ _).mono ?_;rintro e w1 ⟨rfl,rfl⟩) | (go_at_call 161;refine (HW.out _).mono ?_;rintro e w1 ⟨rfl,hb1⟩;obtain ⟨hc,hf⟩:=bcell hb1))
  exact bodyPost_ret (v:=.tuple #[.agg #[.int .i64 (tk o),.string (tx o),.int .i64 (tn o)],.bool (tb o)]) (by simp [results,Tryz.results140,go_sem,hc]) rfl ⟨rfl,below_tok hb1 _ _ _⟩
 ·have h1':lowI ((s[0]).toNat:Int)=false:=by simpa using h1
  by_cases h2:(upI ((s[0]).toNat:Int) || ((s[0]).toNat:Int) == 95)=true
  ·rw [ht.out,if_neg h1,if_pos h2]
   have HW:=Lib.hid (hW 2)
   clear hW hN hM ht HV HD h1
   generalize wordTok 2 s.data.toList=o at *
   have h2':upI ((s[0]).toNat:Int)=true ∨ (upI ((s[0]).toNat:Int)=false∧(((s[0]).toNat:Int) == 95)=true):=by
    cases h:upI ((s[0]).toNat:Int)
    ·rw [h,Bool.false_or] at h2;exact .inr ⟨rfl,h2⟩
    ·exact .inl rfl
   clear h2
   rcases h2' with h2 | ⟨h2,h3⟩
   all_goals
    go_enter Tryz.func140,Tryz.ntmps140
    go_wp2_with (first | (go_at_call 160;refine (HL.out _ _).mono ?_;rintro e w1 ⟨rfl,rfl⟩) | (go_at_call 162;refine (HU.out _ _).mono ?_;rintro e w1 ⟨rfl,rfl⟩) | (go_at_call 161;refine (HW.out _).mono ?_;rintro e w1 ⟨rfl,hb1⟩;obtain ⟨hc,hf⟩:=bcell hb1))
    exact bodyPost_ret (v:=.tuple #[.agg #[.int .i64 (tk o),.string (tx o),.int .i64 (tn o)],.bool (tb o)]) (by simp [results,Tryz.results140,go_sem,hc]) rfl ⟨rfl,below_tok hb1 _ _ _⟩
  ·have h2':upI ((s[0]).toNat:Int)=false∧(((s[0]).toNat:Int) == 95)=false:=by simpa [-beq_iff_eq,-beq_eq_false_iff_ne] using h2
   obtain ⟨h3,h4⟩:=h2'
   by_cases h5:(digI ((s[0]).toNat:Int) || ((s[0]).toNat:Int) == 45)=true
   ·rw [ht.out,if_neg h1,if_neg h2,if_pos h5]
    have HN:=Lib.hid hN
    clear hW hN hM ht h1 h2
    generalize numTok s.data.toList=o at *
    have h5':digI ((s[0]).toNat:Int)=true ∨ (digI ((s[0]).toNat:Int)=false∧(((s[0]).toNat:Int) == 45)=true):=by
     cases h:digI ((s[0]).toNat:Int)
     ·rw [h,Bool.false_or] at h5;exact .inr ⟨rfl,h5⟩
     ·exact .inl rfl
    clear h5
    rcases h5' with h5 | ⟨h5,h6⟩
    all_goals
     go_enter Tryz.func140,Tryz.ntmps140
     go_wp2_with (first | (go_at_call 160;refine (HL.out _ _).mono ?_;rintro e w1 ⟨rfl,rfl⟩) | (go_at_call 162;refine (HU.out _ _).mono ?_;rintro e w1 ⟨rfl,rfl⟩) | (go_at_call 163;refine (HD.out _ _).mono ?_;rintro e w1 ⟨rfl,rfl⟩) | (go_at_call 164;refine (HN.out _ (HV.out.below ((Below.refl _ _).alloc (Nat.le_refl _) _))).mono ?_;rintro e w1 ⟨rfl,hb1⟩;obtain ⟨hc,hf⟩:=bcell hb1))
     exact bodyPost_ret (v:=.tuple #[.agg #[.int .i64 (tk o),.string (tx o),.int .i64 (tn o)],.bool (tb o)]) (by simp [results,Tryz.results140,go_sem,hc]) rfl ⟨rfl,below_tok hb1 _ _ _⟩
   ·have h5':digI ((s[0]).toNat:Int)=false∧(((s[0]).toNat:Int) == 45)=false:=by simpa [-beq_iff_eq,-beq_eq_false_iff_ne] using h5
    obtain ⟨h6,h7⟩:=h5'
    rw [ht.out,if_neg h1,if_neg h2,if_neg h5]
    have HM:=Lib.hid hM
    clear hW hN hM ht h1 h2 h5 HV
    generalize markTok s.data.toList=o at *
    go_enter Tryz.func140,Tryz.ntmps140
    go_wp2_with (first | (go_at_call 160;refine (HL.out _ _).mono ?_;rintro e w1 ⟨rfl,rfl⟩) | (go_at_call 162;refine (HU.out _ _).mono ?_;rintro e w1 ⟨rfl,rfl⟩) | (go_at_call 163;refine (HD.out _ _).mono ?_;rintro e w1 ⟨rfl,rfl⟩) | (go_at_call 165;refine (HM.out _).mono ?_;rintro e w1 ⟨rfl,hb1⟩;obtain ⟨hc,hf⟩:=bcell hb1))
    exact bodyPost_ret (v:=.tuple #[.agg #[.int .i64 (tk o),.string (tx o),.int .i64 (tn o)],.bool (tb o)]) (by simp [results,Tryz.results140,go_sem,hc]) rfl ⟨rfl,below_tok hb1 _ _ _⟩
end Lx
end Go.Proofs.YtiljemkglhloeaaGreatDoor
namespace Go.Proofs.YtiljemkglhloeaaGreatDoor
set_option linter.unusedSimpArgs false
set_option linter.unusedVariables false
namespace Lx
open Go Go.RowKit
/-- The cells of tokens in a row. -/
def cellsT (ts:List Tok):List Value:=ts.flatMap fun t=>[.int .i64 t.kind,.string (bs t.text),.int .i64 t.num]
theorem cellsT_snoc (ts:List Tok) (t:Tok):cellsT (ts++[t])=cellsT ts++[.int .i64 t.kind,.string (bs t.text),.int .i64 t.num]:=by simp [cellsT]
theorem infoTok:(Tryz.prog.info? 162).map (fun i=>(i.zero,i.size,i.bytes))=some (some noTok,3,32):=by kernel_rfl
/-- All blocks that lay in w stand as they stood, but for block B and the row that v owned. -/
structure But2 (B:Nat) (v:Value) (w w':World):Prop where
 os:w'.os=w.os
 tape:w'.tape=w.tape
 output:w'.output=w.output
 size:w.heap.size≤w'.heap.size
 block:∀ b,b < w.heap.size→b ≠ B→v.ownBlock ≠ some b→w'.heap[b]?=w.heap[b]?
/-- Block B holds a slice that owns the tokens ts. -/
def Held (base:Nat) (w:World) (B:Nat) (v:Value) (ts:List Tok):Prop :=
 w.heap[B]?=some (.cells #[v] 109 (0,0))∧base≤B∧w.ownsRow base 162 3 v ts.length (cellsT ts)
theorem Held.lt {base:Nat} {w:World} {B:Nat} {v:Value} {ts:List Tok} (h:Held base w B v ts):B < w.heap.size:=by
 rcases Nat.lt_or_ge B w.heap.size with hlt | hge
 ·exact hlt
 ·rw [Held,Array.getElem?_eq_none hge] at h;exact absurd h.1 (by simp)
theorem owns_shape {w:World} {base:Nat} {e:TypeId} {size:Nat} {v:Value} {n:Nat} {xs:List Value} (h:w.ownsRow base e size v n xs):∃ A c,v=.slice A n c:=by
 rcases h.2 with ⟨rfl,rfl⟩ | ⟨g,cap,cur,rfl,_⟩
 ·exact ⟨_,_,rfl⟩
 ·exact ⟨_,_,rfl⟩
theorem cells_new (w:World) (cs:Array Value) (e:TypeId) (b:Nat) (hb:b=w.heap.size):∀ j u,cs.toList[j]?=some u→(w.alloc (.cells cs e)).cell? ((⟨b,0,none⟩:Addr).add j)=some u:=by
 subst hb
 intro j u h
 have h1:(w.alloc (.cells cs e)).heap[w.heap.size]?=some (.cells cs e (0,0)):=by
  show (w.heap.push _)[w.heap.size]?=_
  simp
 have h2:=cell_of_row (w.alloc (.cells cs e)) w.heap.size j cs e (0,0) h1
 have h3:((⟨w.heap.size,0,none⟩:Addr).add j)=⟨w.heap.size,j,none⟩:=by
  by_cases hj:j=0
  ·subst hj;rfl
  ·simp [Addr.add,hj]
 rw [h3,h2]
 simpa using h
theorem owner_ne {w:World} {base:Nat} {e t:TypeId} {size n B:Nat} {v:Value} {xs:List Value} {cs:Array Value} (hne:e ≠ t) (h:w.ownsRow base e size v n xs) (hB:w.heap[B]?=some (.cells cs t (0,0))):v.ownBlock ≠ some B:=by
 rcases h.2 with ⟨rfl,_⟩ | ⟨g,cap,cur,rfl,_,hg,_⟩
 ·simp [Value.ownBlock]
 ·intro he
  have:g=B:=by simpa [Value.ownBlock] using he
  subst this
  rw [hg] at hB
  injection hB with hB
  injection hB with _ ht
  exact hne ht
theorem setCell_heap_same {w:World} {B:Nat} {t:TypeId} {v u:Value} (hB:w.heap[B]?=some (.cells #[v] t (0,0))):(w.setCell ⟨B,0,none⟩ u).heap[B]?=some (.cells #[u] t (0,0)):=by
 simp [World.setCell,Array.getElem?_modify,hB]
theorem grownBy_setCell (w:World) (p:Addr) (u:Value):w.grownBy (w.setCell p u) (some p.block) :=
 ⟨rfl,rfl,rfl,by simp [World.setCell],fun k _ hne=>Below.heap_setCell w p u k (fun e=>hne (by rw [e]))⟩
theorem held_next {base:Nat} {w w1:World} {o1 o2:Obj} {B:Nat} {v v':Value} {n:Nat} {xs ys:List Value} (hB:w.heap[B]?=some (.cells #[v] 109 (0,0))) (hlt:B < w.heap.size)
  (hown:w.ownsRow base 162 3 v n xs) (hg:((w.alloc o1).alloc o2).grownBy w1 v.ownBlock) (hown':w1.ownsRow base 162 3 v' (n+1) ys) :
  (w1.cell? ⟨B,0,none⟩=some v∧w1.frozen? ⟨B,0,none⟩=false)∧(w1.setCell ⟨B,0,none⟩ v').heap[B]?=some (.cells #[v'] 109 (0,0))∧(w1.setCell ⟨B,0,none⟩ v').ownsRow base 162 3 v' (n+1) ys∧But2 B v w (w1.setCell ⟨B,0,none⟩ v'):=by
 have h1:=owner_ne (by decide) hown hB
 have e1:∀ b,b < w.heap.size→((w.alloc o1).alloc o2).heap[b]?=w.heap[b]?:=fun b hb =>
  (Below.heap_alloc _ o2 b (by simp;omega)).trans (Below.heap_alloc w o1 b hb)
 have hB1:w1.heap[B]?=some (.cells #[v] 109 (0,0)):=by
  rw [hg.block B (by simp;omega) (fun e=>h1 e.symm),e1 B hlt,hB]
 have h2:=owner_ne (by decide) hown' hB1
 refine ⟨⟨by rw [cell_of_row w1 B 0 _ _ _ hB1];rfl,by simp [World.frozen?,hB1]⟩,setCell_heap_same hB1,hown'.kept (grownBy_setCell w1 _ _) (.inr h2),hg.os,hg.tape,hg.output,?_,?_⟩
 ·have:=hg.size
  simp [World.setCell] at this ⊢
  omega
 ·intro b hb hbB hbv
  rw [Below.heap_setCell w1 _ _ b hbB,hg.block b (by simp;omega) (fun e=>hbv e.symm),e1 b hb]
theorem yield_any (base:Nat) (w:World) (B:Nat) (v:Value) (ts:List Tok) (t:Tok) (p:Int) (hH:Held base w B v ts) (hn:ts.length≤20000) (hbase:base≤w.heap.size) :
  Calls Tryz.prog 122 #[.int .i64 p,.agg #[.int .i64 t.kind,.string (bs t.text),.int .i64 t.num],.pointer (some ⟨B,0,none⟩)] w fun e w' =>
   e=.returned (.bool true)∧But2 B v w w'∧∃ v',Held base w' B v' (ts++[t]):=by
 obtain ⟨i0,hi,hz0,hz1,hz2⟩:=info_parts infoTok
 have hlt:=hH.lt
 obtain ⟨hB,hbB,hown⟩:=hH
 obtain ⟨A,c,rfl⟩:=owns_shape hown
 have hc:w.cell? ⟨B,0,none⟩=some (.slice A ts.length c):=by simp [World.cell?,hB]
 have HB:=Lib.hid hB
 have HO:=Lib.hid hown
 have HI:=Lib.hid hi
 have H0:=Lib.hid hz0
 have H1:=Lib.hid hz1
 have H2:=Lib.hid hz2
 clear hB hown hi hz0 hz1 hz2
 have hcs:Hid (cellsT (ts++[t])=cellsT ts++[.int .i64 t.kind,.string (bs t.text),.int .i64 t.num]):=cellsT_snoc ts t
 generalize hx:bs t.text=x at *
 generalize t.kind=k at *
 generalize t.num=m at *
 clear hx
 have HN:=Lib.hid hn
 clear hn
 have hq:∀ u ∈ [Value.int .i64 k,.string x,.int .i64 m],u.oneCell'=true:=by simp [Value.oneCell']
 have HQ:=Lib.hid hq
 clear hq
 go_enter Tryz.func122,Tryz.ntmps122
 go_wp2_with (at_builtin;go_must (refine wpList_append_own _ rfl _ _ 109 rfl base 162 i0 noTok 3 32 Tryz.underlying109 HI.out H0.out H1.out H2.out rfl (by decide) _ _ _ rfl ((HO.out.alloc _).alloc _) ⟨w.heap.size+1,0,none⟩ 1 1 [.int .i64 k,.string x,.int .i64 m] rfl rfl (cells_new _ #[.int .i64 k,.string x,.int .i64 m] _ _ (by simp)) HQ.out ?c3 ?c4 ?c5 ?_);go_must (case c3=>(have:=HN.out;unfold maxLen;omega));go_must (case c4=>(have:=HN.out;omega));go_must (case c5=>(simp;omega));go_must (intro v' w1 hown' hg _);go_must (obtain ⟨g',cap',rfl⟩:=ownsRow_succ hown');go_must (have hh:=Lib.hid (held_next HB.out hlt HO.out hg hown'));go_must (obtain ⟨hc1,hf1⟩:=hh.out.1))
 go_ret
 exact ⟨rfl,hh.out.2.2.2,_,hh.out.2.1,hbB,by rw [hcs.out,List.length_append];exact hh.out.2.2.1⟩
theorem But2.below {base B:Nat} {v:Value} {w w':World} (h:But2 B v w w') (hB:base≤B) (hv:∀ b,v.ownBlock=some b→base≤b) (hbase:base≤w.heap.size):Below base w w' :=
 ⟨h.os,h.tape,h.output,h.size,fun k hk=>h.block k (by omega) (by omega) (fun e=>by have:=hv k e;omega)⟩
theorem Held.below {base:Nat} {w w':World} {B:Nat} {v:Value} {ts:List Tok} (h:Held base w B v ts) (hb:Below w.heap.size w w'):Held base w' B v ts:=by
 have hlt:=h.lt
 refine ⟨(hb.block B hlt).trans h.1,h.2.1,h.2.2.kept (row:=none) ⟨hb.os,hb.tape,hb.output,hb.size,fun k hk _=>hb.block k hk⟩ ?_⟩
 cases v.ownBlock <;> simp
end Lx
end Go.Proofs.YtiljemkglhloeaaGreatDoor
namespace Go.Proofs.YtiljemkglhloeaaGreatDoor
set_option linter.unusedSimpArgs false
set_option linter.unusedVariables false
namespace Lx
open Go Go.RowKit
/-- The two errors of package api that this layer returns. -/
structure Errs (w:World) (el et:Value):Prop where
 large:w.cell? ⟨0,0,none⟩=some el
 text:w.cell? ⟨2,0,none⟩=some et
 islarge:∃ tp p,el=.iface tp p
 istext:∃ tp p,et=.iface tp p
theorem tok_cells {w:World} {b:Nat} {x y z:Value} (h:w.heap[b]?=some (.cells #[x,y,z] 162 (0,0))):w.cell? ⟨b,0,none⟩=some x∧w.cell? ⟨b,1,none⟩=some y∧w.cell? ⟨b,2,none⟩=some z :=
 ⟨by rw [cell_of_row w b 0 _ _ _ h];rfl,by rw [cell_of_row w b 1 _ _ _ h];rfl,by rw [cell_of_row w b 2 _ _ _ h];rfl⟩
def ScanEnd (W:World) (B:Nat) (s:ByteArray) (et:Value) (e:Ending) (w':World):Prop :=
 e=.returned (if whole s.data.toList=true then .nilIface else et)∧Below W.heap.size W w'∧∃ v,Held W.heap.size w' B v (toks s.data.toList)
theorem tok_kept {base:Nat} {w1 w2:World} {B:Nat} {v:Value} {ts:List Tok} {x y z:Value} (hH:Held base w1 B v ts) (hbut:But2 B v (w1.alloc (.cells #[x,y,z] 162)) w2) :
  w2.heap[w1.heap.size]?=some (.cells #[x,y,z] 162 (0,0)):=by
 have h1:=hH.lt
 rw [hbut.block w1.heap.size (by simp) (by omega) (fun e=>by have:=hH.2.2.lt _ e;omega)]
 show (w1.heap.push _)[w1.heap.size]?=_
 simp
theorem scan_list (s:ByteArray) (hs:s.size≤16384) (W:World) (hE:Env W) (el et:Value) (hR:Errs W el et) (B:Nat) (w:World) (hb:Below W.heap.size W w) (hH:Held W.heap.size w B (.slice none 0 0) []) :
  Calls Tryz.prog 121 #[.string s,.func (.func 122) #[] #[.pointer (some ⟨B,0,none⟩)]] w fun e w'=>ScanEnd W B s et e w':=by
 have HS:=Lib.hid (fun p hp w=>skip_any s (by omega) p hp w)
 have hsz:=hE.size
 obtain ⟨tp,pv,rfl⟩:=hR.istext
 have hbig:decide ((16384:Int) < (s.size:Int))=false:=by simp;omega
 have HT:=Lib.hid hR.text
 have HV:=Lib.hid hE
 have HF:Hid (∀ k,k < s.size→∀ w,Env w→Calls Tryz.prog 140 #[.string (s.extract k s.size)] w fun e w'=>TokEnd (tokAt (s.data.toList.drop k)) w e w'):=by
  intro k hk w hE
  have h:=first_any (s.extract k s.size) (by simp;omega) (by simp;omega) w hE
  rwa [ext_list] at h
 have hst:=found_start s.data.toList
 have HST:=Lib.hid hst
 have hss:skipL false s.data.toList≤s.size:=by have:=hst.1.1;simpa using this
 have h0:skipL false (s.data.toList.drop 0)=skipL false s.data.toList:=by rw [List.drop_zero]
 have HZ:=Lib.hid h0
 clear hst h0 hE
 go_enter Tryz.func121,Tryz.ntmps121
 go_wp2_with (go_at_call 139;refine (HS.out 0 (Nat.zero_le _) _).mono ?_;rw [HZ.out];rintro e w' ⟨rfl,rfl⟩)
 go_loopw [5] (fun i wr=>∃ k pre v,k≤s.size∧i=.int .i64 k∧Hid (Found s.data.toList k pre)∧Held W.heap.size wr B v (pre.map (·.2))∧Below W.heap.size W wr) (fun i _=>s.size - (intOf i).toNat)
 case atStart=>exact ⟨_,[],_,hss,rfl,HST,hH,hb⟩
 case round =>
  obtain ⟨k,pre,v,hk,rfl,hfd,hH1,hb1⟩:=hrel
  clear hH hb HST HZ
  have hl:s.data.toList.length=s.size:=by simp
  have HL:=Lib.hid hl
  clear hl
  by_cases hlt:k < s.size
  ·cases ht:tokAt (s.data.toList.drop k) with
   | none =>
    have HB:=Lib.hid (found_bad hfd.out (by rw [HL.out];exact hlt) ht)
    have hF:=HF.out k hlt
    rw [ht] at hF
    have HF1:Hid (∀ w,Env w→Calls Tryz.prog 140 #[.string (s.extract k s.size)] w fun e w'=>e=.returned (.tuple #[.agg #[.int .i64 0,.string ⟨#[]⟩,.int .i64 0],.bool false])∧Below w.heap.size w w'):=Lib.hid hF
    clear hF ht
    go_wp2_with (go_at_call 140;refine (HF1.out _ (HV.out.below hb1)).mono ?_;rintro e w1 ⟨rfl,hb2⟩;have hb3:=hb1.trans (hb2.mono hb1.size);have hg:w1.cell? ⟨2,0,none⟩=some (.iface tp pv):=(hb3.cell (p:=⟨2,0,none⟩) (by simp;omega)).trans HT.out;have hz:2 < w1.heap.size:=by (have:=hb3.size;omega))
    go_ret
    obtain ⟨e1,e2⟩:=toks_of HB.out
    exact ⟨by rw [e2];rfl,hb3.alloc hb3.size _,v,by rw [e1];exact (hH1.below hb2).below ((Below.refl _ _).alloc (Nat.le_refl _) _)⟩
   | some t =>
    have hnx:=found_next hfd.out (by rw [HL.out];exact hlt) ht
    rw [HL.out,← bs_size t.text] at hnx
    obtain ⟨hle,h1,hfn⟩:=hnx
    have HFN:=Lib.hid hfn
    have hF:=HF.out k hlt
    rw [ht] at hF
    have HF1:Hid (∀ w,Env w→Calls Tryz.prog 140 #[.string (s.extract k s.size)] w fun e w'=>e=.returned (.tuple #[.agg #[.int .i64 t.kind,.string (bs t.text),.int .i64 t.num],.bool true])∧Below w.heap.size w w'):=Lib.hid hF
    have hpk:=hfd.out.2.1
    have hle2:=hfn.1.1
    rw [HL.out] at hle2
    have HY:=Lib.hid (fun w B v ts p hH hn hbase=>yield_any W.heap.size w B v ts t p hH hn hbase)
    clear hF ht hfn
    generalize bs t.text=x at *
    have hsk:=HS.out (k+x.size) hle
    have hkk:k < k+x.size+skipL false (s.data.toList.drop (k+x.size)):=by omega
    generalize k+x.size+skipL false (s.data.toList.drop (k+x.size))=k' at *
    rw [Int.natCast_add] at hsk
    have HSK:=Lib.hid hsk
    clear hsk
    go_wp2_with (first | (go_at_call 140;refine (HF1.out _ (HV.out.below hb1)).mono ?_;rintro e w1 ⟨rfl,hb2⟩;have hb3:=hb1.trans (hb2.mono hb1.size);have hH2:=hH1.below hb2) | (go_at_call 122;refine (HY.out _ _ v _ _ (hH2.below ((Below.refl _ _).alloc (Nat.le_refl _) _)) (by rw [List.length_map];omega) (hb3.alloc hb3.size _).size).mono ?_;rintro e w2 ⟨rfl,hbut,v',hH3⟩;have hk3:=Lib.hid (tok_kept hH2 hbut);obtain ⟨hc0,hc1,hc2⟩:=tok_cells hk3.out;have hb4:=Lib.hid ((hb3.alloc hb3.size _).trans (hbut.below hH2.2.1 (fun b e=>(hH2.2.2.lt b e).1) (hb3.alloc hb3.size _).size))) | (go_at_call 139;refine (HSK.out _).mono ?_;rintro e w' ⟨rfl,rfl⟩))
    go_roundw
    case rel=>exact ⟨k',pre++[(k,t)],v',hle2,rfl,HFN,by rw [List.map_append];exact hH3,hb4.out⟩
    case measure=>simp [intOf];omega
  ·have HB:=Lib.hid (found_end hfd.out (by rw [HL.out];omega))
   go_wp2
   go_ret
   obtain ⟨e1,e2⟩:=toks_of HB.out
   exact ⟨by rw [e2];rfl,hb1,v,by rw [e1];exact hH1⟩
/-- What Lex returns: the tokens and no error; or no token and an error. -/
def LexEnd (s:ByteArray) (el et:Value) (w:World) (e:Ending) (w':World):Prop :=
 Below w.heap.size w w'∧(
  (16384 < s.size∧e=.returned (.tuple #[.slice none 0 0,el])) ∨
  (s.size≤16384∧whole s.data.toList=false∧e=.returned (.tuple #[.slice none 0 0,et])) ∨
  (s.size≤16384∧whole s.data.toList=true∧∃ v,e=.returned (.tuple #[v,.nilIface])∧w'.ownsRow w.heap.size 162 3 v (toks s.data.toList).length (cellsT (toks s.data.toList))))
theorem scan_large (s:ByteArray) (hs:16384 < s.size) (el:Value) (hl:∃ tp p,el=.iface tp p) (f:Value) (w:World) (hc:w.cell? ⟨0,0,none⟩=some el) :
  Calls Tryz.prog 121 #[.string s,f] w fun e w'=>e=.returned el∧w=w':=by
 obtain ⟨tp,pv,rfl⟩:=hl
 have hbig:(16384:Int) < (s.size:Int):=by omega
 go_enter Tryz.func121,Tryz.ntmps121
 go_wp2
 go_ret
 exact ⟨rfl,rfl⟩
theorem lex_any (s:ByteArray) (w:World) (hE:Env w) (el et:Value) (hR:Errs w el et) :
  Calls Tryz.prog 92 #[.string s] w fun e w'=>LexEnd s el et w e w':=by
 have hz:0 < w.heap.size:=by have:=hE.size;omega
 rcases Nat.lt_or_ge 16384 s.size with hs | hs
 ·have hc:=hR.large
  have HC:=Lib.hid (fun f w hc=>scan_large s hs el hR.islarge f w hc)
  obtain ⟨tp,pv,rfl⟩:=hR.islarge
  have HG:=Lib.hid hc
  clear hR hE hc
  go_enter Tryz.func92,Tryz.ntmps92
  go_wp2_with (go_at_call 121;refine (HC.out _ _ (((Below.refl _ w).alloc (Nat.le_refl _) _).cell (p:=⟨0,0,none⟩) hz |>.trans HG.out)).mono ?_;rintro e w' ⟨rfl,rfl⟩)
  go_ret2
  exact ⟨(Below.refl _ _).alloc (Nat.le_refl _) _,.inl ⟨hs,rfl⟩⟩
 ·have hH:Held w.heap.size (w.alloc (.cells #[.slice none 0 0] 109)) w.heap.size (.slice none 0 0) [] :=
   ⟨by show (w.heap.push _)[w.heap.size]?=_;simp,Nat.le_refl _,World.ownsRow_nil _ _ _ _⟩
  have hS:=scan_list s hs w hE el et hR w.heap.size _ ((Below.refl _ w).alloc (Nat.le_refl _) _) hH
  obtain ⟨tp,pv,rfl⟩:=hR.istext
  clear hR hE hH
  cases hwh:whole s.data.toList with
  | false =>
   have hS2:=hS.mono (R':=fun e w'=>e=.returned (.iface tp pv)∧Below w.heap.size w w') (fun e w' h=>⟨by rw [h.1,hwh];rfl,h.2.1⟩)
   have HS:=Lib.hid hS2
   have HW:=Lib.hid hwh
   clear hS hS2 hwh
   go_enter Tryz.func92,Tryz.ntmps92
   go_wp2_with (go_at_call 121;refine HS.out.mono ?_;rintro e w' ⟨rfl,hb⟩)
   go_ret2
   exact ⟨hb,.inr (.inl ⟨hs,HW.out,rfl⟩)⟩
  | true =>
   have hS2:=hS.mono (R':=fun e w'=>e=.returned .nilIface∧Below w.heap.size w w'∧∃ v,Held w.heap.size w' w.heap.size v (toks s.data.toList)) (fun e w' h=>⟨by rw [h.1,hwh];rfl,h.2.1,h.2.2⟩)
   have HS:=Lib.hid hS2
   have HW:=Lib.hid hwh
   clear hS hS2 hwh
   go_enter Tryz.func92,Tryz.ntmps92
   go_wp2_with (go_at_call 121;refine HS.out.mono ?_;rintro e w' ⟨rfl,hb,v,hH⟩;obtain ⟨A,c,rfl⟩:=owns_shape hH.2.2;have hc:w'.cell? ⟨w.heap.size,0,none⟩=some (.slice A (toks s.data.toList).length c):=by (rw [cell_of_row w' w.heap.size 0 _ _ _ hH.1];rfl))
   go_ret2
   exact ⟨hb,.inr (.inr ⟨hs,HW.out,_,rfl,hH.2.2⟩)⟩
end Lx
end Go.Proofs.YtiljemkglhloeaaGreatDoor
